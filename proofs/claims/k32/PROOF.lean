
import PyProof.Rows.All
import Wide.All
import OpenK.AllK
import Wide.FinOn
import Lean
import PyProof.EqAt
import PyProof.EqKinds
import PyProof.TupleCall
import PySem.Challenge.RW_stonewalker_k32_whereabouts
set_option linter.all false
noncomputable section
def lJa:=@PySem.wpAny_bind
def lJb:=@if_neg
def lJc:=@if_pos
def lJd:=@PySem.wpAny_pure
def lJe:=@List.getElem?_eq_some_iff
def lJf:=@List.length_map
def lJg:=@List.getElem?_eq_getElem
def lJh:=@Nat.le_refl
def lJi:=@List.mem_of_getElem?
def lJj:=@PySem.Heap.lt_size
def lJk:=@List.mem_map
def lJl:=@List.mem_cons
def lJm:=@PySem.Heap.get?_push_of_some
def lJn:=@List.getElem?_map
def lJo:=@PySem.boot_len
def lJp:=@Bool.false_ne_true
def lJq:=@List.map_cons
def lJr:=@PySem.PassesOwn.never
def lJs:=@Nat.zero_le
def lJt:=@if_false
def lJu:=@List.mem_cons_self
def lJv:=@List.size_toArray
def lJw:=@Nat.ne_of_lt
def lJx:=@List.mem_cons_of_mem
def lJy:=@List.mem_range
def lJz:=@List.length_cons
def lJ0:=@decide_eq_false
def lJ1:=@List.mem_singleton
def lJ2:=@if_true
def lJ3:=@PySem.Heap.get?_push_size
def lJ4:=@List.getElem?_eq_none
def lJ5:=@congrArg
def lJ6:=@List.map_map
def lJ7:=@Option.some.inj
def lJ8:=@Nat.le_trans
def lJ9:=@PySem.F.plainAttrs_list
def lKa:=@decide_eq_true
def lKb:=@Nat.lt_of_lt_of_le
def lKc:=@List.getElem?_of_mem
def lKd:=@List.not_mem_nil
def lKe:=@PySem.sizeLine_eq
def lKf:=@List.length_append
def lKg:=@Option.map_eq_some_iff
def lKh:=@List.mem_append
def lKi:=@Array.length_toList
def lKj:=@Int.eq_ofNat_of_zero_le
def lKk:=@Nat.lt_or_ge
def lKl:=@List.getElem?_set_ne
def lKm:=@List.mem_append_right
def lKn:=@Bool.and_eq_true
def lKo:=@PySem.F.slot_list_append
def lKp:=@PySem.F.type_list_append
def lKq:=@Bool.false_eq_true
def lKr:=@List.getElem?_append_left
def lKs:=@List.exists_cons_of_length_eq_add_one
def lKt:=@Nat.succ.inj
def lKu:=@eq_false
def lKv:=@Classical.byContradiction
def lKw:=@List.getElem?_set_self
def lKx:=@Nat.not_lt_zero
def lKy:=@or_false
def lKz:=@List.nodup_cons
def lK0:=@List.lookup_cons
def lK1:=@List.ext_getElem?
def lK2:=@List.mem_filter
def lK3:=@List.length_nil
def lK4:=@PySem.wpAny_holding
def lK5:=@PySem.Around.in1_units
def lK6:=@List.replicate_succ
def lK7:=@Nat.mod_lt
def lK8:=@List.length_range
def lK9:=@List.cons.injEq
def lQa:=@Nat.mod_eq_of_lt
def lQb:=@PySem.wpAny_mono
def lQc:=@PySem.wpAny_newObj_type
def lQd:=@List.length_take
def lQe:=@List.any_cons
def lQf:=@List.find?_cons
def lQg:=@PyProof.Rows.callWith_type1
def lQh:=@List.length_eq_zero_iff
def lQi:=@Array.getElem?_eq_getElem
def lQj:=@List.range_succ
def lQk:=@List.map_append
def lQl:=@Option.bind_some
def lQm:=@PySem.wpAny_call_entry
def lQn:=@List.append_nil
def lQo:=@List.filterMap_cons
def lQp:=@List.mem_append_left
def lQq:=@List.length_set
def lQr:=@List.all_cons
def lQs:=@List.take_length
def lQt:=@Nat.lt_trichotomy
def lQu:=@Array.getElem?_toList
def lQv:=@Nat.lt_irrefl
def lQw:=@List.flatten_cons
def lQx:=@List.foldl_cons
def lQy:=@Nat.succ_mul
def lQz:=@Nat.mul_comm
def lQ0:=@List.all_eq_true
def lQ1:=@Option.map_some
def lQ2:=@List.take_succ
def lQ3:=@Array.getElem?_eq_none
def lQ4:=@List.getElem_of_mem
def lQ5:=@List.getElem?_range
def lQ6:=@PySem.F.called_set
def lQ7:=@Option.some.injEq
def lQ8:=@List.getElem?_inj
def lQ9:=@PySem.wpAny_loadPart'
def lVa:=@decide_eq_true_eq
def lVb:=@PySem.Paired.length
def lVc:=@Nat.le_of_lt
def lVd:=@Nat.ne_of_gt
def lVe:=@List.mem_filterMap
def lVf:=@List.getElem?_append_right
def lVg:=@Int.emod_nonneg
def lVh:=@Int.emod_lt_of_pos
def lVi:=@Array.getD_eq_getD_getElem?
def lVj:=@List.length_filter_le
def lVk:=@PySem.wpAny_forIn_list
def lVl:=@PySem.wpAny_passesOwn
def lVm:=@PySem.Heap.size_push
def lVn:=@Nat.le_of_eq
def lVo:=@PySem.mem_of_lookup
def lVp:=@PyProof.Rows.slot_tuple_getitem
def lVq:=@List.nodup_nil
def lVr:=@List.zip_cons_cons
def lVs:=@List.filterMap_append
def lVt:=@List.nodup_append
def lVu:=@Nat.succ_pos
def lVv:=@List.pairwise_cons
def lVw:=@Nat.le_of_lt_succ
def lVx:=@List.filterMap_cons_some
def lVy:=@List.take_append_drop
def lVz:=@List.map_take
def lV0:=@List.filter_cons
def lV1:=@Nat.mul_le_mul_right
def lV2:=@List.getD_eq_getElem?_getD
def lV3:=@PySem.wpAny_truthy_bool
def lV4:=@PySem.codeAny_mono
def lV5:=@PySem.wpAny_callSpecial?_slot
def lV6:=@PySem.wpAny_typeOf
def lV7:=@PySem.codeAny_builtin
def lV8:=@PySem.Heap.get?_update_self
def lV9:=@List.getElem?_zipWith
def lXa:=@List.getElem?_zip_eq_some
def lXb:=@List.countP_cons
def lXc:=@PySem.Heap.SameBut.update
def lXd:=@List.mem_singleton_self
def lXe:=@Nat.div_eq_of_lt
def lXf:=@List.nodup_range
def lXg:=@List.getElem_mem
def lXh:=@PySem.Around.under_plainId
def lXi:=@Nat.le_add_right
def lXj:=@PySem.wpAny_Call_Name_kw
def lXk:=@PySem.wpAny_askSetting
def lXl:=@Array.forIn_toList
def lXm:=@Option.isSome_iff_exists
def lXn:=@List.getElem?_replicate
def lXo:=@PySem.Heap.get?_update_other
def lXp:=@List.append_assoc
def lXq:=@Int.toNat_natCast
def lXr:=@List.zip_eq_zipWith
def lXs:=@PyProof.Rows.F.plain_set_update_loop
def lXt:=@List.map_congr_left
def lXu:=@List.flatMap_append
def lXv:=@List.getElem_idxOf
def lXw:=@Classical.not_not
def lXx:=@PySem.wpAny_pyIter_enum
def lXy:=@of_decide_eq_true
def lXz:=@PySem.F.args_tuple_add_2
def lX0:=@List.getElem?_eq_none_iff
def lX1:=@List.eq_nil_of_length_eq_zero
def lX2:=@List.pairwise_iff_getElem
def lX3:=@List.filterMap_cons_none
def lX4:=@Nat.add_mul_mod_self_right
def lX5:=@List.idxOf_lt_length_of_mem
local macro_rules
 | `(tactic| omega) => `(tactic| lia)
set_option Elab.async false
set_option linter.all false
set_option maxRecDepth 100000
namespace L2
open PySem PySem.Spec PyProof.Rows
abbrev Key:=Sum Int Str
def jXh:Key->Value->Bool
 | .inl k,v=>Value.isInt k v
 | .inr x,v=>Value.isStrOf x v
def keyH (w:World):Key->Int
 | .inl k=>hashInt k
 | .inr x=>hashStr w x
theorem jJt:∀ {k:Key} {v:Value},jXh k v=true->(∃i t,k=Sum.inl i/\v=Value.int i t)\/(∃x t,k=Sum.inr x/\v=Value.str x t)
 | .inl i,v,h=>by
  obtain⟨t,e⟩:=Value.isInt_shape (k:=i) (v:=v) h
  exact .inl ⟨i,t,rfl,e⟩
 | .inr x,v,h=>by
  obtain⟨t,e⟩:=Value.isStrOf_shape (x:=x) (v:=v) h
  exact .inr ⟨x,t,rfl,e⟩
theorem qQ8 (i:Int) (t:Tok):jXh (.inl i) (.int i t)=true:=by simp[jXh,Value.isInt]
theorem qQ7 (x:Str) (t:Tok):jXh (.inr x) (.str x t)=true:=by simp[jXh,Value.isStrOf]
theorem key_ll (a b:Int):decide ((Sum.inl a:Key)=Sum.inl b)=(a == b):=by
 by_cases e:a=b
 ·subst e;simp
 ·have h:¬ (Sum.inl a:Key)=Sum.inl b:=fun q=>e (Sum.inl.inj q)
  rw[lJ0 h]
  exact (beq_eq_false_iff_ne.mpr e).symm
theorem key_rr (a b:Str):decide ((Sum.inr a:Key)=Sum.inr b)=decide (a=b):=by
 by_cases e:a=b
 ·subst e;simp
 ·have h:¬ (Sum.inr a:Key)=Sum.inr b:=fun q=>e (Sum.inr.inj q)
  rw[lJ0 h,lJ0 e]
theorem key_lr (a:Int) (b:Str):decide ((Sum.inl a:Key)=Sum.inr b)=false:=lJ0 (fun q=>nomatch q)
theorem key_rl (a:Str) (b:Int):decide ((Sum.inr a:Key)=Sum.inl b)=false:=lJ0 (fun q=>nomatch q)
noncomputable def jQk (prog:Program) (w:World):PySem.KeyKind prog w Key where
 is:=jXh
 hash:=keyH w
 inj:=fun v a b ha hb=>by
  rcases jJt ha with ⟨i,t,rfl,rfl⟩ | ⟨x,t,rfl,rfl⟩
  ·rcases jJt hb with ⟨j,u,rfl,e⟩ | ⟨y,u,rfl,e⟩
   ·injection e with e1 _;rw[e1]
   ·exact nomatch e
  ·rcases jJt hb with ⟨j,u,rfl,e⟩ | ⟨y,u,rfl,e⟩
   ·exact nomatch e
   ·injection e with e1 _;rw[e1]
 byValue:=fun k v h=>by
  rcases jJt h with ⟨i,t,rfl,rfl⟩ | ⟨x,t,rfl,rfl⟩<;>rfl
 pyHash:=fun hv h=>by
  rcases jJt hv with ⟨i,t,rfl,rfl⟩ | ⟨x,t,rfl,rfl⟩
  ·exact wpAny_pyHash_int h
  ·exact wpAny_pyHash_str h
 eqBool:=fun hu hv h=>by
  rcases jJt hu with ⟨i,t,rfl,rfl⟩ | ⟨x,t,rfl,rfl⟩
  ·rcases jJt hv with ⟨j,u,rfl,rfl⟩ | ⟨y,u,rfl,rfl⟩
   ·rw[key_ll] at h;exact wpAny_eqBool_int h
   ·rw[key_lr] at h;exact SeqAt.EqAt.int_str i t y u _ _ _ _ h
  ·rcases jJt hv with ⟨j,u,rfl,rfl⟩ | ⟨y,u,rfl,rfl⟩
   ·rw[key_rl] at h;exact SeqAt.EqAt.str_int x t j u _ _ _ _ h
   ·rw[key_rr] at h;exact wpAny_eqBool_str h
 «strs» :=fun k x t v h=>by
  rcases jJt h with ⟨i,u,rfl,e⟩ | ⟨y,u,rfl,e⟩
  ·exact nomatch e
  ·injection e with e1 _
   subst e1
   cases v<;>rfl
theorem kXt (prog:Program) (w:World) (i:Int) (t:Tok):(jQk prog w).is (.inl i) (.int i t)=true:=qQ8 i t
theorem kXs (prog:Program) (w:World) (x:Str) (t:Tok):(jQk prog w).is (.inr x) (.str x t)=true:=qQ7 x t
end L2
set_option synthInstance.maxSize 1000
namespace L2
open PySem PySem.Spec PyProof.Rows
structure KeyV (prog:Program) (w:World) (K:Type) [DecidableEq K] (c:Nat) where
 is:Heap->K->Value->Prop
 hash:K->Int
 draws:K->Nat
 inj:∀ {h:Heap} {v:Value} {x y:K},is h x v->is h y v->x=y
 keeps:∀ {h h':Heap} {k:K} {v:Value} {d:Addr} {o:Obj} {es:Array DictEntry} {ep:Nat},is h k v->h.get? d=some o->o.data= .dict es ep->Heap.SameBut d h h'->is h' k v
 hashed:∀ {A:Around} {E:Value->Shared->Prop} {s:Shared} {k:K} {v:Value} {Q:Int->Shared->Prop},A.units+c<cLine->is s.heap k v->Q (hash k) {s with toks:=s.toks+draws k}->wpAny (model prog w) A (PySem.pyHash v) Q E s
 eqAt:∀ {A:Around} {s:Shared} {x y:K} {u v:Value},A.units+c<cLine->is s.heap x u->is s.heap y v->SeqAt.EqAt A s u v (decide (x=y))
 quiet:∀ {A:Around} {E:Value->Shared->Prop} {s:Shared} {k:K} {v:Value} {Q:Bool->Shared->Prop} (n:Nat),c<=n->is s.heap k v->Q true s->wpAny (model prog w) A (eqIsQuiet n v) Q E s
noncomputable def jYy (prog:Program) (w:World):KeyV prog w Key 0 where
 is:=fun _ k v=>jXh k v=true
 hash:=keyH w
 draws:=fun _=>1
 inj:=fun hx hy=>(jQk prog w).inj _ _ _ hx hy
 keeps:=fun x _ _ _=>x
 hashed:=fun _ hv h=>(jQk prog w).pyHash hv h
 eqAt:=fun _ hx hy prog' w' _ _ h=>(jQk prog' w').eqBool hx hy h
 quiet:=fun n _ hv h=>by rw[eqIsQuiet_byValue n ((jQk prog w).byValue _ _ hv)];exact lJd h
section
variable {prog:Program} {w:World} {K:Type} [DecidableEq K] {c:Nat}
inductive ItemsV (V:KeyV prog w K c) (h:Heap):List K->List Value->Prop
 | nil:ItemsV V h [] []
 | cons {k:K} {v:Value} {ks:List K} {vs:List Value}:V.is h k v->ItemsV V h ks vs->ItemsV V h (k::ks) (v::vs)
theorem ItemsV.inj {V:KeyV prog w K c} {h:Heap} {x:List K} {vs:List Value} (hx:ItemsV V h x vs):∀ {y:List K},ItemsV V h y vs->x=y:=by
 induction hx with
 | nil=>intro y hy;cases hy;rfl
 | cons a _ ih=>intro y hy;cases hy with | cons b t=>rw[V.inj a b,ih t]
theorem ItemsV.length {V:KeyV prog w K c} {h:Heap} {x:List K} {vs:List Value} (hx:ItemsV V h x vs):x.length=vs.length:=by
 induction hx with
 | nil=>rfl
 | cons _ _ ih=>simp[ih]
theorem ItemsV.get {V:KeyV prog w K c} {h:Heap} {x:List K} {vs:List Value} (hx:ItemsV V h x vs):∀ {j:Nat} {v:Value},vs[j]? =some v->∃k,x[j]? =some k/\V.is h k v:=by
 induction hx with
 | nil=>intro j v e;simp at e
 | cons a _ ih=>
  intro j v e
  cases j with
  | zero=>simp at e;subst e;exact⟨_,rfl,a⟩
  | succ j=>obtain⟨k,h1,h2⟩:=ih (j:=j) (v:=v) (by simpa using e);exact⟨k,by simpa using h1,h2⟩
theorem ItemsV.keeps {V:KeyV prog w K c} {h h':Heap} {x:List K} {vs:List Value} {d:Addr} {o:Obj} {es:Array DictEntry} {ep:Nat} (hx:ItemsV V h x vs) (ho:h.get? d=some o) (hd:o.data= .dict es ep) (hs:Heap.SameBut d h h'):ItemsV V h' x vs:=by
 induction hx with
 | nil=>exact .nil
 | cons a _ ih=>exact .cons (V.keeps a ho hd hs) ih
def kJ1 (V:KeyV prog w K c) (h:Heap) (ks:List K) (v:Value):Prop:=∃(a:Addr) (o:Obj) (items:Array Value) (n:Nat),v= .ref a/\h.get? a=some o/\o.cls= .type "tuple"/\o.data= .seq items n/\ItemsV V h ks items.toList
theorem all_eq:∀(x y:List K),((List.range (min x.length y.length)).all (fun j=>decide (x[j]? =y[j]?))&&x.length == y.length)=decide (x=y):=by
 intro x y
 by_cases e:x=y
 ·subst e;simp
 ·rw[lJ0 e,Bool.and_eq_false_iff]
  by_cases l:x.length=y.length
  ·left
   rw[List.all_eq_false]
   have:∃j:Nat,x[j]? ≠y[j]? :=by
    apply lKv
    intro q
    exact e (lK1 fun j=>lKv fun z=>q ⟨j,z⟩)
   obtain⟨j,hj⟩:=this
   refine⟨j,lJy.mpr ?_,by simpa using hj⟩
   rcases lKk j (min x.length y.length) with z | z
   ·exact z
   ·exact absurd (by rw[lJ4 (by omega),lJ4 (by omega)]) hj
  ·right;simpa using l
noncomputable def jUq (V:KeyV prog w K c):KeyV prog w (List K) (c+2) where
 is:=kJ1 V
 hash:=fun ks=>reduceHash (Builtin.Tuple.tupleHashOf (ks.map V.hash))
 draws:=fun ks=>(ks.map V.draws).sum+1
 inj:=by
  rintro h v x y ⟨a,o,items,n,rfl,ho,_,hd,hi⟩ ⟨a',o',items',n',e,ho',_,hd',hi'⟩
  cases e
  rw[ho] at ho';cases ho'
  rw[hd] at hd';cases hd'
  exact hi.inj hi'
 keeps:=by
  rintro h h' k v d o es ep ⟨a,o',items,n,rfl,ho',hc,hd',hi⟩ ho hd hs
  have ne:a≠d:=by
   rintro rfl
   rw[ho] at ho';cases ho'
   rw[hd] at hd';cases hd'
  exact⟨a,o',items,n,rfl,(hs.2 a ne).trans ho',hc,hd',hi.keeps ho hd hs⟩
 hashed:=by
  rintro A E s ks v Q hu ⟨a,o,items,n,rfl,ho,hc,hd,hi⟩ h
  refine PySem.W.pyHash_slot (T:="tuple") ⟨o,ho,hc⟩ F.slot_tuple_hash F.entry_tuple_hash (F.args_tuple_hash_1 _) (beq_builtin_none _) (.inr (by omega)) ?_
  refine (show wpAny _ _ (Builtin.Tuple.tupleItemsOf (.ref a) >>= _) _ _ s from lJa (wpAny_tupleItemsOf ho hd (lJa ?_)))
  rw[<-lXl]
  refine lVk _ (fun rest (b:Array Int) z=>∃done left,ks=done++left/\ItemsV V s.heap left rest/\b.toList=done.map V.hash/\z={s with toks:=s.toks+(done.map V.draws).sum}) _ ?_ ?_ _ _ ⟨[],ks,rfl,hi,rfl,rfl⟩
  ·rintro x rest b z ⟨done,left,rfl,hl,hb,rfl⟩
   cases hl with
   | @cons k _ ks' _ h1 hl'=>
    refine lJa (V.hashed (by rw[lK5];omega) h1 ?_)
    first
     | exact lJd ⟨done++[k],ks',by simp,hl',by simp[hb],(by simp[Nat.add_assoc])⟩
     | exact lJa (lJd (lJd ⟨done++[k],ks',by simp,hl',by simp[hb],(by simp[Nat.add_assoc])⟩))
  ·rintro b z ⟨done,left,rfl,hl,hb,rfl⟩
   cases hl
   rw[lQn] at h
   refine (show wpAny _ _ (retInt (Builtin.Tuple.tupleHashOf b.toList)) _ _ _ from ?_)
   rw[hb]
   exact lJa (wpAny_mkInt (lJd ⟨_,_,rfl,by simpa[Nat.add_assoc] using h⟩))
 eqAt:=by
  rintro A s x y u v hu ⟨a,o,items,n,rfl,ho,hc,hd,hi⟩ ⟨a',o',items',n',rfl,ho',hc',hd',hi'⟩
  by_cases e:a=a'
  ·subst e
   rw[ho] at ho';cases ho'
   rw[hd] at hd';cases hd'
   rw[hi.inj hi',lKa rfl]
   exact SeqAt.EqAt.same _
  ·have R:=SeqAt.RcAt.tuples (A:=A) (s:=s) (l:=a) (b:=a') (e:=fun j=>decide (x[j]? =y[j]?)) ⟨o,ho,hc,n,hd⟩ ⟨o',ho',hc',n',hd'⟩ (by omega) (fun j j1 j2=> ?_)
   ·have l1:=hi.length
    have l2:=hi'.length
    rw[<-all_eq x y,l1,l2]
    have R':=SeqAt.EqAt.of_refs e R
    simpa using R'
   ·obtain⟨k,h1,h2⟩:=hi.get (j:=j) (v:=items[j]) (by simp[j1])
    obtain⟨k',h1',h2'⟩:=hi'.get (j:=j) (v:=items'[j]) (by simp[j2])
    have:=V.eqAt (A:=A.in1) (s:=s) (by rw[lK5];omega) h2 h2'
    rw[h1,h1']
    simpa using this
 quiet:=by
  rintro A E s ks v Q n hn ⟨a,o,items,m,rfl,ho,hc,hd,hi⟩ h
  obtain⟨n,rfl⟩:∃nn,n=nn+1:=⟨n-1,by omega⟩
  have hT:s.TypeIs (.ref a) "tuple":=⟨o,ho,hc⟩
  unfold eqIsQuiet;refine lJa (wpAny_specialOf hT F.slot_tuple_eq.lookup ?_)
  refine (show wpAny _ _ (isInstance (.ref a) (.type "tuple") >>= _) _ _ s from lJa (wpAny_isInstance hT isSubtype_tuple_tuple ?_))
  simp only[lJt,Bool.not_true,lKq]
  refine lJa (wpAny_seqItems ho hd (lJa ?_))
  refine (show wpAny _ _ (forIn items _ _) _ _ s from ?_)
  rw[<-lXl]
  refine lVk _ (fun rest r z=>r.1=none/\z=s/\∃left,ItemsV V s.heap left rest) _ ?_ ?_ _ _ ⟨rfl,rfl,ks,hi⟩
  ·rintro x rest r z ⟨hr,rfl,left,hl⟩
   cases hl with
   | cons h1 hl'=>
    refine lJa (V.quiet n (by omega) h1 ?_)
    simp only[lJt,Bool.not_true,lKq]
    exact lJd ⟨rfl,rfl,_,hl'⟩
  ·rintro⟨r1,r2⟩ z ⟨hr,rfl,_⟩
   simp only at hr;subst hr
   exact lJd h
theorem uK3 {α β:Type} [DecidableEq α] [DecidableEq β] (a b:α):decide ((Sum.inl a:α ⊕ β)=Sum.inl b)=decide (a=b):=by
 by_cases e:a=b
 ·simp[e]
 ·rw[lJ0 e,lJ0 fun z=>e (Sum.inl.inj z)]
theorem uK2 {α β:Type} [DecidableEq α] [DecidableEq β] (a b:β):decide ((Sum.inr a:α ⊕ β)=Sum.inr b)=decide (a=b):=by
 by_cases e:a=b
 ·simp[e]
 ·rw[lJ0 e,lJ0 fun z=>e (Sum.inr.inj z)]
noncomputable def kZ1 (V:KeyV prog w K c):KeyV prog w (Key ⊕ List K) (c+2) where
 is:=fun h k v=>match k with
  | .inl k=>jXh k v=true
  | .inr ks=>kJ1 V h ks v
 hash:=fun k=>match k with
  | .inl k=>keyH w k
  | .inr ks=>(jUq V).hash ks
 draws:=fun k=>match k with
  | .inl _=>1
  | .inr ks=>(jUq V).draws ks
 inj:=by
  rintro h v (x | x) (y | y) hx hy
  ·rw[(jQk prog w).inj _ _ _ hx hy]
  ·obtain⟨a,_,_,_,rfl,_⟩:=hy
   rcases jJt hx with ⟨i,t,_,e⟩ | ⟨i,t,_,e⟩<;>cases e
  ·obtain⟨a,_,_,_,rfl,_⟩:=hx
   rcases jJt hy with ⟨i,t,_,e⟩ | ⟨i,t,_,e⟩<;>cases e
  ·rw[(jUq V).inj hx hy]
 keeps:=by
  rintro h h' (k | k) v d o es ep hx ho hd hs
  ·exact hx
  ·exact (jUq V).keeps hx ho hd hs
 hashed:=by
  rintro A E s (k | k) v Q hu hx h
  ·exact (jQk prog w).pyHash hx h
  ·exact (jUq V).hashed hu hx h
 eqAt:=by
  rintro A s (x | x) (y | y) u v hu hx hy
  ·rw[uK3]
   exact (jYy prog w).eqAt (by omega) hx hy
  ·rw[lJ0 fun z=>nomatch z]
   obtain⟨a,o,items,n,rfl,ho,hc,hd,_⟩:=hy
   rcases jJt hx with ⟨i,t,_,rfl⟩ | ⟨i,t,_,rfl⟩
   ·exact SeqAt.EqAt.int_tuple i t ⟨o,ho,hc,n,hd⟩ (by omega)
   ·exact SeqAt.EqAt.str_tuple i t ⟨o,ho,hc,n,hd⟩ (by omega)
  ·rw[lJ0 fun z=>nomatch z]
   obtain⟨a,o,items,n,rfl,ho,hc,hd,_⟩:=hx
   rcases jJt hy with ⟨i,t,_,rfl⟩ | ⟨i,t,_,rfl⟩
   ·exact SeqAt.EqAt.tuple_int i t ⟨o,ho,hc,n,hd⟩ (by omega)
   ·exact SeqAt.EqAt.tuple_str i t ⟨o,ho,hc,n,hd⟩ (by omega)
  ·rw[uK2]
   exact (jUq V).eqAt hu hx hy
 quiet:=by
  rintro A E s (k | k) v Q n hn hx h
  ·exact (jYy prog w).quiet n (lJs _) hx h
  ·exact (jUq V).quiet n hn hx h
end
abbrev K1:=Key ⊕ List Key
abbrev K2:=Key ⊕ List K1
abbrev TKey:=List K2
def vk1 (prog:Program) (w:World):KeyV prog w K1 2:=kZ1 (jYy prog w)
def vk2 (prog:Program) (w:World):KeyV prog w K2 4:=kZ1 (vk1 prog w)
noncomputable def jJh (prog:Program) (w:World):HeapKind prog w TKey where
 is:=fun h ks a=>(jUq (vk2 prog w)).is h ks (.ref a)
 hash:=(jUq (vk2 prog w)).hash
 draws:=(jUq (vk2 prog w)).draws
 room:=fun A=>A.units+6<cLine
 inj:=fun hx hy=>(jUq (vk2 prog w)).inj hx hy
 keeps:=fun x ho hd hs=>(jUq (vk2 prog w)).keeps x ho hd hs
 pyHash:=fun hu hk h=>(jUq (vk2 prog w)).hashed hu hk h
 eqBool:=fun hu hx hy h=>(jUq (vk2 prog w)).eqAt hu hx hy _ _ _ _ h
 quiet:=fun hk h=>(jUq (vk2 prog w)).quiet 8 (by decide) hk h
theorem jQn {prog:Program} {w:World} {A:Around} (hu:A.units+20<cLine):(jJh prog w).room A.in1:=by
 show A.in1.units+6<cLine
 rw[lK5];omega
inductive V where
 | non | bl (b:Bool) | int (i:Int) | str (x:Str) | byt (b:Array UInt8) | flt (b:UInt64) | ref (a:Addr) | ty (n:String)
 deriving DecidableEq
noncomputable def RelV:V->Value->Prop
 | .non,u=>u=Value.none
 | .bl b,u=>u=Value.bool b
 | .int i,u=>∃t,u=Value.int i t
 | .str x,u=>∃t,u=Value.str x t
 | .byt b,u=>∃t,u=Value.bytes b t
 | .flt b,u=>∃t,u=Value.float b t
 | .ref a,u=>u=Value.ref a
 | .ty n,u=>u=Value.type n
abbrev Vals:List V->List Value->Prop:=Paired RelV
theorem Vals.length {xs:List V} {us:List Value} (r:Vals xs us):xs.length=us.length:=lVb r
theorem Vals.get:∀ {xs:List V} {us:List Value} {i:Nat} {x:V},Vals xs us->xs[i]? =some x->∃u,us[i]? =some u/\RelV x u
 | _,_,_,_,.nil,e=>by simp at e
 | _,_,0,_,.cons r _,e=>by simp at e;subst e;exact⟨_,rfl,r⟩
 | _,_,i+1,x,.cons _ t,e=>by
  obtain⟨u,h1,h2⟩:=Vals.get (i:=i) (x:=x) t (by simpa using e)
  exact⟨u,by simpa using h1,h2⟩
theorem Vals.set {x:V} {u:Value} (r:RelV x u):∀ {xs:List V} {us:List Value} (i:Nat),Vals xs us->Vals (xs.set i x) (us.set i u)
 | _,_,_,.nil=> .nil
 | _,_,0,.cons _ t=> .cons r t
 | _,_,i+1,.cons q t=> .cons q (Vals.set r i t)
theorem Vals.append:∀ {xs ys:List V} {us ws:List Value},Vals xs us->Vals ys ws->Vals (xs++ys) (us++ws)
 | _,_,_,_,.nil,s=>s
 | _,_,_,_,.cons r t,s=> .cons r (Vals.append t s)
theorem Vals.take:∀ {xs:List V} {us:List Value} (n:Nat),Vals xs us->Vals (xs.take n) (us.take n)
 | _,_,0,_=> .nil
 | _,_,_+1,.nil=> .nil
 | _,_,n+1,.cons r t=> .cons r (Vals.take n t)
theorem Vals.drop:∀ {xs:List V} {us:List Value} (n:Nat),Vals xs us->Vals (xs.drop n) (us.drop n)
 | _,_,0,r=>r
 | _,_,_+1,.nil=> .nil
 | _,_,n+1,.cons _ t=>Vals.drop n t
def RelO:Option V->Option Value->Prop
 | some v,some u=>RelV v u
 | none,none=>True
 | _,_=>False
def KV {κ:Type}:List (κ×V)->List (κ×Value)->Prop:=Paired fun (p:κ×V) (q:κ×Value)=>p.1=q.1/\RelV p.2 q.2
def kV:Key->V
 | .inl i=> .int i
 | .inr x=> .str x
inductive HO where
  | lst (xs:List V)
  | tup (xs:List V)
  | dK (kvs:List (Key×V)) | dT (kvs:List (TKey×V))
  | set (S:Int->Bool) (n:Nat)
  | ins (C dx:Addr) (fs:List (Str×V))
  | own (x:Addr)
  | xd (fs:List (Str×V))
  | met (f x:Addr)
  | rng (lo hi:Int)
  | frz (o:Obj) (u:HO)
  | tbl (ps:Array Value)
  | ext (φ:Heap->Prop)
abbrev Hp:=Addr->Option HO
def upd (H:Hp) (a:Addr) (o:HO):Hp:=fun b=>if b=a then some o else H b
theorem jKt {H:Hp} {a:Addr} {o:HO}:upd H a o a=some o:=by unfold upd;rw[lJc rfl]
theorem jJ5 {H:Hp} {a b:Addr} {o:HO} (h:b≠a):upd H a o b=H b:=by unfold upd;rw[lJb h]
theorem ne_of {H:Hp} {a b:Addr} {o u:HO} (h:H a=some o) (h':H b=some u) (d:o≠u):a≠b:=by
 intro e;subst e;rw[h] at h';exact d (lJ7 h')
theorem jUt {H:Hp} {a b:Addr} {o:HO} (h:H a=some o) (h':H b=none):a≠b:=by
 intro e;subst e;rw[h] at h';cases h'
def Rk1 (H:Hp) (k:K1) (v:V):Prop:=match k with
 | .inl k=>v=kV k
 | .inr ks=>∃p vs,v= .ref p/\H p=some (.tup vs)/\Paired (fun k v=>v=kV k) ks vs
def Rk2 (H:Hp) (k:K2) (v:V):Prop:=match k with
 | .inl k=>v=kV k
 | .inr ks=>∃p vs,v= .ref p/\H p=some (.tup vs)/\Paired (Rk1 H) ks vs
def TKeyAt (H:Hp) (ks:TKey) (a:Addr):Prop:=∃vs,H a=some (.tup vs)/\Paired (Rk2 H) ks vs
theorem jXe {α β:Type} {F G:α->β->Prop} (f:∀a b,F a b->G a b):∀ {l:List α} {m:List β},Paired F l m->Paired G l m
 | _,_,.nil=> .nil
 | _,_,.cons r t=> .cons (f _ _ r) (jXe f t)
theorem Rk1.mono {H H':Hp} (ht:∀b ys,H b=some (.tup ys)->H' b=some (.tup ys)) (k:K1) (v:V) (r:Rk1 H k v):Rk1 H' k v:=by
 cases k with
 | inl k=>exact r
 | inr ks=>obtain⟨p,vs,e,h,t⟩:=r;exact⟨p,vs,e,ht _ _ h,t⟩
theorem Rk2.mono {H H':Hp} (ht:∀b ys,H b=some (.tup ys)->H' b=some (.tup ys)) (k:K2) (v:V) (r:Rk2 H k v):Rk2 H' k v:=by
 cases k with
 | inl k=>exact r
 | inr ks=>obtain⟨p,vs,e,h,t⟩:=r;exact⟨p,vs,e,ht _ _ h,jXe (Rk1.mono ht) t⟩
theorem TKeyAt.mono {H H':Hp} {ks:TKey} {a:Addr} (r:TKeyAt H ks a) (ht:∀b ys,H b=some (.tup ys)->H' b=some (.tup ys)):TKeyAt H' ks a:=by
 obtain⟨vs,h,t⟩:=r;exact⟨vs,ht _ _ h,jXe (Rk2.mono ht) t⟩
section
variable (P:Program) (w:World)
def TupD (h:Heap) (a:Addr) (items:Array Value):Prop:=∃o,h.get? a=some o/\o.cls= .type "tuple"/\∃n,o.data= .seq items n/\o.dict=none
theorem TupD.is {h:Heap} {a:Addr} {items:Array Value} (x:TupD h a items):IsTup h a items:=let ⟨o,e,c,n,d,_⟩:=x;⟨o,e,c,n,d⟩
theorem TupD.new (h:Heap) (items:Array Value):TupD (h.push {cls:= .type "tuple",data:= .seq items}) h.objs.size items:=⟨_,lJ3 _ rfl,rfl,_,rfl,rfl⟩
noncomputable def ObjOk (H:Hp) (h:Heap) (a:Addr):HO->Prop
 | .lst xs=>xs.length<=sizeLine/\∃(its:List Value) (n:Nat),Vals xs its/\h.get? a=some {cls:= .type "list",data:= .seq its.toArray n}
 | .tup xs=>xs.length<=sizeLine/\∃its:List Value,Vals xs its/\TupD h a its.toArray
 | .dK kvs=>kvs.length<=sizeLine/\(a == sysModules)=false/\∃vs,KV kvs vs/\h.DictOf (jQk P w) a vs
 | .dT kvs=>kvs.length<=sizeLine/\(a == sysModules)=false/\∃xs:List (TKey×Addr×Value),
   Paired (fun (p:TKey×V) (q:TKey×Addr×Value)=>p.1=q.1/\TKeyAt H p.1 q.2.1/\RelV p.2 q.2.2) kvs xs/\
   ∃o es ep,h.get? a=some o/\o.ExactDict/\o.data= .dict es ep/\es.toList=xs.map (entryOfKey (jJh P w))/\(xs.map (·.1)).Nodup
 | .set S n=>h.SetOf (intKind P w) a S n
 | .ins C dx fs=>H dx=some (.own a)/\fs.length<=1000/\dx≠a/\h.get? a=some (PySem.W.instObj C dx)/\
   ∃mA,h.Ns1 dx mA/\(∀f,RelO (fs.lookup f) (mA f))/\PySem.Within mA (fs.map (·.1))
 | .own _=>∃o,h.get? a=some o
 | .xd fs=>∃mA,h.Ns1 a mA/\∀f,RelO (fs.lookup f) (mA f)
 | .rng lo hi=>∃t u v,h.get? a=some {cls:= .type "range",data:= .fields #[.int lo t,.int hi u,.int 1 v]}
 | .frz o u=>h.get? a=some o/\ObjOk H h a u
 | .tbl ps=>h.get? a=some {cls:= .none,data:= .fields ps}
 | .met f x=>h.get? a=some (PySem.W.methodObj (.ref f) (.ref x))
 | .ext φ=>φ h/\(∃o,h.get? a=some o)/\∀h1 h2:Heap,φ h1->(∀o,h1.get? a=some o->h2.get? a=some o)->φ h2
def HOk (H:Hp) (h:Heap):Prop:=∀a o,H a=some o->ObjOk P w H h a o
end
section
variable {P:Program} {w:World} {H H':Hp} {h h':Heap} {a:Addr} {o:HO}
theorem ObjOk.lt (x:ObjOk P w H h a o):a<h.objs.size:=by
 cases o with
 | lst xs=>obtain⟨_,_,_,_,e⟩:=x;exact lJj e
 | tup xs=>obtain⟨_,_,_,p⟩:=x;exact p.is.lt
 | dK kvs=>obtain⟨_,_,_,_,o,_,_,e,_⟩:=x;exact lJj e
 | dT kvs=>obtain⟨_,_,_,_,o,_,_,e,_⟩:=x;exact lJj e
 | set S n=>obtain⟨o,_,_,_,e,_⟩:=x;exact lJj e
 | ins C dx fs=>obtain⟨_,_,_,e,_⟩:=x;exact lJj e
 | own y=>obtain⟨_,e⟩:=x;exact lJj e
 | xd fs=>obtain⟨_,⟨_,_,_,e,_⟩,_⟩:=x;exact lJj e
 | rng lo hi=>obtain⟨_,_,_,e⟩:=x;exact lJj e
 | frz ob u=>obtain⟨e,_⟩:=x;exact lJj e
 | tbl ps=>exact lJj (show h.get? a=some _ from x)
 | met f y=>exact lJj (show h.get? a=some _ from x)
 | ext φ=>obtain⟨_,⟨_,e⟩,_⟩:=x;exact lJj e
theorem Paired.mapP {α β:Type} {F G:α->β->Prop}:∀ {l₁:List α} {l₂:List β},Paired F l₁ l₂->(∀a b,F a b->G a b)->Paired G l₁ l₂
 | _,_,.nil,_=> .nil
 | _,_,.cons r t,f=> .cons (f _ _ r) (Paired.mapP t f)
theorem ObjOk.stay (x:ObjOk P w H h a o) (k:∀b u,(b=a\/H b=some (.own a))->h.get? b=some u->h'.get? b=some u)
  (ho:∀b,H b=some (.own a)->H' b=some (.own a)) (ht:∀b xs,H b=some (.tup xs)->H' b=some (.tup xs)):ObjOk P w H' h' a o:=by
 induction o with
 | lst xs=>obtain⟨z,its,n,r,e⟩:=x;exact⟨z,its,n,r,k _ _ (.inl rfl) e⟩
 | tup xs=>obtain⟨z,its,r,ob,e,c⟩:=x;exact⟨z,its,r,ob,k _ _ (.inl rfl) e,c⟩
 | dK kvs=>obtain⟨z,y,vs,r,ob,es,ep,e,c⟩:=x;exact⟨z,y,vs,r,ob,es,ep,k _ _ (.inl rfl) e,c⟩
 | dT kvs=>
  obtain⟨z,y,xs,r,ob,es,ep,e,c⟩:=x
  exact⟨z,y,xs,Paired.mapP r fun p q z=>⟨z.1,z.2.1.mono ht,z.2.2⟩,ob,es,ep,k _ _ (.inl rfl) e,c⟩
 | set S n=>obtain⟨ob,es,ep,t,e,c⟩:=x;exact⟨ob,es,ep,t,k _ _ (.inl rfl) e,c⟩
 | ins C dx fs=>
  obtain⟨d,z,ne,e,mA,⟨od,es,ep,e2,c⟩,r⟩:=x
  exact⟨ho _ d,z,ne,k _ _ (.inl rfl) e,mA,⟨od,es,ep,k _ _ (.inr d) e2,c⟩,r⟩
 | own y=>obtain⟨ob,e⟩:=x;exact⟨ob,k _ _ (.inl rfl) e⟩
 | xd fs=>obtain⟨mA,⟨od,es,ep,e,c⟩,r⟩:=x;exact⟨mA,⟨od,es,ep,k _ _ (.inl rfl) e,c⟩,r⟩
 | rng lo hi=>obtain⟨t,u,v,e⟩:=x;exact⟨t,u,v,k _ _ (.inl rfl) e⟩
 | frz ob u ih=>obtain⟨e,q⟩:=x;exact⟨k _ _ (.inl rfl) e,ih q⟩
 | tbl ps=>
  have e:h.get? a=some {cls:= .none,data:= .fields ps}:=x
  show h'.get? a=some {cls:= .none,data:= .fields ps}
  exact k a _ (.inl rfl) e
 | met f y=>
  have e:h.get? a=some (PySem.W.methodObj (.ref f) (.ref y)):=x
  show h'.get? a=some (PySem.W.methodObj (.ref f) (.ref y))
  exact k a _ (.inl rfl) e
 | ext φ=>obtain⟨p,⟨o,e⟩,st⟩:=x;exact⟨st _ _ p fun o q=>k _ _ (.inl rfl) q,⟨o,k _ _ (.inl rfl) e⟩,st⟩
theorem HOk.lt (x:HOk P w H h) (e:H a=some o):a<h.objs.size:=(x a o e).lt
theorem HOk.fresh (x:HOk P w H h) (e:h.objs.size<=a):H a=none:=by
 cases q:H a with
 | none=>rfl
 | some u=>exact absurd (lKb (x.lt q) e) (lQv _)
theorem HOk.kept (x:HOk P w H h) (k:∀b u,h.get? b=some u->h'.get? b=some u):HOk P w H h':=fun a o e=>
 (x a o e).stay (fun b u _ q=>k b u q) (fun _ q=>q) fun _ _ q=>q
theorem HOk.laid (x:HOk P w H h) (k:∀b u,h.get? b=some u->h'.get? b=some u) (hp:h.objs.size<=a) (new:ObjOk P w (upd H a o) h' a o):HOk P w (upd H a o) h':=fun b u e=>by
 have hn:=x.fresh hp
 by_cases hb:b=a
 ·subst hb;rw[jKt] at e;cases e;exact new
 ·rw[jJ5 hb] at e
  exact (x b u e).stay (fun c v _ q=>k c v q) (fun c q=>by rw[jJ5 (jUt q hn)];exact q) fun c xs q=>by rw[jJ5 (jUt q hn)];exact q
end
def Rd (H:Hp) (a:Addr) (u:HO):Prop:=H a=some u\/∃o,H a=some (.frz o u)
theorem Rd.ok {P:Program} {w:World} {H:Hp} {h:Heap} {a:Addr} {u:HO} (r:Rd H a u) (x:HOk P w H h):ObjOk P w H h a u:=by
 rcases r with r | ⟨o,r⟩
 ·exact x a u r
 ·obtain⟨_,q⟩:=x a _ r
  exact q
def Mut:Option HO->Prop
 | some (.lst _)=>True
 | some (.dK _)=>True
 | some (.dT _)=>True
 | some (.set _ _)=>True
 | some (.ins _ _ _)=>True
 | some (.ext _)=>True
 | _=>False
section
variable {P:Program} {w:World} {H:Hp} {h h':Heap} {x e:Addr} {o':HO}
theorem HOk.write (ok:HOk P w H h) (mu:Mut (H x)) (he:e=x\/H e=some (.own x)) (k:∀b u,b≠e->h.get? b=some u->h'.get? b=some u) (heo:∃u,h'.get? e=some u)
  (new:ObjOk P w (upd H x o') h' x o'):HOk P w (upd H x o') h':=fun b u q=>by
 have nown:∀c y,H c=some (.own y)->c≠x:=fun c y r z=>by subst z;rw[r] at mu;exact mu
 have ntup:∀c xs,H c=some (.tup xs)->c≠x:=fun c xs r z=>by subst z;rw[r] at mu;exact mu
 by_cases hb:b=x
 ·subst hb;rw[jKt] at q;cases q;exact new
 ·rw[jJ5 hb] at q
  by_cases hbe:b=e
  ·have q':H b=some (.own x):=by
    rcases he with z | z
    ·exact absurd (hbe.trans z) hb
    ·rw[hbe];exact z
   rw[q] at q';cases q'
   obtain⟨v,hv⟩:=heo
   exact⟨v,by rw[hbe];exact hv⟩
  ·refine (ok b u q).stay (fun c v hc r=>k c v ?_ r) (fun c r=>by rw[jJ5 (nown c b r)];exact r) fun c xs r=>by rw[jJ5 (ntup c xs r)];exact r
   rcases hc with rfl | hc
   ·exact hbe
   ·rintro rfl
    rcases he with z | z
    ·exact nown c b hc z
    ·rw[hc] at z;cases z;exact hb rfl
end
structure Un (fs ex:List Addr) (H H':Hp) (h h':Heap):Prop where
 keep:∀b o,h.get? b=some o->H b=none->b∉fs->b∉ex->h'.get? b=some o
 slot:∀b o,h.get? b=some o->H b=none->b∈fs->b∉ex->∃sl,h'.get? b=some {o with slots:=sl}
 free:∀b o,h.get? b=some o->H b=none->b∉ex->H' b=none
 there:∀b o,h.get? b=some o->b∉ex->∃o',h'.get? b=some o'
 tups:∀b xs,H b=some (.tup xs)->H' b=some (.tup xs)
 frzs:∀b o u,H b=some (.frz o u)->H' b=some (.frz o u)
 tbls:∀b ps,H b=some (.tbl ps)->∃more,H' b=some (.tbl (ps++more))
section
variable {fs fs' ex ex':List Addr} {H H1 H2:Hp} {h h1 h2 h':Heap} {a x e:Addr} {o:HO}
theorem Un.any (u:Un fs ex H H1 h h1) {b:Addr} {ob:Obj} (q:h.get? b=some ob) (n:H b=none) (hx:b∉ex):∃sl,h1.get? b=some {ob with slots:=sl}:=by
 by_cases hb:b∈fs
 ·exact u.slot b ob q n hb hx
 ·exact⟨ob.slots,u.keep b ob q n hb hx⟩
theorem Un.kept (k:∀b u,h.get? b=some u->h'.get? b=some u):Un fs ex H H h h':=
 ⟨fun b ob q _ _ _=>k b ob q,fun b ob q _ _ _=>⟨ob.slots,k b ob q⟩,fun _ _ _ n _=>n,fun b ob q _=>⟨ob,k b ob q⟩,fun _ _ q=>q,fun _ _ _ q=>q,fun _ ps q=>⟨#[],by rw[q];simp⟩⟩
theorem Un.refl:Un fs ex H H h h:=Un.kept fun _ _ q=>q
theorem Un.laid (k:∀b u,h.get? b=some u->h'.get? b=some u) (hp:h.objs.size<=a) (hn:H a=none):Un fs ex H (upd H a o) h h' where
 keep:=fun b u q _ _ _=>k b u q
 slot:=fun b u q _ _ _=>⟨u.slots,k b u q⟩
 free:=fun b u q n _=>by rw[jJ5 (lJw (lKb (lJj q) hp))];exact n
 there:=fun b u q _=>⟨u,k b u q⟩
 tups:=fun b xs q=>by rw[jJ5 (jUt q hn)];exact q
 frzs:=fun b u xs q=>by rw[jJ5 (jUt q hn)];exact q
 tbls:=fun b ps q=>⟨#[],by rw[jJ5 (jUt q hn),q];simp⟩
theorem Un.write (mu:Mut (H x)) (he:e=x\/H e=some (.own x)) (k:∀b u,b≠e->h.get? b=some u->h'.get? b=some u) (heo:∃u,h'.get? e=some u):Un fs ex H (upd H x o) h h':=by
 have hx:∀b,H b=none->b≠x:=fun b n z=>by subst z;rw[n] at mu;exact mu
 have hb:∀b,H b=none->b≠e:=fun b n z=>by
  subst z
  rcases he with r | r
  ·exact hx b n r
  ·rw[n] at r;cases r
 have hm:∀b u,H b=some u->¬ Mut (some u)->b≠x:=fun b u q nm z=>by subst z;rw[q] at mu;exact nm mu
 refine⟨fun b u q n _ _=>k b u (hb b n) q,fun b u q n _ _=>⟨u.slots,k b u (hb b n) q⟩,fun b u q n _=>by rw[jJ5 (hx b n)];exact n,fun b u q _=> ?_,
  fun b xs q=>by rw[jJ5 (hm b _ q fun z=>z)];exact q,fun b u xs q=>by rw[jJ5 (hm b _ q fun z=>z)];exact q,fun b ps q=>⟨#[],by rw[jJ5 (hm b _ q fun z=>z),q];simp⟩⟩
 by_cases hbe:b=e
 ·subst hbe;exact heo
 ·exact⟨u,k b u hbe q⟩
end
def trk (h:Heap) (H:Hp):List Addr:=(List.range h.objs.size).filter fun a=>(H a).isSome
def hidT (h:Heap) (H:Hp):Heap:=PySem.W.hideAll h (trk h H)
theorem qUe (h:Heap) (H:Hp):(hidT h H).objs.size=h.objs.size:=PySem.W.hideAll_size _ _
theorem qYm {h:Heap} {H:Hp} {b:Addr} {o:Obj} (e:h.get? b=some o) (n:H b=none):(hidT h H).get? b=some o:=
 PySem.W.hideAll_get _ e fun hm=>by
  have q:(H b).isSome=true:=(lK2.mp hm).2
  rw[n] at q;simp at q
theorem uJ0 {h:Heap} {H:Hp} {b:Addr} {o:Obj} (e:(hidT h H).get? b=some o):h.get? b=some o/\H b=none:=by
 have e':h.get? b=some o:=PySem.W.of_hideAll (trk h H) e
 refine⟨e',?_⟩
 cases q:H b with
 | none=>rfl
 | some x=>
  have hm:b∈trk h H:=lK2.mpr ⟨lJy.mpr (lJj e'),by simp[q]⟩
  have z:(hidT h H).get? b=none:=PySem.W.hideAll_none (trk h H) hm
  rw[z] at e;cases e
def uQc (g h:Heap) (L:Addr):List (Addr×Obj):=(List.range h.objs.size).filterMap fun a=>if a=L\/(g.get? a).isSome=true then none else (h.get? a).map fun o=>(a,o)
def rest (g h:Heap) (L d:Addr):List (Addr×Obj):=(uQc g h L).filter fun p=>decide (p.1≠d)
structure Mod (K:PySem.W.Frag) (mg:Str->Option Value) (base:Heap):Prop where
 kin:K.In base
 glob:base.Ns mainGlobals mg
 blt:∃mb,base.Ns builtinsNs mb/\∀x:Str,x≠"__name__"->mb x=bootBuiltins x
 nolimit:base.NoLimit
structure Cx where
 prog:Program
 w:World
 K:PySem.W.Frag
 mg:Str->Option Value
 base:Heap
 A:Around
 N:List Str
 s₀:Shared
 H₀:Hp
 env:Env
 outer:List Env
 stack:List Env
 ex:List Addr
 fn:Str->Bool
 calm:Bool
 pn:List (Addr×Obj)
 xe:Value->Shared->Prop
def frs (l:List Env):List Addr:=l.filterMap (·.frame)
abbrev Cx.fs (X:Cx):List Addr:=frs X.outer
def Vis (sc:Scope) (x:Str):Prop:=sc.names.lookup x=some .local\/sc.names.lookup x=some .cell\/sc.names.lookup x=some .free
def Loc (sc:Scope) (x:Str):Prop:=sc.names.lookup x=some .local\/sc.names.lookup x=some .cell
def Look (env:Env) (h:Heap) (m:Str->Option Value) (x:Str) (u:Value):Prop:=
 (env.kindOf x=some .local/\m x=some u)\/((env.kindOf x=some .cell\/env.kindOf x=some .free)/\∃c,env.cells.lookup x=some c/\h.IsCell c (some u))
structure Cx.Ok (X:Cx):Prop where
 mod:Mod X.K X.mg X.base
 kind:X.env.scope.kind= .function
 glob:X.env.globals=mainGlobals
 blt:X.env.builtins=builtinsNs
 above:X.s₀.heap.objs.size<=X.env.locals
 inj:∀x y c,X.env.cells.lookup x=some c->X.env.cells.lookup y=some c->x=y
 has:∀x,(X.env.kindOf x=some .cell\/X.env.kindOf x=some .free)->∃c,X.env.cells.lookup x=some c
 cab:∀x c,X.fn x=true->X.env.cells.lookup x=some c->X.s₀.heap.objs.size<=c
 hd:X.calm=true->X.A.handled=none
 gd:X.calm=true->X.A.guards=some []
 frames:X.A.frames=some X.stack
 stk:X.stack=X.outer\/(X.stack=X.env::X.outer/\X.env.frame=some X.env.locals)
 exf:∀b∈X.ex,b≠X.env.locals/\∀x c,X.env.cells.lookup x=some c->c≠b
 bs:∀b o,X.base.get? b=some o->X.s₀.heap.get? b=some o/\X.H₀ b=none
 bsz:X.base.objs.size<=X.s₀.heap.objs.size
 noex:∀b o,X.base.get? b=some o->b∉X.ex
 exfs:∀b∈X.ex,b∉X.fs
 funs:X.s₀.heap.FunFrames X.base X.outer
 frf:∀b∈X.fs,X.H₀ b=none
structure Inv (X:Cx) (pins:List (Addr×Obj)) (σ:List (Option V)) (H:Hp) (s:Shared):Prop where
 ok:X.Ok
 os:s.os=X.s₀.os
 bare:AllBare s.gens
 base:Un X.fs X.ex X.H₀ H X.s₀.heap s.heap
 loc:∃m,s.heap.Ns X.env.locals m/\∀(i:Nat) (x:Str) (v:V),X.N[i]? =some x->σ[i]? =some (some v)->Vis X.env.scope x->∃u,RelV v u/\Look X.env s.heap m x u
 cell:∀x c,X.env.cells.lookup x=some c->∃v,s.heap.IsCell c v
 free:H X.env.locals=none
 freeC:∀x c,X.env.cells.lookup x=some c->H c=none
 pin:∀p∈X.pn++pins,s.heap.get? p.1=some p.2/\H p.1=none/\p.1≠X.env.locals/\p.1∉X.fs/\∀v,p.2.data≠ .cell v
 hok:HOk X.prog X.w H s.heap
 len:σ.length=X.N.length
section
variable {X:Cx} {pins:List (Addr×Obj)} {σ:List (Option V)} {H H':Hp} {s:Shared} {h':Heap}
theorem Cx.Ok.nofr (ok:X.Ok) {b:Addr} {o:Obj} (e:X.base.get? b=some o):b∉X.fs:=fun hb=>by
 have:=(ok.funs.mem hb).1
 rw[e] at this;cases this
theorem Inv.bs (I:Inv X pins σ H s):∀b o,X.base.get? b=some o->s.heap.get? b=some o/\H b=none:=fun b o e=>
 ⟨I.base.keep b o (I.ok.bs b o e).1 (I.ok.bs b o e).2 (I.ok.nofr e) (I.ok.noex b o e),I.base.free b o (I.ok.bs b o e).1 (I.ok.bs b o e).2 (I.ok.noex b o e)⟩
theorem Inv.bk (I:Inv X pins σ H s):∀b o,X.base.get? b=some o->s.heap.get? b=some o:=fun b o e=>(I.bs b o e).1
theorem Inv.mod (I:Inv X pins σ H s):Mod X.K X.mg X.base:=I.ok.mod
theorem Inv.kIn (I:Inv X pins σ H s):X.K.In s.heap:=I.ok.mod.kin.keeps I.bk
theorem Inv.lt (I:Inv X pins σ H s):X.env.locals<s.heap.objs.size:=let ⟨_,hn,_⟩:=I.loc;hn.lt
theorem Inv.sz (I:Inv X pins σ H s):X.s₀.heap.objs.size<=s.heap.objs.size:=lJ8 I.ok.above (lVc I.lt)
theorem Inv.nofs (I:Inv X pins σ H s) {a:Addr} (h:s.heap.objs.size<=a):a∉X.fs:=fun hb=>by
 obtain⟨_,o,ho,_⟩:=I.ok.funs.mem hb
 exact absurd (lKb (lJj ho) (lJ8 I.sz h)) (lQv _)
theorem Inv.cne (I:Inv X pins σ H s):∀x c,X.env.cells.lookup x=some c->c≠X.env.locals:=fun x c e z=>by
 obtain⟨v,o,ho,hd⟩:=I.cell x c e
 obtain⟨m,⟨o',es,ep,ho',hd',_⟩,_⟩:=I.loc
 rw[z,ho'] at ho;cases ho;rw[hd'] at hd;cases hd
theorem Inv.funs (I:Inv X pins σ H s):s.heap.FunFrames X.base X.outer:=by
 have all:∀(l:List Env),(∀b∈frs l,b∈X.fs)->X.s₀.heap.FunFrames X.base l->s.heap.FunFrames X.base l:=by
  intro l
  induction l with
  | nil=>intro _ _;trivial
  | cons env r ih=>
   intro hs hl
   obtain⟨hk,⟨L,o,hf,hn,ho,hd⟩,hr⟩:=hl
   have hL:L∈X.fs:=hs L (by unfold frs;rw[lQo,hf];exact lJu)
   obtain⟨sl,e⟩:=I.base.slot L o ho (I.ok.frf L hL) hL fun z=>I.ok.exfs L z hL
   exact⟨hk,⟨L,_,hf,hn,e,hd⟩,ih (fun b hb=>hs b (by unfold frs;rw[lQo,hf];exact lJx _ hb)) hr⟩
 exact all X.outer (fun _ hb=>hb) I.ok.funs
theorem Inv.stack (I:Inv X pins σ H s):s.heap.FunFrames X.base X.stack:=by
 rcases I.ok.stk with e | ⟨e,hf⟩
 ·rw[e];exact I.funs
 ·rw[e]
  obtain⟨m,hn,_⟩:=I.loc
  refine .cons (by rw[I.ok.kind];decide) hf hn ?_ I.funs
  exact Heap.get?_none_of_le (lJ8 I.ok.bsz I.ok.above)
theorem Inv.stkSub (I:Inv X pins σ H s):∀b∈frs X.stack,b∈X.env.locals::X.fs:=fun b hb=>by
 rcases I.ok.stk with e | ⟨e,hf⟩
 ·rw[e] at hb;exact lJx _ hb
 ·rw[e] at hb
  unfold frs at hb
  rw[lQo,hf] at hb
  exact hb
theorem Inv.stkFree (I:Inv X pins σ H s):∀b∈frs X.stack,H b=none:=fun b hb=>by
 rcases lJl.mp (I.stkSub b hb) with e | hb
 ·rw[e];exact I.free
 ·obtain⟨_,o,ho,_⟩:=I.ok.funs.mem hb
  exact I.base.free b o ho (I.ok.frf b hb) fun z=>I.ok.exfs b z hb
theorem Inv.step {g':Array GenState} {t':Nat} {d':Drawn} {ch:List Addr} (I:Inv X pins σ H s)
  (hch:∀b∈ch,(b∈X.ex\/X.s₀.heap.objs.size<=b)/\b≠X.env.locals/\(∀x c,X.env.cells.lookup x=some c->c≠b)/\∀p∈X.pn++pins,p.1≠b)
  (keep:∀b o,b≠X.env.locals->b∉X.fs->b∉ch->s.heap.get? b=some o->H b=none->h'.get? b=some o)
  (slot:∀b o,b≠X.env.locals->b∈X.fs->b∉ch->s.heap.get? b=some o->H b=none->∃sl,h'.get? b=some {o with slots:=sl}) (free:∀b o,b∉ch->s.heap.get? b=some o->H b=none->H' b=none)
  (there:∀b o,b∉ch->s.heap.get? b=some o->∃o',h'.get? b=some o')
  (tups:∀b xs,H b=some (.tup xs)->H' b=some (.tup xs)) (frzs:∀b o u,H b=some (.frz o u)->H' b=some (.frz o u)) (tbls:∀b ps,H b=some (.tbl ps)->∃more,H' b=some (.tbl (ps++more)))
  (ns:∀m,s.heap.Ns X.env.locals m->h'.Ns X.env.locals m) (hok:HOk X.prog X.w H' h') (hg:AllBare g'):
  Inv X pins σ H' {s with heap:=h',gens:=g',drawn:=d',toks:=t'}:=by
 have neL:∀b o,X.s₀.heap.get? b=some o->b≠X.env.locals:=fun b o e=>lJw (lKb (lJj e) I.ok.above)
 have neC:∀b o,X.s₀.heap.get? b=some o->b∉X.ex->b∉ch:=fun b o e hx hb=>by
  rcases (hch b hb).1 with z | z
  ·exact hx z
  ·exact absurd (lKb (lJj e) z) (lQv _)
 have cellK:∀x c,X.env.cells.lookup x=some c->∀v,s.heap.IsCell c v->h'.IsCell c v:=fun x c e v ⟨o,ho,hd⟩=>by
  have nch:c∉ch:=fun z=>(hch c z).2.2.1 x c e rfl
  by_cases hc:c∈X.fs
  ·obtain⟨sl,q⟩:=slot c o (I.cne x c e) hc nch ho (I.freeC x c e)
   exact⟨_,q,hd⟩
  ·exact⟨o,keep c o (I.cne x c e) hc nch ho (I.freeC x c e),hd⟩
 refine⟨I.ok,I.os,hg,⟨fun b o e n hb hx=> ?_,fun b o e n hb hx=> ?_,fun b o e n hx=> ?_,fun b o e hx=> ?_,fun b xs e=>tups b xs (I.base.tups b xs e),fun b o xs e=>frzs b o xs (I.base.frzs b o xs e),fun b ps e=> ?_⟩,?_,fun x c e=> ?_,?_,fun x c e=> ?_,fun p hp=> ?_,hok,I.len⟩
 ·exact keep b o (neL b o e) hb (neC b o e hx) (I.base.keep b o e n hb hx) (I.base.free b o e n hx)
 ·obtain⟨sl,e1⟩:=I.base.slot b o e n hb hx
  obtain⟨sl',e2⟩:=slot b _ (neL b o e) hb (neC b o e hx) e1 (I.base.free b o e n hx)
  exact⟨sl',e2⟩
 ·obtain⟨o',e1⟩:=I.base.there b o e hx
  exact free b o' (neC b o e hx) e1 (I.base.free b o e n hx)
 ·obtain⟨o',e1⟩:=I.base.there b o e hx
  exact there b o' (neC b o e hx) e1
 ·obtain⟨m1,e1⟩:=I.base.tbls b ps e
  obtain⟨m2,e2⟩:=tbls b _ e1
  exact⟨m1++m2,by rw[e2,Array.append_assoc]⟩
 ·obtain⟨m,hn,hl⟩:=I.loc
  refine⟨m,ns m hn,fun i x v e1 e2 e3=> ?_⟩
  obtain⟨u,r,l⟩:=hl i x v e1 e2 e3
  refine⟨u,r,?_⟩
  rcases l with l | ⟨k,c,e,z⟩
  ·exact .inl l
  ·exact .inr ⟨k,c,e,cellK x c e _ z⟩
 ·obtain⟨v,z⟩:=I.cell x c e
  exact⟨v,cellK x c e v z⟩
 ·obtain⟨m,⟨o,_,_,ho,_⟩,_⟩:=I.loc
  exact free _ o (fun z=>(hch _ z).2.1 rfl) ho I.free
 ·obtain⟨v,o,ho,hd⟩:=I.cell x c e
  exact free c o (fun z=>(hch c z).2.2.1 x c e rfl) ho (I.freeC x c e)
 ·obtain⟨e,n,ne,nf,d⟩:=I.pin p hp
  have nch:p.1∉ch:=fun z=>(hch p.1 z).2.2.2 p hp rfl
  exact⟨keep p.1 p.2 ne nf nch e n,free p.1 p.2 nch e n,ne,nf,d⟩
theorem Inv.un {t':Nat} (I:Inv X pins σ H s) (u:Un X.fs [] H H' s.heap h') (hok:HOk X.prog X.w H' h'):Inv X pins σ H' {s with heap:=h',toks:=t'}:=by
 obtain⟨m,⟨o,es,ep,ho,r⟩,_⟩:=id I.loc
 obtain⟨sl,hL⟩:=u.any ho I.free (by simp)
 exact I.step (g':=s.gens) (d':=s.drawn) (ch:=[]) (fun _ z=>nomatch z) (fun b o _ hb _ e n=>u.keep b o e n hb (by simp)) (fun b o _ hb _ e n=>u.slot b o e n hb (by simp)) (fun b o _ e n=>u.free b o e n (by simp)) (fun b o _ e=>u.there b o e (by simp)) u.tups u.frzs u.tbls (fun m' hm=>by
  obtain⟨o',es',ep',ho',r'⟩:=hm
  rw[ho] at ho';cases ho'
  exact⟨_,es',ep',hL,r'⟩) hok I.bare
theorem Inv.call {g':Array GenState} {t':Nat} {d':Drawn} {ch:List Addr} (I:Inv X pins σ H s) (u:Un (frs X.stack) ch H H' s.heap h') (hok:HOk X.prog X.w H' h') (hg:AllBare g')
  (hch:∀b∈ch,(b∈X.ex\/X.s₀.heap.objs.size<=b)/\b≠X.env.locals/\(∀x c,X.env.cells.lookup x=some c->c≠b)/\∀p∈X.pn++pins,p.1≠b):
  Inv X pins σ H' {s with heap:=h',gens:=g',drawn:=d',toks:=t'}:=by
 obtain⟨m,⟨o,es,ep,ho,r⟩,_⟩:=id I.loc
 obtain⟨sl,hL⟩:=u.any ho I.free fun z=>(hch _ z).2.1 rfl
 exact I.step (ch:=ch) hch (fun b o hL hb hc e n=>u.keep b o e n (fun z=>(lJl.mp (I.stkSub b z)).elim hL hb) hc) (fun b o _ _ hc e n=>u.any e n hc) (fun b o hc e n=>u.free b o e n hc) (fun b o hc e=>u.there b o e hc) u.tups u.frzs u.tbls (fun m' hm=>by
  obtain⟨o',es',ep',ho',r'⟩:=hm
  rw[ho] at ho';cases ho'
  exact⟨_,es',ep',hL,r'⟩) hok hg
theorem Inv.turned {t':Nat} {it:Addr} (I:Inv X pins σ H s) (k:∀b o,b≠it->s.heap.get? b=some o->h'.get? b=some o) (hn:H it=none) (hL:it≠X.env.locals)
  (h1:it∈X.ex\/X.s₀.heap.objs.size<=it) (h2:∀x c,X.env.cells.lookup x=some c->c≠it) (h3:∀p∈X.pn++pins,p.1≠it):Inv X pins σ H {s with heap:=h',toks:=t'}:=by
 have nit:∀b u,H b=some u->b≠it:=fun b u e z=>by rw[z,hn] at e;cases e
 refine I.step (g':=s.gens) (d':=s.drawn) (ch:=[it]) (fun b hb=> ?_) (fun b o _ _ hc e _=>k b o (fun z=>hc (by simp[z])) e) (fun b o _ _ hc e _=>⟨o.slots,k b o (fun z=>hc (by simp[z])) e⟩) (fun _ _ _ _ n=>n)
  (fun b o hc e=>⟨o,k b o (fun z=>hc (by simp[z])) e⟩) (fun _ _ e=>e) (fun _ _ _ e=>e) (fun b ps e=>⟨#[],by rw[e];simp⟩) (fun m hm=> ?_) (fun b u e=> ?_) I.bare
 ·have e:b=it:=by simpa using hb
  subst e
  exact⟨h1,hL,h2,h3⟩
 ·obtain⟨o,es,ep,ho,r⟩:=hm
  exact⟨o,es,ep,k _ o (Ne.symm hL) ho,r⟩
 ·refine (I.hok b u e).stay (fun c v hc q=>k c v ?_ q) (fun _ q=>q) fun _ _ q=>q
  rcases hc with z | z
  ·rw[z];exact nit b u e
  ·exact nit c _ z
theorem Inv.tok (I:Inv X pins σ H s) (t:Nat):Inv X pins σ H {s with toks:=t}:=I.un (h':=s.heap) (t':=t) Un.refl I.hok
theorem Inv.kept {t':Nat} (I:Inv X pins σ H s) (k:∀b u,s.heap.get? b=some u->h'.get? b=some u):Inv X pins σ H {s with heap:=h',toks:=t'}:=I.un (Un.kept k) (I.hok.kept k)
theorem Inv.laid {a:Addr} {o:HO} {t':Nat} (I:Inv X pins σ H s) (k:∀b u,s.heap.get? b=some u->h'.get? b=some u) (hp:s.heap.objs.size<=a) (new:ObjOk X.prog X.w (upd H a o) h' a o):
  Inv X pins σ (upd H a o) {s with heap:=h',toks:=t'}:=I.un (Un.laid k hp (I.hok.fresh hp)) (I.hok.laid k hp new)
theorem Inv.write {x e:Addr} {o:HO} {t':Nat} (I:Inv X pins σ H s) (mu:Mut (H x)) (he:e=x\/H e=some (.own x)) (k:∀b u,b≠e->s.heap.get? b=some u->h'.get? b=some u) (heo:∃u,h'.get? e=some u)
  (new:ObjOk X.prog X.w (upd H x o) h' x o):Inv X pins σ (upd H x o) {s with heap:=h',toks:=t'}:=I.un (Un.write mu he k heo) (I.hok.write mu he k heo new)
theorem Inv.weak {σ':List (Option V)} (I:Inv X pins σ H s) (hl:σ'.length=σ.length) (w:∀(i:Nat) v,σ'[i]? =some (some v)->σ[i]? =some (some v)):Inv X pins σ' H s:=
 ⟨I.ok,I.os,I.bare,I.base,let ⟨m,hn,hl'⟩:=I.loc;⟨m,hn,fun i x v e1 e2 e3=>hl' i x v e1 (w i v e2) e3⟩,I.cell,I.free,I.freeC,I.pin,I.hok,hl.trans I.len⟩
theorem Inv.pins_of {pins':List (Addr×Obj)} (I:Inv X pins σ H s) (h:∀p∈pins',s.heap.get? p.1=some p.2/\H p.1=none/\p.1≠X.env.locals/\p.1∉X.fs/\∀v,p.2.data≠ .cell v):Inv X pins' σ H s:=
 ⟨I.ok,I.os,I.bare,I.base,I.loc,I.cell,I.free,I.freeC,fun p hp=>(lKh.mp hp).elim (fun z=>I.pin p (lQp _ z)) (h p),I.hok,I.len⟩
theorem kYx {N:List Str} (hN:N.Nodup) {i j:Nat} {x:Str} (a:N[i]? =some x) (b:N[j]? =some x):i=j:=by
 obtain⟨h1,e1⟩:=lJe.mp a
 obtain⟨h2,e2⟩:=lJe.mp b
 exact (List.getElem_inj hN).mp (e1.trans e2.symm)
theorem qKi {M:Model} {A:Around} {E:Value->Shared->Prop} {i:Nat} {x:Str} {v:V} {u:Value} {Q:Unit->Shared->Prop} (I:Inv X pins σ H s) (hN:X.N.Nodup) (hi:X.N[i]? =some x) (hx:Loc X.env.scope x) (r:RelV v u)
  (h:∀s',Inv X pins (σ.set i (some v)) H s'->(∃a,Heap.SameBut a s.heap s'.heap/\(a=X.env.locals\/X.env.cells.lookup x=some a))->Q () s') (hf:X.fn x=true\/X.env.scope.names.lookup x=some .local:=by first | exact .inl rfl | exact .inr rfl | assumption):wpAny M A (storeName X.env x u) Q E s:=by
 obtain⟨m,hn,hl⟩:=id I.loc
 have hcls:(X.env.scope.kind == .class||(X.env.scope.kind == .module&&X.env.locals != X.env.globals))=false:=by rw[I.ok.kind];rfl
 have hiσ:i<σ.length:=by rw[I.len];exact (lJe.mp hi).1
 have cne:=I.cne
 have tracked:∀ {a:Addr} {h':Heap},(∃o,s.heap.get? a=some o/\H a=none)->Heap.SameBut a s.heap h'->HOk X.prog X.w H h':=fun {a h'} ha hs b ob e=>by
  obtain⟨_,_,hfree⟩:=ha
  refine (I.hok b ob e).stay (fun c w' hc q=>(hs.2 c ?_).trans q) (fun _ q=>q) fun _ _ q=>q
  rintro rfl
  rcases hc with rfl | hc
  ·rw[hfree] at e;cases e
  ·rw[hfree] at hc;cases hc
 rcases hx with hk | hk
 ·refine wpAny_storeName_local hk hn (fun h' hn' hs=> ?_) hcls
  obtain⟨oL,_,_,hoL,_⟩:=id hn
  refine h _ ⟨I.ok,I.os,I.bare,⟨fun b o e n hb hx=> ?_,fun b o e n hb hx=> ?_,I.base.free,fun b o e hx=> ?_,I.base.tups,I.base.frzs,I.base.tbls⟩,⟨_,hn',fun j y v' e1 e2 e3=> ?_⟩,fun y c e=> ?_,I.free,I.freeC,fun p hp=> ?_,tracked ⟨oL,hoL,I.free⟩ hs,by simpa using I.len⟩ ⟨_,hs,.inl rfl⟩
  ·exact (hs.2 b (lJw (lKb (lJj e) I.ok.above))).trans (I.base.keep b o e n hb hx)
  ·obtain⟨sl,e1⟩:=I.base.slot b o e n hb hx
   exact⟨sl,(hs.2 b (lJw (lKb (lJj e) I.ok.above))).trans e1⟩
  ·obtain⟨o',e1⟩:=I.base.there b o e hx
   exact⟨o',(hs.2 b (lJw (lKb (lJj e) I.ok.above))).trans e1⟩
  ·by_cases hj:j=i
   ·subst hj
    rw[hi] at e1;cases e1
    rw[lKw hiσ] at e2
    cases e2
    exact⟨u,r,.inl ⟨hk,by simp⟩⟩
   ·rw[lKl (Ne.symm hj)] at e2
    obtain⟨u',r',q⟩:=hl j y v' e1 e2 e3
    refine⟨u',r',?_⟩
    rcases q with ⟨k,e⟩ | ⟨k,c,e,z⟩
    ·refine .inl ⟨k,?_⟩
     have:y≠x:=fun e=>hj (kYx hN e1 (e▸hi))
     simp[this,e]
    ·exact .inr ⟨k,c,e,z.sameBut hs (cne y c e)⟩
  ·obtain⟨w',z⟩:=I.cell y c e
   exact⟨w',z.sameBut hs (cne y c e)⟩
  ·obtain⟨e,n,ne,nf,d⟩:=I.pin p hp
   exact⟨(hs.2 p.1 ne).trans e,n,ne,nf,d⟩
 ·have hfn:X.fn x=true:=by
   rcases hf with z | z
   ·exact z
   ·rw[z] at hk;cases hk
  obtain⟨c,hc⟩:=I.ok.has x (.inl hk)
  obtain⟨w',z⟩:=I.cell x c hc
  refine wpAny_storeName_cell I.ok.kind hk hc z (fun h' hc' hs=> ?_)
  obtain⟨oc,hoc,hocd⟩:=id z
  refine h {s with heap:=h'} ⟨I.ok,I.os,I.bare,⟨fun b o e n hb hx=> ?_,fun b o e n hb hx=> ?_,I.base.free,fun b o e hx=> ?_,I.base.tups,I.base.frzs,I.base.tbls⟩,⟨m,hn.sameBut hs (Ne.symm (cne x c hc)),fun j y v' e1 e2 e3=> ?_⟩,fun y c' e=> ?_,I.free,I.freeC,fun p hp=> ?_,tracked ⟨oc,hoc,I.freeC x c hc⟩ hs,by simpa using I.len⟩ ⟨c,hs,.inr hc⟩
  ·exact (hs.2 b (lJw (lKb (lJj e) (I.ok.cab x c hfn hc)))).trans (I.base.keep b o e n hb hx)
  ·obtain⟨sl,e1⟩:=I.base.slot b o e n hb hx
   exact⟨sl,(hs.2 b (lJw (lKb (lJj e) (I.ok.cab x c hfn hc)))).trans e1⟩
  ·obtain⟨o',e1⟩:=I.base.there b o e hx
   exact⟨o',(hs.2 b (lJw (lKb (lJj e) (I.ok.cab x c hfn hc)))).trans e1⟩
  ·by_cases hj:j=i
   ·subst hj
    rw[hi] at e1;cases e1
    rw[lKw hiσ] at e2
    cases e2
    exact⟨u,r,.inr ⟨.inl hk,c,hc,hc'⟩⟩
   ·rw[lKl (Ne.symm hj)] at e2
    obtain⟨u',r',q⟩:=hl j y v' e1 e2 e3
    refine⟨u',r',?_⟩
    rcases q with q | ⟨k,c',e,z'⟩
    ·exact .inl q
    ·refine .inr ⟨k,c',e,z'.sameBut hs ?_⟩
     rintro rfl
     exact hj (kYx hN e1 (I.ok.inj _ _ _ e hc▸hi))
  ·by_cases hcc:c'=c
   ·subst hcc;exact⟨_,hc'⟩
   ·obtain⟨w2,z2⟩:=I.cell y c' e
    exact⟨w2,z2.sameBut hs hcc⟩
  ·obtain⟨e,n,ne,nf,d⟩:=I.pin p hp
   refine⟨(hs.2 p.1 ?_).trans e,n,ne,nf,d⟩
   intro q
   rw[q,hoc] at e
   have q':oc=p.2:=lJ7 e
   exact d w' (by rw[<-q'];exact hocd)
theorem kK6 {M:Model} {A:Around} {E:Value->Shared->Prop} {i:Nat} {x:Str} {v:V} {u:Value} {Q:Unit->Shared->Prop} (I:Inv X pins σ H s) (hN:X.N.Nodup) (hi:X.N[i]? =some x) (hx:Loc X.env.scope x) (r:RelV v u)
  (h:∀s',Inv X pins (σ.set i (some v)) H s'->Q () s') (hf:X.fn x=true\/X.env.scope.names.lookup x=some .local:=by first | exact .inl rfl | exact .inr rfl | assumption):wpAny M A (storeName X.env x u) Q E s:=
 qKi I hN hi hx r (fun s' I' _=>h s' I') hf
theorem Inv.call' {s':Shared} {ch:List Addr} (I:Inv X pins σ H s) (ho:s'.os=s.os) (u:Un (frs X.stack) ch H H' s.heap s'.heap) (hok:HOk X.prog X.w H' s'.heap) (hg:AllBare s'.gens)
  (hch:∀b∈ch,(b∈X.ex\/X.s₀.heap.objs.size<=b)/\b≠X.env.locals/\(∀x c,X.env.cells.lookup x=some c->c≠b)/\∀p∈X.pn++pins,p.1≠b):Inv X pins σ H' s':=by
 obtain⟨h',g',d',t',o'⟩:=s'
 have e:o'=s.os:=ho
 subst e
 exact I.call (g':=g') (t':=t') (d':=d') u hok hg hch
end
abbrev XK:=Value->Option Addr->Hp->Prop
abbrev St:=List (Option V)
abbrev VK:=V->Hp->Prop
abbrev TE:=St->Hp->VK->Prop
abbrev TT:=St->Hp->(Bool->Hp->Prop)->Prop
abbrev TA:=St->Hp->(List V->Hp->Prop)->Prop
structure Ends where
 nx:St->Hp->Prop
 rt:VK
 bk:St->Hp->Prop:=fun _ _=>False
 ct:St->Hp->Prop:=fun _ _=>False
abbrev TS:=Ends->St->Hp->Prop
def EP (X:Cx) (pins:List (Addr×Obj)) (σ:St) (Q:VK) (u:Value) (s':Shared):Prop:=∃v H',Inv X pins σ H' s'/\RelV v u/\Q v H'
def TP (X:Cx) (pins:List (Addr×Obj)) (σ:St) (Q:Bool->Hp->Prop) (b:Bool) (s':Shared):Prop:=∃H',Inv X pins σ H' s'/\Q b H'
def SP (X:Cx) (pins:List (Addr×Obj)) (D:Ends) (f:Flow) (s':Shared):Prop:=
 match f with
 | .next=>∃ σ' H',Inv X pins σ' H' s'/\D.nx σ' H'
 | .brk=>∃ σ' H',Inv X pins σ' H' s'/\D.bk σ' H'
 | .cont=>∃ σ' H',Inv X pins σ' H' s'/\D.ct σ' H'
 | .ret u=>∃v σ' H',Inv X pins σ' H' s'/\RelV v u/\D.rt v H'
def PE (X:Cx) (e:Expr) (t:TE):Prop:=
 ∀(pins:List (Addr×Obj)) (s:Shared) (σ:St) (H:Hp) (Q:VK),Inv X pins σ H s->t σ H Q->wpAny (model X.prog X.w) X.A (eval e X.env) (EP X pins σ Q) X.xe s
def PSs (X:Cx) (st:List Stmt) (t:TS):Prop:=
 ∀(pins:List (Addr×Obj)) (s:Shared) (σ:St) (H:Hp) (D:Ends),Inv X pins σ H s->t D σ H->wpAny (model X.prog X.w) X.A (execs st X.env) (SP X pins D) X.xe s
theorem thn {α:Type} {t:Sem α} {Q Q':α->Shared->Prop} {M:Model} {A:Around} {E:Value->Shared->Prop} {s:Shared} (h:wpAny M A t Q E s) (hQ:∀a s,Q a s->Q' a s):wpAny M A t Q' E s:=lQb h hQ fun _ _ x=>x
section
variable {X:Cx}
def tVar (i:Nat):TE:=fun σ H Q=>∃v,σ[i]? =some (some v)/\Q v H
def tC (v:V):TE:=fun _ H Q=>Q v H
theorem pe_var {i:Nat} {x:Str} {pos:Pos} (hN:X.N[i]? =some x) (hv:Vis X.env.scope x) (hd:(x == ("__debug__":Str))=false:=by decide) (hcd:(x == ("__classdict__":Str))=false:=by decide):PE X (.Name x pos) (tVar i):=by
 intro pins s σ H Q I h
 obtain⟨v,e,h⟩:=h
 obtain⟨m,hn,hl⟩:=I.loc
 obtain⟨u,r,l⟩:=hl i x v hN e hv
 have fin:EP X pins σ Q u s:=⟨v,H,I,r,h⟩
 rcases l with ⟨hk,hm⟩ | ⟨hk,c,hc,hcell⟩
 ·exact wpAny_Name (wpAny_loadName_local I.ok.kind hk hn hm fin) hd
 ·rcases hk with hk | hk
  ·exact wpAny_Name (wpAny_loadName_cell I.ok.kind hk hc hcell fin) hd
  ·exact wpAny_Name (wpAny_loadName_free I.ok.kind hk hc hcell fin hcd) hd
theorem pe_int {i j pos}:PE X (.Constant (.int i) j pos) (tC (.int i)):=fun _ _ _ H _ I h=>wpAny_Constant_int ⟨.int i,H,I.tok _,⟨_,rfl⟩,h⟩
theorem pe_bl {b j pos}:PE X (.Constant (.bool b) j pos) (tC (.bl b)):=fun _ _ _ H _ I h=>Constant_bool ⟨.bl b,H,I,rfl,h⟩
theorem pe_non {j pos}:PE X (.Constant .none j pos) (tC .non):=fun _ _ _ H _ I h=>Constant_none ⟨.non,H,I,rfl,h⟩
def Gl (X:Cx) (x:Str):Prop:=X.env.kindOf x=some .globalImplicit
theorem qQ4 {E:Value->Shared->Prop} {pins:List (Addr×Obj)} {s:Shared} {σ:St} {H:Hp} {x:Str} {u:Value} {pos:Pos} {Q:Value->Shared->Prop} (I:Inv X pins σ H s) (hg:Gl X x) (hm:X.mg x=some u) (h:Q u s)
  (hd:(x == ("__debug__":Str))=false:=by decide):wpAny (model X.prog X.w) X.A (eval (.Name x pos) X.env) Q E s:=
 Calls.Name_function_global I.ok.kind hg (Calls.loadGlobal_global (by rw[I.ok.glob];exact I.mod.glob.keeps I.bk) hm h) hd
theorem jUu {E:Value->Shared->Prop} {pins:List (Addr×Obj)} {s:Shared} {σ:St} {H:Hp} {x:Str} {u:Value} {pos:Pos} {Q:Value->Shared->Prop} (I:Inv X pins σ H s) (hg:Gl X x) (hm:X.mg x=none) (hv:bootBuiltins x=some u) (h:Q u s)
  (hn:x≠"__name__":=by decide) (hd:(x == ("__debug__":Str))=false:=by decide):wpAny (model X.prog X.w) X.A (eval (.Name x pos) X.env) Q E s:=by
 obtain⟨mb,h1,h2⟩:=I.mod.blt
 exact Calls.Name_function_global I.ok.kind hg (Calls.loadGlobal_builtin (by rw[I.ok.glob];exact I.mod.glob.keeps I.bk) hm (by rw[I.ok.blt];exact h1.keeps I.bk) ((h2 x hn).trans hv) h) hd
theorem uJu {x:Str} {v:V} {u:Value} {pos:Pos} (hg:Gl X x) (hm:X.mg x=none) (hv:bootBuiltins x=some u) (r:RelV v u) (hn:x≠"__name__":=by decide) (hd:(x == ("__debug__":Str))=false:=by decide):PE X (.Name x pos) (tC v):=
 fun _ _ _ H _ I h=>jUu I hg hm hv ⟨v,H,I,r,h⟩ hn hd
variable {a b:Expr} {ta tb:TE} {pos:Pos}
def tB (t:TE):TT:=fun σ H Q=>t σ H fun x H1=>∃c,x= .bl c/\Q c H1
variable {tA tB':TT} {rest:List Expr}
def tAndV (ta tb:TE):TE:=fun σ H Q=>ta σ H fun x H1=>∃c,x= .bl c/\if c=true then tb σ H1 Q else Q (.bl false) H1
def tOrV (ta tb:TE):TE:=fun σ H Q=>ta σ H fun x H1=>∃c,x= .bl c/\if c=true then Q (.bl true) H1 else tb σ H1 Q
def tNotV (ta:TE):TE:=fun σ H Q=>ta σ H fun x H1=>∃c,x= .bl c/\Q (.bl (!c)) H1
end
def SqL (K:PySem.W.Frag) (H:Hp) (a:Addr) (xs:List V):Prop:=
 Rd H a (.lst xs)\/
  ∃(o:Obj) (its:Array Value) (n:Nat),K.lookup a=some o/\o.cls= .type "list"/\o.dict=none/\o.data= .seq its n/\its.size<=sizeLine/\Vals xs its.toList
def SqT (K:PySem.W.Frag) (H:Hp) (a:Addr) (xs:List V):Prop:=
 Rd H a (.tup xs)\/
  ∃(o:Obj) (its:Array Value) (n:Nat),K.lookup a=some o/\o.cls= .type "tuple"/\o.data= .seq its n/\its.size<=sizeLine/\Vals xs its.toList
noncomputable def absV:Value->Option V
 | .none=>some .non
 | .bool b=>some (.bl b)
 | .int i _=>some (.int i)
 | .str x _=>some (.str x)
 | .bytes b _=>some (.byt b)
 | .float b _=>some (.flt b)
 | .ref a=>some (.ref a)
 | .type n=>some (.ty n)
 | _=>none
theorem RelV.abs {x:V} {u:Value} (r:RelV x u):absV u=some x:=by
 cases x with
 | non=>cases r;rfl
 | bl _=>cases r;rfl
 | int _=>obtain⟨t,rfl⟩:=r;rfl
 | str _=>obtain⟨t,rfl⟩:=r;rfl
 | byt _=>obtain⟨t,rfl⟩:=r;rfl
 | flt _=>obtain⟨t,rfl⟩:=r;rfl
 | ref _=>cases r;rfl
 | ty _=>cases r;rfl
theorem RelV.inj {x y:V} {u:Value} (r:RelV x u) (q:RelV y u):x=y:=lJ7 (r.abs.symm.trans q.abs)
theorem Vals.inj {xs ys:List V} {us:List Value} (h:Vals xs us) (g:Vals ys us):xs=ys:=by
 induction h generalizing ys with
 | nil=>(cases g;rfl)
 | cons r _ ih=>(cases g with | cons r' t'=>rw[r.inj r',ih t'])
section
variable {X:Cx} {pins:List (Addr×Obj)} {σ:St} {H:Hp} {s:Shared} {a:Addr} {xs ys:List V}
theorem SqL.of {K:PySem.W.Frag} (h:H a=some (.lst xs)):SqL K H a xs:= .inl (.inl h)
theorem SqT.of {K:PySem.W.Frag} (h:H a=some (.tup xs)):SqT K H a xs:= .inl (.inl h)
theorem Inv.list (I:Inv X pins σ H s) (h:SqL X.K H a xs):∃its:List Value,Vals xs its/\PlainL s.heap a its.toArray/\xs.length<=sizeLine:=by
 rcases h with h | ⟨o,its,n,hk,hc,hd,hs,hz,r⟩
 ·obtain⟨z,its,n,r,e⟩:=h.ok I.hok
  exact⟨its,r,⟨_,n,e,rfl,rfl,rfl⟩,z⟩
 ·refine⟨its.toList,r,⟨o,n,I.kIn a o hk,hc,hd,by simpa using hs⟩,?_⟩
  have e:=r.length
  simp only[lKi] at e
  omega
theorem Inv.tuple (I:Inv X pins σ H s) (h:SqT X.K H a xs):∃its:List Value,Vals xs its/\IsTup s.heap a its.toArray/\xs.length<=sizeLine:=by
 rcases h with h | ⟨o,its,n,hk,hc,hs,hz,r⟩
 ·obtain⟨z,its,r,p⟩:=h.ok I.hok
  exact⟨its,r,p.is,z⟩
 ·refine⟨its.toList,r,⟨o,I.kIn a o hk,hc,n,by simpa using hs⟩,?_⟩
  have e:=r.length
  simp only[lKi] at e
  omega
theorem Inv.list_inj (I:Inv X pins σ H s) (h:SqL X.K H a xs) (h':SqL X.K H a ys):xs=ys:=by
 obtain⟨its,r,⟨o,n,e,_,_,d⟩,_⟩:=I.list h
 obtain⟨its',r',⟨o',n',e',_,_,d'⟩,_⟩:=I.list h'
 rw[e] at e';cases e'
 rw[d] at d'
 injection d' with d1 _
 have:its=its':=by simpa using lJ5 Array.toList d1
 subst this
 exact r.inj r'
theorem Inv.tuple_inj (I:Inv X pins σ H s) (h:SqT X.K H a xs) (h':SqT X.K H a ys):xs=ys:=by
 obtain⟨its,r,⟨o,e,_,n,d⟩,_⟩:=I.tuple h
 obtain⟨its',r',⟨o',e',_,n',d'⟩,_⟩:=I.tuple h'
 rw[e] at e';cases e'
 rw[d] at d'
 injection d' with d1 _
 have:its=its':=by simpa using lJ5 Array.toList d1
 subst this
 exact r.inj r'
end
abbrev Cx.wish (X:Cx) (E:Value->Shared->Prop):Cx:={X with xe:=E}
abbrev Cx.nox (X:Cx):Cx:=X.wish fun _ _=>False
theorem Cx.Ok.wish {X:Cx} (ok:X.Ok) (E:Value->Shared->Prop):(X.wish E).Ok:=
 ⟨ok.mod,ok.kind,ok.glob,ok.blt,ok.above,ok.inj,ok.has,ok.cab,ok.hd,ok.gd,ok.frames,ok.stk,ok.exf,ok.bs,ok.bsz,ok.noex,ok.exfs,ok.funs,ok.frf⟩
theorem Cx.Ok.unwish {X:Cx} {E:Value->Shared->Prop} (ok:(X.wish E).Ok):X.Ok:=
 ⟨ok.mod,ok.kind,ok.glob,ok.blt,ok.above,ok.inj,ok.has,ok.cab,ok.hd,ok.gd,ok.frames,ok.stk,ok.exf,ok.bs,ok.bsz,ok.noex,ok.exfs,ok.funs,ok.frf⟩
section
variable {X:Cx} {pins:List (Addr×Obj)} {σ:St} {H:Hp} {s:Shared} {E:Value->Shared->Prop}
theorem Inv.wish (I:Inv X pins σ H s) (E:Value->Shared->Prop):Inv (X.wish E) pins σ H s:=⟨I.ok.wish E,I.os,I.bare,I.base,I.loc,I.cell,I.free,I.freeC,I.pin,I.hok,I.len⟩
theorem Inv.unwish (I:Inv (X.wish E) pins σ H s):Inv X pins σ H s:=⟨I.ok.unwish,I.os,I.bare,I.base,I.loc,I.cell,I.free,I.freeC,I.pin,I.hok,I.len⟩
theorem SP.unwish {D:Ends} {f:Flow} {s':Shared} (h:SP (X.wish E) pins D f s'):SP X pins D f s':=by
 cases f with
 | next=>obtain⟨σ',H',I,q⟩:=h;exact⟨σ',H',I.unwish,q⟩
 | brk=>obtain⟨σ',H',I,q⟩:=h;exact⟨σ',H',I.unwish,q⟩
 | cont=>obtain⟨σ',H',I,q⟩:=h;exact⟨σ',H',I.unwish,q⟩
 | ret u=>obtain⟨v,σ',H',I,r,q⟩:=h;exact⟨v,σ',H',I.unwish,r,q⟩
theorem PSs.nox {st:List Stmt} {t:TS} (h:PSs X.nox st t):PSs X st t:=fun pins s σ H D I hw=>
 lQb (h pins s σ H D (I.wish _) hw) (fun _ _ q=>q.unwish) fun _ _ z=>False.elim z
end
section
variable {X:Cx} {st:Stmt} {rest:List Stmt} {t u:TS} {e:Expr} {te:TE} {pos:Pos}
theorem Inv.quiet {pins:List (Addr×Obj)} {σ:St} {H:Hp} {s:Shared} (I:Inv X pins σ H s):interactive X.env=false:=by simp[interactive,I.ok.kind]
def tRetN:TS:=fun D _ H=>D.rt .non H
end
abbrev TSet:=V->V->V->Hp->(Hp->Prop)->Prop
def PSet (X:Cx) (t:TSet):Prop:=
 ∀(pins:List (Addr×Obj)) (s:Shared) (σ:St) (H:Hp) (o i v:V) (ov iv u:Value) (Q:Hp->Prop),Inv X pins σ H s->RelV o ov->RelV i iv->RelV v u->t o i v H Q->
  wpAny (model X.prog X.w) X.A (setItem ov iv u) (fun _ s'=>∃H',Inv X pins σ H' s'/\Q H') X.xe s
section
variable {X:Cx} {pos:Pos}
def tPar (i j:Nat) (ta:TA):TS:=fun D σ H=>ta σ H fun vs H1=>∃v w,vs=[v,w]/\D.nx ((σ.set i (some v)).set j (some w)) H1
end
section
variable {X:Cx} {pos:Pos}
end
structure It where
 go:Nat->Hp->Prop
 yld:Nat->Hp->V->Hp->Prop
 stop:Nat->Hp->Prop
def FpOk (X:Cx) (pins:List (Addr×Obj)) (H:Hp) (b:Addr):Prop:=
 H b=none/\b≠X.env.locals/\b∉X.fs/\(b∈X.ex\/X.s₀.heap.objs.size<=b)/\(∀x c,X.env.cells.lookup x=some c->c≠b)/\∀p∈X.pn++pins,p.1≠b
theorem Inv.fpOk {X:Cx} {pins:List (Addr×Obj)} {σ:St} {H H':Hp} {s:Shared} {b:Addr} (I:Inv X pins σ H s) (hb:s.heap.objs.size<=b) (hn:H' b=none):FpOk X pins H' b:=by
 refine⟨hn,lVd (lKb I.lt hb),I.nofs hb,.inr (lJ8 I.sz hb),fun x c e z=> ?_,fun p hp z=> ?_⟩
 ·obtain⟨v,q⟩:=I.cell x c e
  exact absurd (lKb q.lt (by rw[z];exact hb)) (lQv _)
 ·exact absurd (lKb (lJj (I.pin p hp).1) (by rw[z];exact hb)) (lQv _)
structure Turn (P:Program) (w:World) (K:PySem.W.Frag) (tg:Expr) (J:It) (fp:List Addr) (it:Addr) (tn:Nat->Heap->Prop):Prop where
 mem:it∈fp
 obj:∀i h,tn i h->∀b∈fp,∃o,h.get? b=some o/\∀v,o.data≠ .cell v
 keep:∀i h h',tn i h->(∀b∈fp,∀o,h.get? b=some o->h'.get? b=some o)->tn i h'
 item:∀(X:Cx),X.prog=P->X.w=w->X.K=K->X.calm=true->∀(i:Nat) (pins:List (Addr×Obj)) (s:Shared) (σ:St) (H:Hp) (E:Value->Shared->Prop),Inv X pins σ H s->(∀b∈fp,FpOk X pins H b)->tn i s.heap->J.go i H->
  wpAny (model P w) X.A (pyNext (.ref it)) (fun r s1=>∃u,r=some u/\
   wpAny (model P w) X.A (letOwnedTupleGo tg (.ref it) u) (fun _ s2=>∃x H',Inv X pins σ H' s2/\RelV x u/\J.yld i H x H'/\tn (i+1) s2.heap/\∀b∈fp,H' b=none) E s1) E s
 done:∀(X:Cx),X.prog=P->X.w=w->X.K=K->X.calm=true->∀(i:Nat) (pins:List (Addr×Obj)) (s:Shared) (σ:St) (H:Hp) (E:Value->Shared->Prop),Inv X pins σ H s->(∀b∈fp,FpOk X pins H b)->tn i s.heap->J.stop i H->
  wpAny (model P w) X.A (pyNext (.ref it)) (fun r s1=>r=none/\Inv X pins σ H s1) E s
 self:∀(A:Around) (i:Nat) (s:Shared) (Q:Value->Shared->Prop) (E:Value->Shared->Prop),tn i s.heap->Q (.ref it) s->wpAny (model P w) A (pyIter (.ref it)) Q E s
abbrev TI:=St->Hp->(It->Hp->Prop)->Prop
def PIE (X:Cx) (pins:List (Addr×Obj)) (σ:St) (tg:Expr) (R:It->Hp->Prop) (itv:Value) (s2:Shared):Prop:=
 ∃(it:Addr) (fp:List Addr) (tn:Nat->Heap->Prop) (J:It) (H':Hp),itv= .ref it/\Inv X pins σ H' s2/\Turn X.prog X.w X.K tg J fp it tn/\tn 0 s2.heap/\(∀b∈fp,FpOk X pins H' b)/\R J H'
def PI (X:Cx) (tg iter:Expr) (wi:TI):Prop:=
 ∀(pins:List (Addr×Obj)) (s:Shared) (σ:St) (H:Hp) (R:It->Hp->Prop),Inv X pins σ H s->wi σ H R->
  wpAny (model X.prog X.w) X.A (eval iter X.env) (fun v s1=>wpAny (model X.prog X.w) X.A (pyIter v) (PIE X pins σ tg R) X.xe s1) X.xe s
theorem qUi {M:Model} {A:Around} {E:Value->Shared->Prop} {s:Shared} {tg:Expr} {it:Addr} {u:Value} {o:Obj} {n:String} {vs:Array Value} {Q:Unit->Shared->Prop} (ho:s.heap.get? it=some o) (hc:o.cls= .type n) (hd:o.data= .fields vs)
  (hn:["enumerate","zip","dict_itemiterator","dict_reverseitemiterator","odict_iterator","itertools.zip_longest","itertools.pairwise"].contains n=false) (hQ:Q () s):wpAny M A (letOwnedTupleGo tg (.ref it) u) Q E s:=by
 unfold letOwnedTupleGo
 cases tg<;>first
  | exact lJd hQ
  | (cases u<;>first
    | exact lJd hQ
    | (refine lJa (wpAny_load ho ?_)
       rw[hc,hd]
       show wpAny M A (if (["enumerate","zip","dict_itemiterator","dict_reverseitemiterator","odict_iterator","itertools.zip_longest","itertools.pairwise"].contains n&&vs[0]? == some (rawInt _))=true then _ else _) Q E s
       rw[lJb (by intro h;rw[hn,Bool.false_and] at h;cases h)]
       exact lJd hQ))
noncomputable def Itl (K:PySem.W.Frag) (a:Addr):It:=
 ⟨fun i H=>∃xs x,SqL K H a xs/\xs[i]? =some x,fun i H x H'=>H'=H/\∀xs,SqL K H a xs->xs[i]? =some x,fun i H=>∃xs,SqL K H a xs/\xs.length<=i⟩
noncomputable def Itt (K:PySem.W.Frag) (a:Addr):It:=
 ⟨fun i H=>∃xs x,SqT K H a xs/\xs[i]? =some x,fun i H x H'=>H'=H/\∀xs,SqT K H a xs->xs[i]? =some x,fun i H=>∃xs,SqT K H a xs/\xs.length<=i⟩
def Itr (lo:Int) (n:Nat):It:=⟨fun i _=>i<n,fun i H x H'=>H'=H/\x= .int (lo+i),fun i _=>n<=i⟩
theorem qKc {P:Program} {w:World} {K:PySem.W.Frag} {tg:Expr} (a it:Addr):Turn P w K tg (Itl K a) [it] it (fun i h=>h.IsListIter it a i) where
 mem:=by simp
 obj:=fun i h st b hb=>by
  have e:b=it:=by simpa using hb
  subst e
  obtain⟨o,e,c,d⟩:=st
  exact⟨o,e,fun v z=>by rw[d] at z;cases z⟩
 keep:=fun i h h' st k=>st.at fun o e=>k it (by simp) o e
 item:=by
  intro X hP hw hK hc i pins s σ H E I hf st hg
  subst hP hw hK
  obtain⟨xs,x,hq,hx⟩:=hg
  obtain⟨its,rv,p,hz⟩:=I.list hq
  obtain⟨u,hu,ru⟩:=rv.get hx
  obtain⟨f0,f1,f2,f3,f4,f5⟩:=hf it (by simp)
  refine wpAny_pyNext_list_item st p.isList (x:=u) (by simpa using hu) fun h' st' sb=> ?_
  have I1:Inv X pins σ H {s with heap:=h'}:=I.turned (t':=s.toks) (fun b o hb e=>(sb.2 b hb).trans e) f0 f1 f3 f4 f5
  obtain⟨o,e,c,d⟩:=id st'
  exact⟨u,rfl,qUi (s:={s with heap:=h'}) e c d (by decide) ⟨x,H,I1,ru,⟨rfl,fun ys hy=>by rw[I.list_inj hy hq];exact hx⟩,st',fun b hb=>(hf b hb).1⟩⟩
 done:=by
  intro X hP hw hK hc i pins s σ H E I hf st hg
  subst hP hw hK
  obtain⟨xs,hq,hx⟩:=hg
  obtain⟨its,rv,p,hz⟩:=I.list hq
  obtain⟨f0,f1,f2,f3,f4,f5⟩:=hf it (by simp)
  have hl:=rv.length
  exact wpAny_pyNext_list_end (I.ok.hd hc) st p.isList (by simp;omega) fun h' eb=>⟨rfl,I.turned (t':=s.toks) (fun b o hb e=>eb b o hb e) f0 f1 f3 f4 f5⟩
 self:=fun _ _ _ _ _ st h=>wpAny_pyIter_listiter st h
theorem kZy {P:Program} {w:World} {K:PySem.W.Frag} {tg:Expr} (a it:Addr):Turn P w K tg (Itt K a) [it] it (fun i h=>h.IsTupleIter it a i) where
 mem:=by simp
 obj:=fun i h st b hb=>by
  have e:b=it:=by simpa using hb
  subst e
  obtain⟨o,e,c,d⟩:=st
  exact⟨o,e,fun v z=>by rw[d] at z;cases z⟩
 keep:=fun i h h' st k=>st.at fun o e=>k it (by simp) o e
 item:=by
  intro X hP hw hK hc i pins s σ H E I hf st hg
  subst hP hw hK
  obtain⟨xs,x,hq,hx⟩:=hg
  obtain⟨its,rv,p,hz⟩:=I.tuple hq
  obtain⟨u,hu,ru⟩:=rv.get hx
  obtain⟨f0,f1,f2,f3,f4,f5⟩:=hf it (by simp)
  refine wpAny_pyNext_tuple_item st (show s.heap.IsTuple a its.toArray from p) (x:=u) (by simpa using hu) fun h' st' sb=> ?_
  have I1:Inv X pins σ H {s with heap:=h'}:=I.turned (t':=s.toks) (fun b o hb e=>(sb.2 b hb).trans e) f0 f1 f3 f4 f5
  obtain⟨o,e,c,d⟩:=id st'
  exact⟨u,rfl,qUi (s:={s with heap:=h'}) e c d (by decide) ⟨x,H,I1,ru,⟨rfl,fun ys hy=>by rw[I.tuple_inj hy hq];exact hx⟩,st',fun b hb=>(hf b hb).1⟩⟩
 done:=by
  intro X hP hw hK hc i pins s σ H E I hf st hg
  subst hP hw hK
  obtain⟨xs,hq,hx⟩:=hg
  obtain⟨its,rv,p,hz⟩:=I.tuple hq
  obtain⟨f0,f1,f2,f3,f4,f5⟩:=hf it (by simp)
  have hl:=rv.length
  exact wpAny_pyNext_tuple_end (I.ok.hd hc) st (show s.heap.IsTuple a its.toArray from p) (by simp;omega) fun h' eb=>⟨rfl,I.turned (t':=s.toks) (fun b o hb e=>eb b o hb e) f0 f1 f3 f4 f5⟩
 self:=fun _ _ _ _ _ st h=>wpAny_pyIter_tupleiter st h
theorem kZz {P:Program} {w:World} {K:PySem.W.Frag} {tg:Expr} (it:Addr) (lo:Int) (n:Nat):Turn P w K tg (Itr lo n) [it] it (fun i h=>IsRangeIter h it (lo+(i:Nat)*1) ((n:Int)-(i:Nat)) 1) where
 mem:=by simp
 obj:=fun i h st b hb=>by
  have e:b=it:=by simpa using hb
  subst e
  exact⟨_,st,fun v z=>by
   have z':Data.fields _=Data.cell v:=z
   cases z'⟩
 keep:=fun i h h' st k=>k it (by simp) _ st
 item:=by
  intro X hP hw hK hc i pins s σ H E I hf st hg
  subst hP hw hK
  obtain⟨f0,f1,f2,f3,f4,f5⟩:=hf it (by simp)
  have W:=Walks.range (prog:=X.prog) (w:=X.w) (I.ok.hd hc) it lo 1 n
  refine W.item i s _ _ hg st fun v h' tk hv st' kk=> ?_
  obtain⟨t,rfl⟩:=hv
  have I1:Inv X pins σ H {s with heap:=h',toks:=tk}:=I.turned (fun b o hb e=>kk b o (by simpa using hb) e) f0 f1 f3 f4 f5
  refine⟨_,rfl,qUi (s:={s with heap:=h',toks:=tk}) (n:="range_iterator") st' rfl rfl (by decide) ⟨.int (lo+i),H,I1,⟨t,?_⟩,⟨rfl,rfl⟩,st',fun b hb=>(hf b hb).1⟩⟩
  rw[Int.mul_one]
 done:=by
  intro X hP hw hK hc i pins s σ H E I hf st hg
  subst hP hw hK
  obtain⟨f0,f1,f2,f3,f4,f5⟩:=hf it (by simp)
  exact wpAny_pyNext_range_end (I.ok.hd hc) st (by have:n<=i:=hg;omega) fun h' eb=>⟨rfl,I.turned (t':=s.toks) (fun b o hb e=>eb b o hb e) f0 f1 f3 f4 f5⟩
 self:=fun _ _ _ _ _ st h=>wpAny_pyIter_rangeiter st h
section
variable {X:Cx} {tg:Expr}
theorem kYv {pins:List (Addr×Obj)} {σ:St} {H:Hp} {s:Shared} {R:It->Hp->Prop} {E:Value->Shared->Prop} {lo hi:Int} {t u v:Tok} {tk:Nat} (I:Inv X pins σ H s) (h1: -(2^62)<=lo) (h2:lo<2^62) (h3: -(2^62)<=hi) (h4:hi<2^62)
  (q:R (Itr lo (hi-lo).toNat) H):wpAny (model X.prog X.w) X.A (pyIter (.ref s.heap.objs.size)) (PIE X pins σ tg R) E {s with heap:=s.heap.push {cls:= .type "range",data:= .fields #[.int lo t,.int hi u,.int 1 v]},toks:=tk}:=by
 refine wpAny_pyIter_range (IsRange.new ..) (small_one h1 h2 h3 h4) ?_
 have I1:Inv X pins σ H {s with heap:=s.heap.push {cls:= .type "range",data:= .fields #[.int lo t,.int hi u,.int 1 v]},toks:=tk}:=I.kept fun b o e=>lJm _ e
 refine⟨(s.heap.push {cls:= .type "range",data:= .fields #[.int lo t,.int hi u,.int 1 v]}).objs.size,[(s.heap.push {cls:= .type "range",data:= .fields #[.int lo t,.int hi u,.int 1 v]}).objs.size],_,_,H,rfl,
  I1.kept (t':=tk) fun b o e=>lJm _ e,kZz _ lo (hi-lo).toNat,?_,fun b hb=> ?_,q⟩
 ·have e1:lo+((0:Nat):Int)*1=lo:=by simp
  have e2:(((hi-lo).toNat:Nat):Int)-((0:Nat):Int)=Builtin.Range.rangeSize lo hi 1:=by rw[rangeSize_one];split<;>omega
  show IsRangeIter _ _ (lo+((0:Nat):Int)*1) ((((hi-lo).toNat:Nat):Int)-((0:Nat):Int)) 1
  rw[e1,e2]
  exact lJ3 _ rfl
 ·have e:b=(s.heap.push {cls:= .type "range",data:= .fields #[.int lo t,.int hi u,.int 1 v]}).objs.size:=by simpa using hb
  subst e
  exact I1.fpOk (lJh _) (I1.hok.fresh (lJh _))
def jV4 (fp:List Addr) (h:Heap):List (Addr×Obj):=fp.filterMap fun b=>(h.get? b).map fun o=>(b,o)
theorem jVv {fp:List Addr} {h:Heap} {b:Addr} {o:Obj} (hb:b∈fp) (e:h.get? b=some o):(b,o)∈jV4 fp h:=lVe.mpr ⟨b,hb,by rw[e];rfl⟩
theorem qQu {fp:List Addr} {h:Heap} {p:Addr×Obj} (hp:p∈jV4 fp h):p.1∈fp/\h.get? p.1=some p.2:=by
 obtain⟨b,hb,e⟩:=lVe.mp hp
 cases q:h.get? b with
 | none=>rw[q] at e;cases e
 | some o=>
  rw[q] at e
  have e':(b,o)=p:=lJ7 e
  subst e'
  exact⟨hb,q⟩
theorem Inv.pinned {pins:List (Addr×Obj)} {σ:St} {H:Hp} {s:Shared} {fp:List Addr} (I:Inv X pins σ H s) (hf:∀b∈fp,FpOk X pins H b) (ho:∀b∈fp,∃o,s.heap.get? b=some o/\∀v,o.data≠ .cell v):Inv X (pins++jV4 fp s.heap) σ H s:=
 I.pins_of fun p hp=>(lKh.mp hp).elim (fun z=>I.pin p (lKm _ z)) fun z=>by
  obtain⟨hb,e⟩:=qQu z
  obtain⟨f0,f1,f2,_⟩:=hf p.1 hb
  obtain⟨o,e',d⟩:=ho p.1 hb
  rw[e] at e';cases e'
  exact⟨e,f0,f1,f2,d⟩
theorem Inv.unpinned {pins pl:List (Addr×Obj)} {σ:St} {H:Hp} {s:Shared} (I:Inv X (pins++pl) σ H s):Inv X pins σ H s:=I.pins_of fun p hp=>I.pin p (lKm _ (lQp _ hp))
end
abbrev R2:=V->V->Hp->VK->Prop
def OpR (X:Cx) (f:Value->Value->Sem Value) (r:R2):Prop:=
 ∀(pins:List (Addr×Obj)) (s:Shared) (σ:St) (H:Hp) (x y:V) (v u:Value) (Q:VK),Inv X pins σ H s->RelV x v->RelV y u->r x y H Q->
  wpAny (model X.prog X.w) X.A (f v u) (EP X pins σ Q) X.xe s
def UnR (X:Cx) (f:Value->Sem Value) (r:V->Hp->VK->Prop):Prop:=
 ∀(pins:List (Addr×Obj)) (s:Shared) (σ:St) (H:Hp) (x:V) (v:Value) (Q:VK),Inv X pins σ H s->RelV x v->r x H Q->
  wpAny (model X.prog X.w) X.A (f v) (EP X pins σ Q) X.xe s
def kVw (X:Cx) (f:Value) (r:List V->Hp->VK->Prop):Prop:=
 ∀(pins:List (Addr×Obj)) (s:Shared) (σ:St) (H:Hp) (xs:List V) (us:List Value) (Q:VK),Inv X pins σ H s->Vals xs us->r xs H Q->
  wpAny (model X.prog X.w) X.A (call f us) (EP X pins σ Q) X.xe s
def TruR (X:Cx) (r:V->Hp->(Bool->Hp->Prop)->Prop):Prop:=
 ∀(pins:List (Addr×Obj)) (s:Shared) (σ:St) (H:Hp) (x:V) (v:Value) (Q:Bool->Hp->Prop),Inv X pins σ H s->RelV x v->r x H Q->
  wpAny (model X.prog X.w) X.A (truthy v) (TP X pins σ Q) X.xe s
def rI (C:Int->Int->Prop) (g:Int->Int->V):R2:=fun x y H Q=>∃i j,x= .int i/\y= .int j/\C i j/\Q (g i j) H
def rI0 (g:Int->Int->V):R2:=fun x y H Q=>∃i j,x= .int i/\y= .int j/\Q (g i j) H
def rU (g:Int->V):V->Hp->VK->Prop:=fun x H Q=>∃i,x= .int i/\Q (g i) H
section
variable {X:Cx} {a b c:Expr} {ta tb tc:TE} {pos:Pos}
theorem opI {f:Value->Value->Sem Value} {C:Int->Int->Prop} {g:Int->Int->Int}
  (rule:∀(i j:Int) (t u:Tok) (s:Shared) (Q:Value->Shared->Prop) (E:Value->Shared->Prop),C i j->Q (.int (g i j) s.toks) {s with toks:=s.toks+1}->wpAny (model X.prog X.w) X.A (f (.int i t) (.int j u)) Q E s):
  OpR X f (rI C fun i j=> .int (g i j)):=by
 intro pins s σ H x y v u Q I rx ry h
 obtain⟨i,j,rfl,rfl,hc,q⟩:=h
 obtain⟨t,rfl⟩:=rx
 obtain⟨t',rfl⟩:=ry
 exact rule i j t t' s _ _ hc ⟨.int (g i j),H,I.tok _,⟨_,rfl⟩,q⟩
theorem opI0 {f:Value->Value->Sem Value} {g:Int->Int->Int}
  (rule:∀(i j:Int) (t u:Tok) (s:Shared) (Q:Value->Shared->Prop) (E:Value->Shared->Prop),Q (.int (g i j) s.toks) {s with toks:=s.toks+1}->wpAny (model X.prog X.w) X.A (f (.int i t) (.int j u)) Q E s):
  OpR X f (rI0 fun i j=> .int (g i j)):=by
 intro pins s σ H x y v u Q I rx ry h
 obtain⟨i,j,rfl,rfl,q⟩:=h
 obtain⟨t,rfl⟩:=rx
 obtain⟨t',rfl⟩:=ry
 exact rule i j t t' s _ _ ⟨.int (g i j),H,I.tok _,⟨_,rfl⟩,q⟩
theorem opB0 {f:Value->Value->Sem Value} {g:Int->Int->Bool}
  (rule:∀(i j:Int) (t u:Tok) (s:Shared) (Q:Value->Shared->Prop) (E:Value->Shared->Prop),Q (.bool (g i j)) s->wpAny (model X.prog X.w) X.A (f (.int i t) (.int j u)) Q E s):
  OpR X f (rI0 fun i j=> .bl (g i j)):=by
 intro pins s σ H x y v u Q I rx ry h
 obtain⟨i,j,rfl,rfl,q⟩:=h
 obtain⟨t,rfl⟩:=rx
 obtain⟨t',rfl⟩:=ry
 exact rule i j t t' s _ _ ⟨.bl (g i j),H,I,rfl,q⟩
def CDiv (i j:Int):Prop:=0<j/\j<1073741824
def CPow (i j:Int):Prop:=0<=j/\j<=1000000/\i.natAbs<2^64
def CMul (i j:Int):Prop:=(-(2^64)<i/\i<2^64)\/(-(2^64)<j/\j<2^64)
theorem CMul.ok {i j:Int} (h:CMul i j):IntMulOk i j:=by
 rcases h with ⟨h1,h2⟩ | ⟨h1,h2⟩
 ·exact .of_left (intBits_le_64 h1 h2)
 ·exact .of_right (intBits_le_64 h1 h2)
theorem op_add:OpR X (binaryOp .Add) (rI0 fun i j=> .int (i+j)):=opI0 fun _ _ _ _ _ _ _ q=>add_int q
theorem op_sub:OpR X (binaryOp .Sub) (rI0 fun i j=> .int (i-j)):=opI0 fun _ _ _ _ _ _ _ q=>sub_int q
theorem op_mul:OpR X (binaryOp .Mult) (rI CMul fun i j=> .int (i*j)):=opI fun _ _ _ _ _ _ _ hc q=>mul_int q hc.ok
theorem uJx:OpR X (binaryOp .FloorDiv) (rI CDiv fun i j=> .int (i / j)):=opI fun i j _ _ _ _ _ hc q=>by
 have h1:(0:Int)<j:=hc.1
 have h2:j<1073741824:=hc.2
 exact floordiv_int (by omega) (by rw[Int.fdiv_eq_ediv_of_nonneg i (by omega)];exact q) (.inl (PyProof.noPylong_small (by omega)))
theorem op_mod:OpR X (binaryOp .Mod) (rI (fun _ j=>0<j) fun i j=> .int (i%j)):=opI fun i j _ _ _ _ _ hc q=>by
 have h1:(0:Int)<j:=hc
 exact mod_int' (by omega) (by rw[Int.fmod_eq_emod_of_nonneg i (by omega)];exact q)
theorem op_pow:OpR X (binaryOp .Pow) (rI CPow fun i j=> .int (i^j.toNat)):=opI fun _ _ _ _ _ _ _ hc q=>pow_int_small hc.1 hc.2.1 hc.2.2 q
theorem unI {f:Value->Sem Value} {g:Int->Int}
  (rule:∀(i:Int) (t:Tok) (s:Shared) (Q:Value->Shared->Prop) (E:Value->Shared->Prop),Q (.int (g i) s.toks) {s with toks:=s.toks+1}->wpAny (model X.prog X.w) X.A (f (.int i t)) Q E s):
  UnR X f (rU fun i=> .int (g i)):=by
 intro pins s σ H x v Q I rx h
 obtain⟨i,rfl,q⟩:=h
 obtain⟨t,rfl⟩:=rx
 exact rule i t s _ _ ⟨.int (g i),H,I.tok _,⟨_,rfl⟩,q⟩
theorem un_neg:UnR X (unaryOp .USub) (rU fun i=> .int (-i)):=unI fun _ _ _ _ _ q=>neg_int q
end
section
variable {X:Cx} {a b c:Expr} {ta tb tc:TE} {pos:Pos}
theorem qZ2 {pins:List (Addr×Obj)} {σ:St} {H:Hp} {s:Shared} {Q:VK} {k k':Bool} (I:Inv X pins σ H s) (q:Q (.bl k) H) (e:k=k'):EP X pins σ Q (.bool k') s:=by
 subst e
 exact⟨.bl k,H,I,rfl,q⟩
theorem op_lt:OpR X (compareOp .Lt) (rI0 fun i j=> .bl (decide (i<j))):=opB0 fun _ _ _ _ _ _ _ q=>lt_int q
theorem op_le:OpR X (compareOp .LtE) (rI0 fun i j=> .bl (decide (i<=j))):=opB0 fun _ _ _ _ _ _ _ q=>le_int q
theorem op_gt:OpR X (compareOp .Gt) (rI0 fun i j=> .bl (decide (j<i))):=opB0 fun _ _ _ _ _ _ _ q=>gt_int q
theorem op_ge:OpR X (compareOp .GtE) (rI0 fun i j=> .bl (decide (j<=i))):=opB0 fun _ _ _ _ _ _ _ q=>ge_int q
theorem op_isN:OpR X (compareOp .Is) (fun x y H Q=>y= .non/\Q (.bl (decide (x= .non))) H):=by
 intro pins s σ H x y v u Q I rx ry h
 obtain⟨rfl,q⟩:=h
 cases ry
 refine is_none_gen (qZ2 I q ?_)
 cases x<;>first
  | (cases rx;rfl)
  | (obtain⟨t,rfl⟩:=rx;rfl)
theorem uJw:OpR X (compareOp .IsNot) (fun x y H Q=>y= .non/\Q (.bl (!decide (x= .non))) H):=by
 intro pins s σ H x y v u Q I rx ry h
 obtain⟨rfl,q⟩:=h
 cases ry
 refine isnot_none_gen (qZ2 I q ?_)
 cases x<;>first
  | (cases rx;rfl)
  | (obtain⟨t,rfl⟩:=rx;rfl)
theorem nomark (b:Expr) {op:CmpOp} (h:op≠ .In:=by decide) (h2:op≠ .NotIn:=by decide):behindInMarks op b=false:=by
 have e1:(op == CmpOp.In)=false:=by cases op<;>first | rfl | exact absurd rfl h
 have e2:(op == CmpOp.NotIn)=false:=by cases op<;>first | rfl | exact absurd rfl h2
 cases b<;>simp[behindInMarks,e1,e2]
def TruV (K:PySem.W.Frag) (x:V) (H:Hp) (k:Bool):Prop:=
 match x with
 | .non=>k=false
 | .bl b=>k=b
 | .int i=>k=(i != 0)
 | .str y=>y.length<=sizeLine/\k=((y.length:Int) != 0)
 | .byt y=>y.size<=sizeLine/\k=((y.size:Int) != 0)
 | .ref p=>(∃xs,SqL K H p xs/\k= !xs.isEmpty)\/(∃xs,SqT K H p xs/\k= !xs.isEmpty)\/∃kvs,H p=some (.dK kvs)/\k= !kvs.isEmpty
 | _=>False
theorem qJt {κ:Type} {kvs:List (κ×V)} {vs:List (κ×Value)} (r:KV kvs vs):(!vs.isEmpty)= !kvs.isEmpty:=by
 cases r<;>rfl
theorem kKo {xs:List V} {its:List Value} (r:Vals xs its):(!its.toArray.isEmpty)= !xs.isEmpty:=by
 cases r<;>simp
theorem kJc:(sizeLine:Nat)<2^63:=by rw[lKe];decide
theorem tru_ok:TruR X (fun x H Q=>∃k,TruV X.K x H k/\Q k H):=by
 intro pins s σ H x v Q I rx h
 obtain⟨k,e,q⟩:=h
 have hl:=kJc
 have hs:sizeLine=16777216:=lKe
 cases x with
 | non=>
  cases rx
  have e':k=false:=e
  subst e'
  exact truthy_none ⟨H,I,q⟩
 | bl b=>
  cases rx
  have e':k=b:=e
  subst e'
  exact lV3 ⟨H,I,q⟩
 | int i=>
  obtain⟨t,rfl⟩:=rx
  have e':k=(i != 0):=e
  subst e'
  exact PySem.P.truthy_int ⟨H,I,q⟩
 | str y=>
  obtain⟨t,rfl⟩:=rx
  obtain⟨hy,e'⟩:y.length<=sizeLine/\k=((y.length:Int) != 0):=e
  subst e'
  exact PySem.P.truthy_str (by omega) ⟨H,I.tok _,q⟩
 | byt y=>
  obtain⟨t,rfl⟩:=rx
  obtain⟨hy,e'⟩:y.size<=sizeLine/\k=((y.size:Int) != 0):=e
  subst e'
  exact PySem.W.truthy_bytes (by omega) ⟨H,I.tok _,q⟩
 | ref p=>
  cases rx
  have e':(∃xs,SqL X.K H p xs/\k= !xs.isEmpty)\/(∃xs,SqT X.K H p xs/\k= !xs.isEmpty)\/∃kvs,H p=some (.dK kvs)/\k= !kvs.isEmpty:=e
  rcases e' with ⟨xs,hx,e'⟩ | ⟨xs,hx,e'⟩ | ⟨kvs,hx,e'⟩
  ·subst e'
   obtain⟨its,r,pl,hz⟩:=I.list hx
   have hlen:=r.length
   exact wpAny_truthy_list pl.isList (by simp only[lJv];omega) ⟨H,I.tok _,by rw[kKo r];exact q⟩
  ·subst e'
   obtain⟨its,r,pl,hz⟩:=I.tuple hx
   have hlen:=r.length
   exact truthy_tuple pl (by simp only[lJv];omega) ⟨H,I.tok _,by rw[kKo r];exact q⟩
  ·subst e'
   obtain⟨hz,hS,vs,r,m⟩:kvs.length<=sizeLine/\(p == sysModules)=false/\∃vs,KV kvs vs/\s.heap.DictOf (jQk X.prog X.w) p vs:=I.hok p _ hx
   have hlen:kvs.length=vs.length:=lVb r
   exact wpAny_truthy_dict hS m (by omega) ⟨H,I.tok _,by rw[qJt r];exact q⟩
 | _=>exact (show False from e).elim
theorem kZw {x:V} {us:List Value} (r:Vals [x] us):∃u,us=[u]/\RelV x u:=by
 cases r with
 | cons r1 r2=>cases r2;exact⟨_,rfl,r1⟩
theorem vals2 {x y:V} {us:List Value} (r:Vals [x,y] us):∃u w',us=[u,w']/\RelV x u/\RelV y w':=by
 cases r with
 | cons r1 r2=>
  cases r2 with
  | cons r3 r4=>cases r4;exact⟨_,_,rfl,r1,r3⟩
theorem qY4:kVw X (.builtin "abs") (fun xs H Q=>∃i,xs=[.int i]/\Q (.int (if i<0 then -i else i)) H):=by
 intro pins s σ H xs us Q I r h
 obtain⟨i,rfl,q⟩:=h
 obtain⟨u,rfl,t,rfl⟩:=kZw r
 exact call_abs_int fun u tk=>⟨.int (if i<0 then -i else i),H,I.tok _,⟨_,rfl⟩,q⟩
theorem qVc (hc:X.calm=true):kVw X (.builtin "max") (fun xs H Q=>∃i j,xs=[.int i,.int j]/\Q (.int (if j>i then j else i)) H):=by
 intro pins s σ H xs us Q I r h
 obtain⟨i,j,rfl,q⟩:=h
 obtain⟨u,w',rfl,⟨t,rfl⟩,⟨t',rfl⟩⟩:=vals2 r
 refine max_two_ints (I.ok.hd hc) fun h' tk k=>⟨_,H,I.kept k,?_,q⟩
 by_cases hj:j>i
 ·rw[lJc hj,lJc hj];exact⟨_,rfl⟩
 ·rw[lJb hj,lJb hj];exact⟨_,rfl⟩
theorem qVd:kVw X (.type "int") (fun xs H Q=>(∃i,xs=[.int i]/\Q (.int i) H)\/∃k,xs=[.bl k]/\Q (.int (if k then 1 else 0)) H):=by
 intro pins s σ H xs us Q I r h
 rcases h with ⟨i,rfl,q⟩ | ⟨k,rfl,q⟩
 ·obtain⟨u,rfl,t,rfl⟩:=kZw r
  exact call_int_int ⟨.int i,H,I,⟨_,rfl⟩,q⟩
 ·obtain⟨u,rfl,r1⟩:=kZw r
  cases r1
  exact call_int_bool ⟨.int (if k then 1 else 0),H,I.tok _,⟨_,rfl⟩,q⟩
theorem kX8:kVw X (.builtin "divmod") (fun xs H Q=>∃i j,xs=[.int i,.int j]/\CDiv i j/\∀p,H p=none->Q (.ref p) (upd H p (.tup [.int (i / j),.int (i%j)]))):=by
 intro pins s σ H xs us Q I r h
 obtain⟨i,j,rfl,⟨h1,h2⟩,q⟩:=h
 obtain⟨u,w',rfl,⟨t,rfl⟩,⟨t',rfl⟩⟩:=vals2 r
 refine divmod_int (by omega) ?_ (.inl (PyProof.noPylong_small (by omega)))
 rw[Int.fdiv_eq_ediv_of_nonneg i (by omega),Int.fmod_eq_emod_of_nonneg i (by omega)]
 have hn:H s.heap.objs.size=none:=I.hok.fresh (lJh _)
 refine⟨.ref s.heap.objs.size,_,?_,rfl,q _ hn⟩
 refine I.laid (fun b o e=>lJm _ e) (lJh _) ⟨by simp only[lJz,lK3];rw[lKe];decide,[.int (i / j) s.toks,.int (i%j) (s.toks+1)],.cons ⟨_,rfl⟩ (.cons ⟨_,rfl⟩ .nil),?_⟩
 exact⟨_,lJ3 s.heap rfl,rfl,0,rfl,rfl⟩
end
structure ObjM (h:Heap) (x dx C:Addr) (mA:Str->Option Value):Prop where
 obj:h.get? x=some (PySem.W.instObj C dx)
 ns:h.Ns1 dx mA
 ne:dx≠x
theorem qQ3 {h:Heap} {dx:Addr} {mA:Str->Option Value} (n:h.Ns1 dx mA):∃od,h.get? dx=some od/\∀name,PySem.W.lookIn name od=some (mA name):=by
 obtain⟨o,es,ep,ho,hd,hk,_,hm⟩:=n
 refine⟨o,ho,fun name=> ?_⟩
 have e:=hm name
 unfold nsFind findBy at e
 rw[<-Array.find?_toList] at e
 unfold PySem.W.lookIn
 rw[hd]
 dsimp only
 split
 ·rename_i y q
  rw[q] at e
  exact lJ5 some e
 ·rename_i q
  rw[q] at e
  have a:es.toList.any (·.refKey)=false:=by
   rw[List.any_eq_false]
   intro y hy
   obtain⟨z,t,hkey⟩:=hk y (Array.mem_toList_iff.mp hy)
   simp[DictEntry.refKey,hkey]
  have a':¬ es.toList.any (·.refKey)=true:=by rw[a];exact lJp
  rw[lJb a']
  exact lJ5 some e
theorem ObjM.look {h:Heap} {x dx C:Addr} {mA:Str->Option Value} (I:ObjM h x dx C mA):∃od,PySem.W.InstAt h x (PySem.W.instObj C dx) C (some od)/\∀name,PySem.W.lookIn name od=some (mA name):=
 let ⟨od,ho,hl⟩:=qQ3 I.ns
 ⟨od,⟨I.obj,rfl,rfl,ho⟩,hl⟩
section
variable {prog:Program} {w:World} {A:Around} {E:Value->Shared->Prop} {s:Shared} {K:PySem.W.Frag} {x dx C f:Addr} {mA:Str->Option Value} {name:Str} {v:Value}
theorem uKv {expr:Bool} {Q:Value->Shared->Prop} (X:K.In s.heap) (I:ObjM s.heap x dx C mA) (hg:PySem.W.plainGet K C name=true) (hh:PySem.W.hasDictIn K C=true)
  (ha:PySem.W.findIn K (.ref C) name=some none) (hv:mA name=some v) (hv':PySem.W.handedIn v=true) (h:Q v {s with toks:=s.toks+1}):
  wpAny (model prog w) A (getAttr (.ref x) name expr) Q E s:=by
 obtain⟨od,J,hl⟩:=I.look
 exact PySem.W.get_value X J (PySem.W.plainGet_of hg).1 (PySem.W.findObj_own hh ha rfl (by rw[hl,hv])) hv' h
theorem qYo {pl:Sem Bool} {Q:Value×List Value->Shared->Prop} (X:K.In s.heap) (I:ObjM s.heap x dx C mA) (hg:PySem.W.plainGet K C name=true)
  (hf:PySem.W.findIn K (.ref C) name=some (some (.ref f))) (ht:PySem.W.isFn K (.ref f)=true) (hv:mA name=none) (h:Q (.ref f,[.ref x]) s):
  wpAny (model prog w) A (getMethod (.ref x) name pl) Q E s:=by
 obtain⟨od,J,hl⟩:=I.look
 exact PySem.W.method_fn X J (PySem.W.plainGet_of hg).1 (PySem.W.plainGet_of hg).2 hf (beq_iff_eq.mp ht) (by show (PySem.W.lookIn name od).map (·.isSome)=some false;rw[hl,hv];rfl) h
theorem uJe {ns:List Str} {Q:Unit->Shared->Prop} (X:K.In s.heap) (I:ObjM s.heap x dx C mA)
  (hs:PySem.W.findIn K (.ref C) "__setattr__"=some (some (.builtin "object.__setattr__"))) (hp:PySem.W.plainOver K C=true) (ht:PySem.W.takerIn K C name=some none) (hh:PySem.W.hasDictIn K C=true)
  (hw:PySem.Within mA ns) (hsz:ns.length<=sizeLine)
  (h:∀h',ObjM h' x dx C (fun y=>if y=name then some v else mA y)->Heap.SameBut dx s.heap h'->Q () {s with heap:=h',toks:=s.toks+2}):
  wpAny (model prog w) A (setAttr (.ref x) name v) Q E s:=by
 obtain⟨od,J,hl⟩:=I.look
 refine PySem.W.set_plain X J hs (PySem.W.osa_open (s:={s with toks:=s.toks+1}) (r:=none) X J hp ht fun b=> ?_)
 obtain⟨cd,hc,hd'⟩:=PySem.W.any_some hh
 have hx:s.heap.get? x=some ⟨.ref C,some dx,.plain,#[]⟩:=I.obj
 refine lJa (lJd (lJa (lJa (wpAny_loadPart hx (lJa (PySem.W.Looks.here (s:={s with toks:=s.toks+1}) (PySem.W.looks_clsIn X hc) ?_))))))
 rw[hd']
 refine lJd (a:=some dx) (lJa (lJd (lJa ?_)))
 refine wpAny_nsSet1 (s:={s with toks:=s.toks+1}) I.ns fun h' hn2 hs2=> ?_
 obtain⟨oD,esD,epD,hoD,hdD,hcD⟩:=hn2.count (PySem.Within.cons name v hw)
 refine lJa (wpAny_lookBehind hoD (by rw[hdD];exact pastItsLine_dict (lJ8 hcD (by rw[lJz];omega))) ?_)
 exact lJd (h _ ⟨(hs2.2 _ (Ne.symm I.ne)).trans I.obj,hn2,I.ne⟩ hs2)
theorem qX4 {R:Result->Shared->Prop} {vs:List Value} {kw:List (Str×Value)} (X:K.In s.heap) (hm:PySem.W.makesIn K C=true)
  (hi:PySem.W.findIn K (.ref C) "__init__"=some (some (.ref f))) (hf:PySem.W.typeIn K (.ref f)=some (.type "function"))
  (h:codeAny (model prog w) (A.under (.builtin "type.__call__" ⟨.ref C::vs,kw⟩)) (.call (.ref f) ⟨.ref (s.heap.objs.size+1)::vs,kw⟩) (PySem.W.InitBack (s.heap.objs.size+1) R)
   {s with heap:=(s.heap.push PySem.W.emptyDict).push (PySem.W.instObj C s.heap.objs.size)}):
  codeAny (model prog w) A (.call (.ref C) ⟨vs,kw⟩) R s:=by
 obtain⟨hh,g,d,t,os⟩:=s
 exact PySem.W.make_core (PySem.W.makes_of X hm) (PySem.W.looks_findIn X hi) (fun self=>PySem.W.bind_fn X self hf) (.inl rfl) h
end
def putF (f:Str) (v:V):List (Str×V)->List (Str×V)
 | []=>[(f,v)]
 | (g,x)::r=>if g=f then (g,v)::r else (g,x)::putF f v r
theorem kJb (f g:Str) (v:V):∀fs:List (Str×V),(putF f v fs).lookup g=if g=f then some v else fs.lookup g
 | []=>by
  show List.lookup g [(f,v)]=_
  by_cases h:g=f
  ·have hb:(g == f)=true:=beq_iff_eq.mpr h
   simp only[List.lookup,hb,lJc h]
  ·have hb:(g == f)=false:=beq_eq_false_iff_ne.mpr h
   simp only[List.lookup,hb,lJb h]
 | (k,x)::r=>by
  have ih:=kJb f g v r
  rw[show putF f v ((k,x)::r)=(if k=f then (k,v)::r else (k,x)::putF f v r) from rfl]
  by_cases hk:k=f
  ·rw[lJc hk]
   by_cases h:g=k
   ·have hb:(g == k)=true:=beq_iff_eq.mpr h
    simp only[List.lookup,hb,lJc (h.trans hk)]
   ·have hb:(g == k)=false:=beq_eq_false_iff_ne.mpr h
    simp only[List.lookup,hb,lJb (fun e:g=f=>h (e.trans hk.symm))]
  ·rw[lJb hk]
   by_cases h:g=k
   ·have hb:(g == k)=true:=beq_iff_eq.mpr h
    simp only[List.lookup,hb,lJb (fun e:g=f=>hk (h.symm.trans e))]
   ·have hb:(g == k)=false:=beq_eq_false_iff_ne.mpr h
    simp only[List.lookup,hb]
    exact ih
theorem kJf (f:Str) (v:V):∀fs:List (Str×V),f∈(putF f v fs).map (·.1)/\∀g,g∈fs.map (·.1)->g∈(putF f v fs).map (·.1)
 | []=>⟨by simp[putF],fun g h=>by simp at h⟩
 | (k,x)::r=>by
  obtain⟨i1,i2⟩:=kJf f v r
  rw[show putF f v ((k,x)::r)=(if k=f then (k,v)::r else (k,x)::putF f v r) from rfl]
  by_cases hk:k=f
  ·rw[lJc hk]
   subst hk
   exact⟨by simp,fun g h=>by simpa using h⟩
  ·rw[lJb hk]
   refine⟨?_,fun g h=> ?_⟩
   ·rw[lJq]
    exact lJx _ i1
   ·rw[lJq] at h ⊢
    rcases (lJl.mp h) with e | e
    ·exact lJl.mpr (.inl e)
    ·exact lJx _ (i2 g e)
theorem kJe (f:Str) (v:V):∀fs:List (Str×V),(putF f v fs).length<=fs.length+1
 | []=>by simp[putF]
 | (k,x)::r=>by
  have ih:=kJe f v r
  rw[show putF f v ((k,x)::r)=(if k=f then (k,v)::r else (k,x)::putF f v r) from rfl]
  by_cases hk:k=f
  ·rw[lJc hk,lJz,lJz];omega
  ·rw[lJb hk,lJz,lJz];omega
theorem RelO.some_of {v:V} {o:Option Value} (r:RelO (some v) o):∃u,o=some u/\RelV v u:=by
 cases o with
 | none=>exact (show False from r).elim
 | some u=>exact⟨u,rfl,r⟩
theorem RelO.none_of {o:Option Value} (r:RelO none o):o=none:=by
 cases o with
 | none=>rfl
 | some u=>exact (show False from r).elim
theorem qUg {v:V} {u:Value} (r:RelV v u):PySem.W.handedIn u=true:=by
 cases v with
 | non=>cases (show u=Value.none from r);rfl
 | bl b=>cases (show u=Value.bool b from r);rfl
 | int i=>obtain⟨t,e⟩:=(show ∃t,u=Value.int i t from r);cases e;rfl
 | str x=>obtain⟨t,e⟩:=(show ∃t,u=Value.str x t from r);cases e;rfl
 | byt b=>obtain⟨t,e⟩:=(show ∃t,u=Value.bytes b t from r);cases e;rfl
 | flt b=>obtain⟨t,e⟩:=(show ∃t,u=Value.float b t from r);cases e;rfl
 | ref a=>cases (show u=Value.ref a from r);rfl
 | ty n=>cases (show u=Value.type n from r);rfl
section
variable {P:Program} {w:World} {H H':Hp} {h h':Heap} {a C dx:Addr} {fs fs':List (Str×V)}
theorem kXz (hok:HOk P w H h) (e:H a=some (.ins C dx fs)):∃mA,ObjM h a dx C mA/\(∀f,RelO (fs.lookup f) (mA f))/\PySem.Within mA (fs.map (·.1))/\fs.length<=1000/\H dx=some (.own a):=by
 obtain⟨d,z,ne,ob,mA,n,r,q⟩:=(show ObjOk P w H h a (.ins C dx fs) from hok a _ e)
 exact⟨mA,⟨ob,n,ne⟩,r,q,z,d⟩
end
structure Cls (K:PySem.W.Frag) (C:Addr):Prop where
 pg:PySem.W.plainGet K C Str.empty=true
 hd:PySem.W.hasDictIn K C=true
 po:PySem.W.plainOver K C=true
 sa:PySem.W.findIn K (.ref C) "__setattr__"=some (some (.builtin "object.__setattr__"))
theorem Cls.get {K:PySem.W.Frag} {C:Addr} (c:Cls K C) (f:Str):PySem.W.plainGet K C f=true:=c.pg
def NoAttr (K:PySem.W.Frag) (C:Addr) (f:Str):Prop:=PySem.W.findIn K (.ref C) f=some none
theorem NoAttr.taker {K:PySem.W.Frag} {C:Addr} {f:Str} (n:NoAttr K C f):PySem.W.takerIn K C f=some none:=by
 unfold PySem.W.takerIn
 rw[show PySem.W.findIn K (.ref C) f=some none from n]
 rfl
structure Meth (K:PySem.W.Frag) (C:Addr) (m:Str) (f:Addr):Prop where
 at_:PySem.W.findIn K (.ref C) m=some (some (.ref f))
 fn:PySem.W.isFn K (.ref f)=true
 kp:PySem.W.keepIn K (.ref f)=true
section
variable {X:Cx} {pins:List (Addr×Obj)} {σ:St} {H:Hp} {s:Shared} {a C dx:Addr} {fs:List (Str×V)} {f:Str} {v:V} {A:Around} {E:Value->Shared->Prop}
theorem qJw {b:Bool} {Q:Value->Shared->Prop} (I:Inv X pins σ H s) (e:H a=some (.ins C dx fs)) (c:Cls X.K C) (n:NoAttr X.K C f) (l:fs.lookup f=some v)
  (h:∀u s',Inv X pins σ H s'->RelV v u->Q u s'):wpAny (model X.prog X.w) A (getAttr (.ref a) f b) Q E s:=by
 obtain⟨mA,O,r,_,_,_⟩:=kXz I.hok e
 obtain⟨u,hu,ru⟩:=RelO.some_of (v:=v) (o:=mA f) (by rw[<-l];exact r f)
 exact uKv I.kIn O (c.get f) c.hd n hu (qUg ru) (h u _ (I.tok _) ru)
theorem kKs {m:Str} {g:Addr} {pl:Sem Bool} {Q:Value×List Value->Shared->Prop} (I:Inv X pins σ H s) (e:H a=some (.ins C dx fs)) (c:Cls X.K C) (k:Meth X.K C m g) (l:fs.lookup m=none)
  (h:Q (.ref g,[.ref a]) s):wpAny (model X.prog X.w) A (getMethod (.ref a) m pl) Q E s:=by
 obtain⟨mA,O,r,_,_,_⟩:=kXz I.hok e
 have hn:mA m=none:=RelO.none_of (by rw[<-l];exact r m)
 exact qYo I.kIn O (c.get m) k.at_ k.fn hn h
theorem kZ5 {y:V} {u:Value} {Q:Unit->Shared->Prop} (I:Inv X pins σ H s) (e:H a=some (.ins C dx fs)) (c:Cls X.K C) (n:NoAttr X.K C f) (hl:fs.length<1000) (ry:RelV y u)
  (h:∀s',Inv X pins σ (upd H a (.ins C dx (putF f y fs))) s'->Q () s'):wpAny (model X.prog X.w) A (setAttr (.ref a) f u) Q E s:=by
 obtain⟨mA,O,r,wi,_,ho⟩:=kXz I.hok e
 have hz:(fs.map (·.1)).length<=sizeLine:=by rw[lJf,lKe];omega
 refine uJe I.kIn O c.sa c.po n.taker c.hd wi hz fun h' O' sb=>h _ ?_
 have hd:∃o,h'.get? dx=some o:=let ⟨o,_,_,e',_⟩:=O'.ns;⟨o,e'⟩
 refine I.write (x:=a) (e:=dx) (by rw[e];exact True.intro) (.inr ho) (fun b q hb z=>(sb.2 b hb).trans z) hd ?_
 refine⟨by rw[jJ5 O.ne];exact ho,?_,O.ne,O'.obj,_,O'.ns,fun g=> ?_,fun g hg=> ?_⟩
 ·have:=kJe f y fs;omega
 ·show RelO ((putF f y fs).lookup g) (if g=f then some u else mA g)
  rw[kJb]
  by_cases q:g=f
  ·rw[lJc q,lJc q];exact ry
  ·rw[lJb q,lJb q];exact r g
 ·by_cases q:g=f
  ·rw[q];exact (kJf f y fs).1
  ·refine (kJf f y fs).2 g (wi g fun z=>hg ?_)
   show (if g=f then some u else mA g)=none
   rw[lJb q];exact z
theorem Inv.made (I:Inv X pins σ H s):Inv X pins σ (upd (upd H s.heap.objs.size (.own (s.heap.objs.size+1))) (s.heap.objs.size+1) (.ins C s.heap.objs.size []))
  {s with heap:=(s.heap.push PySem.W.emptyDict).push (PySem.W.instObj C s.heap.objs.size)}:=by
 have e1:(s.heap.push PySem.W.emptyDict).get? s.heap.objs.size=some PySem.W.emptyDict:=lJ3 s.heap rfl
 have e2:((s.heap.push PySem.W.emptyDict).push (PySem.W.instObj C s.heap.objs.size)).get? (s.heap.objs.size+1)=some (PySem.W.instObj C s.heap.objs.size):=by
  have:=lJ3 (s.heap.push PySem.W.emptyDict) (o:=PySem.W.instObj C s.heap.objs.size) rfl
  rwa [lVm] at this
 have e3:(s.heap.push PySem.W.emptyDict).Ns s.heap.objs.size (fun _=>none):=⟨PySem.W.emptyDict,#[],_,e1,rfl,(fun e he=>absurd he (by simp)),fun _=>rfl⟩
 have I1:=I.laid (a:=s.heap.objs.size) (o:= .own (s.heap.objs.size+1)) (h':=s.heap.push PySem.W.emptyDict) (t':=s.toks) (fun b u q=>lJm _ q) (lJh _) ⟨_,e1⟩
 refine I1.laid (a:=s.heap.objs.size+1) (o:= .ins C s.heap.objs.size []) (t':=s.toks) (fun b u q=>lJm _ q) (lVn (lVm _ _)) ?_
 have ne:s.heap.objs.size≠s.heap.objs.size+1:=lJw (Nat.lt_succ_self _)
 refine⟨by rw[jJ5 ne,jKt],lJs _,ne,e2,fun _=>none,(Heap.Ns1.of_empty e3).at fun o q=>lJm _ q,fun _=>True.intro,fun y hy=>absurd rfl hy⟩
theorem uQb {prog:Program} {w:World} {env:Env} {e:Expr} {f:Str} {pos:Pos} {s:Shared} {Q:Value->Shared->Prop} (hb:attributeBase e f env (eval e env)=eval e env)
  (h:wpAny (model prog w) A (eval e env) (fun o s₁=>wpAny (model prog w) A (getAttr o f true) Q E s₁) E s):wpAny (model prog w) A (eval (.Attribute e f pos) env) Q E s:=
 Attribute_any_ h (by rw[arm_eval_Attribute,hb])
end
section
variable {X:Cx} {o e value:Expr} {f:Str} {pos pos' tpos:Pos} {ta tv:TE}
end
section
variable {X:Cx} {pins:List (Addr×Obj)} {σ:St} {H:Hp} {s:Shared} {A:Around} {E:Value->Shared->Prop} {Q:Value->Shared->Prop} {c:Value} {b:Bool}
end
structure Room (k:Nat) (A:Around):Prop where
 hd:A.handled=none
 gd:A.guards=some []
 dp:A.depth+3*k+5<recursionLimit
 un:A.units+16*k+200<cLine
theorem Room.mono {j k:Nat} {A:Around} (r:Room k A) (h:j<=k):Room j A:=⟨r.hd,r.gd,by have:=r.dp;omega,by have:=r.un;omega⟩
theorem Room.deeper {k:Nat} {A:Around} (r:Room (k+1) A) (env:Env):Room k (A.deeper env):=
 ⟨r.hd,r.gd,by have:=r.dp;show A.depth+1+3*k+5<_;omega,by have:=r.un;show A.units+3+16*k+200<_;omega⟩
theorem qJn {A:Around} {C:Addr} {us:List Value} {kw:List (Str×Value)}:(A.under (.builtin "type.__call__" ⟨.ref C::us,kw⟩)).depth=A.depth+1:=by
 first | rfl | simp[Around.under,Code.weight,Code.isCreation,Code.isGuard,Code.isCaller,Code.frames,Code.isFrame,guardIds]
theorem qJm {A:Around} {C:Addr} {us:List Value} {kw:List (Str×Value)}:(A.under (.builtin "type.__call__" ⟨.ref C::us,kw⟩)).units=A.units+1:=by
 first | rfl | simp[Around.under,Code.cUnits,Code.frames,Code.isFrame]
theorem Room.make {k:Nat} {A:Around} (r:Room (k+1) A) (C:Addr) (us:List Value) (kw:List (Str×Value)):Room k (A.under (.builtin "type.__call__" ⟨.ref C::us,kw⟩)):=
 ⟨r.hd,r.gd,by have:=r.dp;rw[qJn];omega,by have:=r.un;rw[qJm];omega⟩
theorem Room.depth {k:Nat} {A:Around} (r:Room k A):A.depth<recursionLimit:=by have:=r.dp;omega
theorem Room.units {k:Nat} {A:Around} (r:Room k A):A.units+64<cLine:=by have:=r.un;omega
section
variable {X:Cx} {e:Expr} {es:List Expr} {te:TE} {t:TA} {pos:Pos}
end
abbrev Sp:=List V->Hp->VK->XK->Prop
abbrev CXT:=List Env->Hp->Shared->XK->Value->Shared->Prop
structure Env0 (P:Program) (w:World) (K:PySem.W.Frag) (mg:Str->Option Value) (base:Heap) (A:Around) (outer:List Env) (s:Shared) (H:Hp):Prop where
 frames:A.frames=some outer
 mod:Mod K mg base
 bs:∀b o,base.get? b=some o->s.heap.get? b=some o/\H b=none
 bsz:base.objs.size<=s.heap.objs.size
 funs:s.heap.FunFrames base outer
 frf:∀b∈frs outer,H b=none
 hok:HOk P w H s.heap
 bare:AllBare s.gens
def CE (outer:List Env) (P:Program) (w:World) (H:Hp) (s:Shared) (Q:VK) (u:Value) (s':Shared):Prop:=
 ∃v H',s'.os=s.os/\AllBare s'.gens/\Un (frs outer) [] H H' s.heap s'.heap/\HOk P w H' s'.heap/\RelV v u/\Q v H'
def CR (CX:CXT) (outer:List Env) (P:Program) (w:World) (H:Hp) (s:Shared) (Q:VK) (E:XK) (r:Result) (s':Shared):Prop:=
 match r with
 | .ok (.ret u)=>CE outer P w H s Q u s'
 | .ok _=>False
 | .error e=>CX outer H s E e s'
structure FnOk (P:Program) (w:World) (K:PySem.W.Frag) (mg:Str->Option Value) (base:Heap) (CX:CXT) (k:Nat) (f:Addr) (fd:FuncData) (ps:List Str) (sp:Sp):Prop where
 len:∀vs H Q E,sp vs H Q E->vs.length=ps.length
 run:∀(A:Around) (outer:List Env) (s:Shared) (H:Hp) (args:Args) (us:List Value) (vs:List V) (Q:VK) (E:XK),Room k A->Env0 P w K mg base A outer s H->BindsTo s fd args (ps.zip us)->Vals vs us->sp vs H Q E->
  codeAny (model P w) A (.call (.ref f) args) (CR CX outer P w H s Q E) s
theorem Env0.make {P:Program} {w:World} {K:PySem.W.Frag} {mg:Str->Option Value} {base:Heap} {A:Around} {outer:List Env} {s:Shared} {H:Hp} (e:Env0 P w K mg base A outer s H) (C:Addr) (us:List Value) (kw:List (Str×Value)):
  Env0 P w K mg base (A.under (.builtin "type.__call__" ⟨.ref C::us,kw⟩)) outer s H:=⟨by first | exact e.frames | (simpa[Around.under,Code.envs,Code.isFrame,pushEnvs] using e.frames),e.mod,e.bs,e.bsz,e.funs,e.frf,e.hok,e.bare⟩
section
variable {X:Cx} {pins:List (Addr×Obj)} {σ:St} {H:Hp} {s s':Shared}
theorem Inv.env0 (I:Inv X pins σ H s):Env0 X.prog X.w X.K X.mg X.base X.A X.stack s H:=
 ⟨I.ok.frames,I.ok.mod,I.bs,lJ8 I.ok.bsz I.sz,I.stack,I.stkFree,I.hok,I.bare⟩
theorem Inv.after {Q:VK} {u:Value} (I:Inv X pins σ H s) (h:CE X.stack X.prog X.w H s Q u s'):EP X pins σ Q u s':=by
 obtain⟨v,H',os,bare,un,hok,r,q⟩:=h
 obtain⟨hh,g,d,t,os'⟩:=s'
 obtain rfl:os'=s.os:=os
 exact⟨v,H',I.call (h':=hh) (g':=g) (d':=d) (t':=t) (ch:=[]) un hok bare (fun b z=>absurd z (by simp)),r,q⟩
end
def Binds (K:PySem.W.Frag) (fd:FuncData) (ps:List Str) (ds:List Value):Prop:=
 ∀(s:Shared) (us:List Value),K.In s.heap->(us++ds).length=ps.length->BindsTo s fd ⟨us,[]⟩ (ps.zip (us++ds))
theorem Binds.all {K:PySem.W.Frag} {fd:FuncData} {ps:List Str} (h:∀us:List Value,us.length=ps.length->bindArgs fd ⟨us,[]⟩=pure (ps.zip us)):Binds K fd ps []:=fun s us _ hl=>by
 rw[lQn] at hl ⊢
 exact .of_eq (h us hl)
def qVq (CX:CXT) (X:Cx) (E:XK):Prop:=∀(pins:List (Addr×Obj)) (σ:St) (H:Hp) (s:Shared) (e:Value) (s':Shared),Inv X pins σ H s->CX X.stack H s E e s'->X.xe e s'
section
variable {X:Cx} {CX:CXT} {k:Nat} {f C:Addr} {fd:FuncData} {ps:List Str} {sp:Sp} {dvs:List V} {ds:List Value} {E:XK} {x m:Str} {p pos apos:Pos} {e o:Expr} {es:List Expr} {ta:TE} {t:TA}
theorem qKv {pins:List (Addr×Obj)} {σ:St} {H:Hp} {s:Shared} {Q:VK} {us:List Value} {vs:List V} (F:FnOk X.prog X.w X.K X.mg X.base CX k f fd ps sp) (hr:Room k X.A) (hb:Binds X.K fd ps ds) (hd:Vals dvs ds) (hx:qVq CX X E)
  (I:Inv X pins σ H s) (r:Vals vs us) (h:sp (vs++dvs) H Q E):wpAny (model X.prog X.w) X.A (call (.ref f) us) (EP X pins σ Q) X.xe s:=by
 have r2:Vals (vs++dvs) (us++ds):=r.append hd
 have hl:(us++ds).length=ps.length:=by rw[<-r2.length];exact F.len _ _ _ _ h
 refine wpAny_call (lV4 (F.run X.A X.stack s H ⟨us,[]⟩ (us++ds) (vs++dvs) Q E hr I.env0 (hb s us I.kIn hl) r2 h) fun r s' hq=> ?_)
 cases r with
 | error e=>exact hx pins σ H s e s' I hq
 | ok fl=>
  cases fl with
  | ret u=>exact I.after hq
  | next=>exact False.elim hq
  | brk=>exact False.elim hq
  | cont=>exact False.elim hq
structure Mk (K:PySem.W.Frag) (C f:Addr):Prop where
 makes:PySem.W.makesIn K C=true
 init:PySem.W.findIn K (.ref C) "__init__"=some (some (.ref f))
 fn:PySem.W.isFn K (.ref f)=true
 kp:PySem.W.keepIn K (.ref C)=true
theorem qV8 {pins:List (Addr×Obj)} {σ:St} {H:Hp} {s:Shared} {Q:VK} {us:List Value} {vs:List V} (M:Mk X.K C f) (F:FnOk X.prog X.w X.K X.mg X.base CX k f fd ps sp) (hr:Room (k+1) X.A) (hb:Binds X.K fd ps ds) (hd:Vals dvs ds)
  (hx:qVq CX X E) (I:Inv X pins σ H s) (r:Vals vs us)
  (h:∀x dx,H x=none->H dx=none->dx≠x->sp (.ref x::(vs++dvs)) (upd (upd H dx (.own x)) x (.ins C dx [])) (fun v H2=>v= .non/\Q (.ref x) H2) E):
  wpAny (model X.prog X.w) X.A (call (.ref C) us) (EP X pins σ Q) X.xe s:=by
 have hq:=h (s.heap.objs.size+1) s.heap.objs.size (I.hok.fresh (Nat.le_succ _)) (I.hok.fresh (lJh _)) (lJw (Nat.lt_succ_self _))
 have I2:=Inv.made (C:=C) I
 have r2:Vals (V.ref (s.heap.objs.size+1)::(vs++dvs)) (Value.ref (s.heap.objs.size+1)::(us++ds)):= .cons rfl (r.append hd)
 have hl:(Value.ref (s.heap.objs.size+1)::us++ds).length=ps.length:=by
  have e:=r2.length
  rw[F.len _ _ _ _ hq] at e
  exact e.symm
 refine wpAny_call (qX4 (f:=f) I.kIn M.makes M.init (beq_iff_eq.mp M.fn) (lV4 (F.run _ X.stack _ _ ⟨Value.ref (s.heap.objs.size+1)::us,[]⟩ (Value.ref (s.heap.objs.size+1)::(us++ds)) _ _ E (hr.make C us [])
  (I2.env0.make C us []) (hb _ (Value.ref (s.heap.objs.size+1)::us) I2.kIn hl) r2 hq) fun r s' hq'=> ?_))
 cases r with
 | error e=>exact hx pins σ _ _ e s' I2 hq'
 | ok fl=>
  cases fl with
  | ret u=>
   obtain⟨v,H',I3,rv,ev,q3⟩:=I2.after hq'
   subst ev
   exact⟨rv,⟨V.ref (s.heap.objs.size+1),H',I3,rfl,q3⟩⟩
  | next=>exact False.elim hq'
  | brk=>exact False.elim hq'
  | cont=>exact False.elim hq'
end
section
variable {X:Cx} {CX:CXT} {k:Nat} {f C:Addr} {fd:FuncData} {ps ks:List Str} {sp:Sp} {E:XK} {x m:Str} {p pos apos kpos:Pos} {e o:Expr} {es:List Expr} {kws:List Keyword} {te ta:TE} {t tk:TA} {nm:Option Str}
variable {g:List Value->List Value->List Value} {gV:List V->List V->List V}
end
structure FnScope (N P:List Str) (sc:Scope):Prop where
 kind:sc.kind= .function
 co:sc.isCoroutine=false
 gen:sc.isGenerator=false
 nd:N.Nodup
 pre:N.take P.length=P
 par:∀x∈P,sc.names.lookup x=some .local\/sc.names.lookup x=some .cell
 nofree:∀y∈sc.names,y.2≠ .free
theorem kVo {kindOf:Str->Option NameKind} {x:Str}:∀ {binds:List (Str×Value)} {m:Str->Option Value},(∀v,(x,v)∉binds)->bindL kindOf binds m x=m x
 | [],_,_=>rfl
 | (n,v)::r,m,h=>by
  unfold bindL
  rw[kVo fun w hw=>h w (lJx _ hw)]
  split
  ·have:x≠n:=by rintro rfl;exact h v lJu
   simp[this]
  ·rfl
theorem kVq {kindOf:Str->Option NameKind} {x:Str}:∀ {binds:List (Str×Value)} {m:Str->Option Value},(∀v,(x,v)∉binds)->bindC kindOf binds m x=m x
 | [],_,_=>rfl
 | (n,v)::r,m,h=>by
  unfold bindC
  rw[kVq fun w hw=>h w (lJx _ hw)]
  split
  ·rfl
  ·have:x≠n:=by rintro rfl;exact h v lJu
   simp[this]
theorem kVp {kindOf:Str->Option NameKind} {x:Str} {v:Value}:∀ {P:List Str} {vs:List Value} {i:Nat} {m:Str->Option Value},P.Nodup->P[i]? =some x->vs[i]? =some v->kindOf x=some .local->
  bindL kindOf (P.zip vs) m x=some v
 | [],_,_,_,_,h,_,_=>by simp at h
 | _::_,[],_,_,_,_,h,_=>by simp at h
 | p::P,w::vs,0,m,nd,h1,h2,hk=>by
  simp at h1 h2;subst h1;subst h2
  show bindL kindOf ((p,w)::P.zip vs) m p=_
  unfold bindL
  rw[kVo fun v hv=>(lKz.mp nd).1 (List.of_mem_zip hv).1,lJc hk]
  simp
 | p::P,w::vs,i+1,m,nd,h1,h2,hk=>by
  show bindL kindOf ((p,w)::P.zip vs) m x=_
  unfold bindL
  exact kVp (i:=i) (lKz.mp nd).2 (by simpa using h1) (by simpa using h2) hk
theorem kVr {kindOf:Str->Option NameKind} {x:Str} {v:Value}:∀ {P:List Str} {vs:List Value} {i:Nat} {m:Str->Option Value},P.Nodup->P[i]? =some x->vs[i]? =some v->kindOf x≠some .local->
  bindC kindOf (P.zip vs) m x=some v
 | [],_,_,_,_,h,_,_=>by simp at h
 | _::_,[],_,_,_,_,h,_=>by simp at h
 | p::P,w::vs,0,m,nd,h1,h2,hk=>by
  simp at h1 h2;subst h1;subst h2
  show bindC kindOf ((p,w)::P.zip vs) m p=_
  unfold bindC
  rw[kVq fun v hv=>(lKz.mp nd).1 (List.of_mem_zip hv).1,lJb hk]
  simp
 | p::P,w::vs,i+1,m,nd,h1,h2,hk=>by
  show bindC kindOf ((p,w)::P.zip vs) m x=_
  unfold bindC
  exact kVr (i:=i) (lKz.mp nd).2 (by simpa using h1) (by simpa using h2) hk
def start (N:List Str) (vs:List V):St:=vs.map some++List.replicate (N.length-vs.length) none
noncomputable def cxOf (CX:CXT) (P:Program) (w:World) (K:PySem.W.Frag) (mg:Str->Option Value) (base:Heap) (N:List Str) (qual:Str) (scope:Scope) (f:Addr) (cd:Value) (A:Around) (outer:List Env) (s:Shared) (H:Hp) (E:XK):Cx where
 prog:=P
 w:=w
 K:=K
 mg:=mg
 base:=base
 A:=A.deeper (envOfC qual scope s.heap.objs.size f cd)
 N:=N
 s₀:=s
 H₀:=H
 env:=envOfC qual scope s.heap.objs.size f cd
 outer:=outer
 stack:=envOfC qual scope s.heap.objs.size f cd::outer
 ex:=[]
 calm:=true
 fn:=fun _=>true
 pn:=[]
 xe:=fun e s'=>wpAny (model P w) (A.deeper (envOfC qual scope s.heap.objs.size f cd)) (leaving (envOfC qual scope s.heap.objs.size f cd) e) (fun _ s''=>CX outer H s E e s'') (fun e' s''=>CX outer H s E e' s'') s'
theorem kZo {sc:Scope} {n:Nat} {x:Str} (h:sc.names.lookup x=some .cell):∃c,(cellsFrom n sc.names []).lookup x=some c:=by
 have q:=PySem.W.cellsFrom_some sc.names n [] (.inl h)
 exact lXm.mp q
theorem qUa {CX:CXT} {P:Program} {w:World} {K:PySem.W.Frag} {mg:Str->Option Value} {base:Heap} {N ps:List Str} {qual:Str} {scope:Scope} {f:Addr} {cd:Value} {A:Around} {outer:List Env} {s s1:Shared} {H:Hp} {E:XK} {us:List Value} {vs:List V}
  (S:FnScope N ps scope) (hd:A.handled=none/\A.guards=some []) (e0:Env0 P w K mg base A outer s H) (hl:vs.length=ps.length) (r:Vals vs us)
  (x:InCallC s s.heap.objs.size (bindL (envOfC qual scope s.heap.objs.size f cd).kindOf (ps.zip us) fun _=>none) (cellsFrom (s.heap.objs.size+1) scope.names []) (bindC (envOfC qual scope s.heap.objs.size f cd).kindOf (ps.zip us) fun _=>none) s1):
  Inv (cxOf CX P w K mg base N qual scope f cd A outer s H E) [] (start N vs) H s1:=by
 have hpl:ps.length<=N.length:=by have:=lJ5 List.length S.pre;rw[lQd] at this;omega
 obtain⟨h1,tk,rfl,hk⟩:=x.done
 have noA:∀b:Addr,b∉(cxOf CX P w K mg base N qual scope f cd A outer s H E).ex:=fun b z=>absurd (show b∈([]:List Addr) from z) (by simp)
 refine⟨⟨e0.mod,S.kind,rfl,rfl,lJh _,fun y z c h1 h2=> ?_,fun y hy=> ?_,fun y c _ h=> ?_,fun _=>hd.1,fun _=>hd.2,Around.frames_deeper e0.frames,.inr ⟨rfl,rfl⟩,fun b z=>absurd z (noA b),e0.bs,e0.bsz,fun b _ _=>noA b,fun b z=>absurd z (noA b),e0.funs,e0.frf⟩,
  rfl,e0.bare,Un.kept hk,⟨_,x.toInCall.ns,fun i y v h1 h2 h3=> ?_⟩,fun y c h=>⟨_,x.cell y c h⟩,e0.hok.fresh (lJh _),fun y c h=> ?_,fun p hp=>absurd (show p∈([]:List (Addr×Obj)) from hp) (by simp),e0.hok.kept hk,?_⟩
 ·exact name_of_addr x.apart (lVo h1) (lVo h2)
 ·have hy:scope.names.lookup y=some .cell\/scope.names.lookup y=some .free:=hy
  rcases hy with hy | hy
  ·exact kZo hy
  ·exact absurd rfl (S.nofree _ (lVo hy))
 ·exact lVc (x.above y c (lVo h))
 ·have hi:i<vs.length:=by
   unfold start at h2
   by_cases hi:i<vs.length
   ·exact hi
   ·rw[lVf (by simpa using hi)] at h2
    rw[lXn] at h2
    split at h2<;>cases h2
  have ha:vs[i]? =some v:=by
   unfold start at h2
   rw[lKr (by simpa using hi),lJn] at h2
   cases e:vs[i]? with
   | none=>rw[e] at h2;cases h2
   | some a=>rw[e] at h2;cases h2;rfl
  obtain⟨u,hu,rv⟩:=r.get ha
  have hp:ps[i]? =some y:=by
   rw[<-S.pre,List.getElem?_take_of_lt (by omega)];exact h1
  have ndP:ps.Nodup:=by rw[<-S.pre];exact S.nd.sublist (List.take_sublist _ _)
  refine⟨u,rv,?_⟩
  rcases S.par y (lJi hp) with k | k
  ·exact .inl ⟨k,kVp ndP hp hu k⟩
  ·obtain⟨c,e⟩:=kZo (n:=s.heap.objs.size+1) k
   refine .inr ⟨.inl k,c,e,?_⟩
   have q:=x.cell y c e
   rw[kVr ndP hp hu (by show scope.names.lookup y≠_;rw[k];decide)] at q
   exact q
 ·exact e0.hok.fresh (lVc (x.above y c (lVo h)))
 ·unfold start
  show _=N.length
  rw[lKf,lJf,List.length_replicate]
  omega
theorem fn_of {CX:CXT} {P:Program} {w:World} {K:PySem.W.Frag} {mg:Str->Option Value} {base:Heap} {k:Nat} {f:Addr} {name qual:Str} {params:Arguments} {body:List Stmt} {scope:Scope} {dV kV doc pm cdv ct oc:Value} {an od:Option Addr}
  {osl:Array (Option Value)} {N ps:List Str} {sp:Sp} (lk:K.lookup f=some ⟨oc,od,.func (PySem.W.fnOf name qual params body scope dV kV doc pm an cdv ct),osl⟩) (hcd:PySem.W.codeIn K cdv qual=true) (S:FnScope N ps scope)
  (len:∀vs H Q E,sp vs H Q E->vs.length=ps.length)
  (hbody:∀(A:Around) (outer:List Env) (s:Shared) (H:Hp) (vs:List V) (Q:VK) (E:XK),Room k (A.deeper (envOfC qual scope s.heap.objs.size f cdv))->sp vs H Q E->
   ∃t,PSs (cxOf CX P w K mg base N qual scope f cdv A outer s H E) body t/\t {nx:=fun _ H'=>Q .non H',rt:=Q} (start N vs) H):
  FnOk P w K mg base CX (k+1) f (PySem.W.fnOf name qual params body scope dV kV doc pm an cdv ct) ps sp:=by
 refine⟨len,fun A outer s H args us vs Q E hr e0 hb r hsp=> ?_⟩
 have hl:=len _ _ _ _ hsp
 have KX:K.In s.heap:=e0.mod.kin.keeps fun b o e=>(e0.bs b o e).1
 have lim:s.heap.NoLimit:=e0.mod.nolimit.keeps fun b o e=>(e0.bs b o e).1
 have hkind:∀y∈ps.zip us,scope.names.lookup y.1=some .local\/(scope.names.lookup y.1=some .cell/\((cellsFrom (s.heap.objs.size+1) scope.names []).lookup y.1).isSome=true):=fun ⟨n,v⟩ hy=>by
  rcases S.par n (List.of_mem_zip hy).1 with q | q
  ·exact .inl q
  ·exact .inr ⟨q,PySem.W.cellsFrom_some _ _ _ (.inl q)⟩
 refine codeAny_call_function hr.depth (KX _ _ lk) rfl S.co S.gen rfl (PySem.W.codeRec_of KX hcd) (hb _ _ _ _ ?_)
 refine wpAny_newFunctionEnv_cells S.kind hkind fun env he s1 x=> ?_
 subst he
 refine⟨lim.keeps x.toInCall.keep,codeAny_func ?_⟩
 obtain⟨t,ht,hq⟩:=hbody A outer s H vs Q E (hr.deeper _) hsp
 have I:Inv (cxOf CX P w K mg base N qual scope f cdv A outer s H E) [] (start N vs) H s1:=qUa S ⟨hr.hd,hr.gd⟩ e0 hl r x
 refine lQb (ht [] s1 (start N vs) H _ I hq) (fun fl s' hs=> ?_) fun e s' hs=>hs
 have fin:∀ {σ':St} {H':Hp} {v:V} {u:Value},Inv (cxOf CX P w K mg base N qual scope f cdv A outer s H E) [] σ' H' s'->RelV v u->Q v H'->CE outer P w H s Q u s':=
  fun {σ' H' v u} J rv q=>⟨v,H',J.os,J.bare,J.base,J.hok,rv,q⟩
 cases fl with
 | ret u=>
  obtain⟨v,σ',H',J,rv,q⟩:=hs
  exact fin J rv q
 | next=>
  obtain⟨σ',H',J,q⟩:=hs
  exact fin (v:=V.non) (u:=Value.none) J rfl q
 | brk=>
  obtain⟨_,_,_,q⟩:=hs
  exact False.elim q
 | cont=>
  obtain⟨_,_,_,q⟩:=hs
  exact False.elim q
section
variable {X:Cx} {x:Str} {p pos:Pos} {e:Expr} {es:List Expr} {t:TA} {id T:String} {r:List V->Hp->VK->Prop}
end
end L2
namespace HT
open PySem PyProof.Rows
theorem qYu (A:Around) (s:Shared) (a:Int) (t:Tok) (c:Int) (u:Tok):∃e,SeqAt.EqAt A s (.int a t) (.int c u) e/\(e=true↔a=c):=
 ⟨(a == c),SeqAt.EqAt.int_int a t c u,by simp⟩
section
open PySem.SeqAt
open PySem.AutoSeq1 (wpAny_loadPart')
open PySem.MeetsSeq PySem.MeetsSeq2 PySem.MeetsSeq3
end
section
variable {prog:Program} {w:World} {A:Around} {E:Value->Shared->Prop} {s:Shared}
theorem cat_tup {t b:Addr} {vs ws:List Value} {Q:Value->Shared->Prop} (ht:IsTup s.heap t vs.toArray) (hb:IsTup s.heap b ws.toArray) (hv:vs≠[])
  (h1:ws=[]->Q (.ref t) s) (h2:ws≠[]->Q (.ref s.heap.objs.size) {s with heap:=s.heap.push {cls:= .type "tuple",data:= .seq (vs++ws).toArray} })
  (hsz:vs.length+ws.length<=sizeLine):wpAny (model prog w) A (binaryOp .Add (.ref t) (.ref b)) Q E s:=by
 obtain⟨⟨cls,dd,data,sl⟩,ho,hc,n,hd⟩:=id ht
 obtain⟨⟨cls2,dd2,data2,sl2⟩,ho2,hc2,n2,hd2⟩:=id hb
 simp only at hc hd hc2 hd2
 subst hc hd hc2 hd2
 have e:vs.toArray++ws.toArray=(vs++ws).toArray:=by simp
 by_cases hw:ws=[]
 ·exact concat_meets ⟨_,ho,rfl⟩ ⟨_,ho2,rfl⟩ noFill_tuple_add seq_tuple_add PySem.F.slot_tuple_add PySem.F.entry_tuple_add (lXz _ _)
   (tuple_addW1 t b vs.toArray ws.toArray n n2 dd dd2 sl sl2 (by simpa using hv) (by simp[hw])) ⟨ho,ho2,h1 hw⟩
 ·refine concat_meets ⟨_,ho,rfl⟩ ⟨_,ho2,rfl⟩ noFill_tuple_add seq_tuple_add PySem.F.slot_tuple_add PySem.F.entry_tuple_add (lXz _ _)
   (tuple_addW2 t b vs.toArray ws.toArray n n2 dd dd2 sl sl2 (by simpa using hv) (by simpa using hw) (by rw[lJv,lJv];exact hsz)) ⟨ho,ho2,?_⟩
  rw[e]
  exact h2 hw
def sIx (n d:Nat):Option Int->Nat
 | none=>d
 | some v=>if v<0 then (v+(n:Int)).toNat else min v.toNat n
theorem sIx_le (n d:Nat) (hd:d<=n) (o:Option Int):sIx n d o<=n:=by
 cases o with
 | none=>exact hd
 | some v=>
  show (if v<0 then (v+(n:Int)).toNat else min v.toNat n)<=n
  by_cases hv:v<0
  ·rw[lJc hv];omega
  ·rw[lJb hv];exact Nat.min_le_right _ _
theorem qVb (v:Int) (n d:Nat):(if v<0 then max (v+(n:Int)) 0 else min v (n:Int))=((sIx n d (some v):Nat):Int):=by
 show (if v<0 then max (v+(n:Int)) 0 else min v (n:Int))=(((if v<0 then (v+(n:Int)).toNat else min v.toNat n):Nat):Int)
 by_cases hv:v<0
 ·simp only[lJc hv];omega
 ·simp only[lJb hv];omega
theorem qJ1 (lo hi:Option Int) (n:Nat):Builtin.Slice.sliceAdjust lo hi 1 (n:Int)=(((sIx n 0 lo:Nat):Int),((sIx n n hi:Nat):Int)):=by
 have h1:¬ ((1:Int)<0):=by omega
 unfold Builtin.Slice.sliceAdjust
 simp only[h1,lJt]
 refine Prod.ext ?_ ?_
 ·cases lo with
  | none=>rfl
  | some v=>exact qVb v n 0
 ·cases hi with
  | none=>rfl
  | some v=>exact qVb v n n
theorem qJe (i j:Nat):Builtin.Slice.slicePlaces (i:Int) (j:Int) 1=j-i:=by
 unfold Builtin.Slice.slicePlaces
 have h1:(1:Int)>0:=by omega
 simp only[h1,lJ2,Int.ediv_one]
 split<;>omega
theorem kKi {v:Value} {o:Option Int} {Q:Option Int->Shared->Prop} (p:IsPart v o) (h:Q o s):wpAny (model prog w) A (Builtin.Slice.slicePartIndex v) Q E s:=by
 cases p with
 | none=>exact slicePart_none h
 | int i t=>exact slicePart_int h
theorem jVa {sl:Addr} {vl vu:Value} {lo hi:Option Int} {n:Nat} {Q:Int×Int×Nat->Shared->Prop} (hs:s.heap.IsSliceOf sl vl vu .none) (pl:IsPart vl lo) (pu:IsPart vu hi)
  (h:Q (((sIx n 0 lo:Nat):Int),1,sIx n n hi-sIx n 0 lo) s):wpAny (model prog w) A (Builtin.Slice.sliceApplied (.ref sl) (pure (n:Int))) Q E s:=by
 obtain⟨os,hos,hcs,hds⟩:=id hs
 unfold Builtin.Slice.sliceApplied Builtin.Slice.sliceFields
 refine lJa (lJa (wpAny_field hos hds (x:=vl) rfl (lJa (wpAny_field hos hds (x:=vu) rfl (lJa (wpAny_field hos hds (x:= .none) rfl (lJd ?_)))))))
 refine lJa (slicePart_none ?_)
 show wpAny _ _ (if ((1:Int) == 0)=true then _ else _) _ _ s
 rw[lJb (by decide)]
 refine lJa (kKi pl (lJa (kKi pu (lJa (lJd ?_)))))
 show wpAny _ _ (match Builtin.Slice.sliceAdjust lo hi 1 (n:Int) with | (lo,hi)=>pure (lo,(1:Int),Builtin.Slice.slicePlaces lo hi 1)) _ _ s
 rw[qJ1 lo hi n]
 show wpAny _ _ (pure (((sIx n 0 lo:Nat):Int),(1:Int),Builtin.Slice.slicePlaces ((sIx n 0 lo:Nat):Int) ((sIx n n hi:Nat):Int) 1)) _ _ s
 rw[qJe]
 exact lJd h
theorem qXm (xs:Array Value) (i k:Nat):((List.range k).filterMap fun (m:Nat)=>xs[((i:Int)+(m:Int)*1).toNat]?).toArray=((xs.toList.drop i).take k).toArray:=by
 have e:(fun (m:Nat)=>xs[((i:Int)+(m:Int)*1).toNat]?)=fun m=>xs[i+m]? :=by
  funext m
  have:((i:Int)+(m:Int)*1).toNat=i+m:=by omega
  rw[this]
 rw[e]
 have:=pick_run xs i k
 rw[List.filterMap_map] at this
 have e2:((fun x=>xs[x]?)∘fun x=>i+x)=fun m=>xs[i+m]? :=rfl
 rw[e2] at this
 rw[this]
theorem getItem_tuple_cut {t sl:Addr} {items:Array Value} {vl vu:Value} {lo hi:Option Int} {Q:Value->Shared->Prop} (ht:IsTup s.heap t items) (hs:s.heap.IsSliceOf sl vl vu .none) (pl:IsPart vl lo) (pu:IsPart vu hi)
  (hw:¬ (sIx items.size 0 lo=0/\sIx items.size items.size hi=items.size))
  (h:Q (.ref s.heap.objs.size) {s with heap:=s.heap.push {cls:= .type "tuple",data:= .seq ((items.toList.drop (sIx items.size 0 lo)).take (sIx items.size items.size hi-sIx items.size 0 lo)).toArray} })
  (hsz:items.size<=sizeLine):wpAny (model prog w) A (getItem (.ref t) (.ref sl)) Q E s:=by
 have htake:sizeOk (.seq ((items.toList.drop (sIx items.size 0 lo)).take (sIx items.size items.size hi-sIx items.size 0 lo)).toArray):=by
  show ((items.toList.drop (sIx items.size 0 lo)).take (sIx items.size items.size hi-sIx items.size 0 lo)).toArray.size<=sizeLine
  rw[lJv,lQd,List.length_drop,lKi]
  omega
 have hj:sIx items.size items.size hi<=items.size:=sIx_le _ _ (lJh _) hi
 obtain⟨os,hos,hcs,hds⟩:=id hs
 have hTs:s.TypeIs (.ref sl) "slice":=⟨os,hos,hcs⟩
 unfold getItem
 try with_reducible refine lK4 ?_
 first | refine lJa (lJd ?_) | skip
 refine lJa (wpAny_sequenceKey ht.typeIs (by decide) ?_)
 refine lJa (lV5 (name:=Str.ofString "__getitem__") ht.typeIs lVp
  (lQm lVp ht.typeIs entry_tuple_getitem ?_ (args_tuple_getitem _ _)))
 show wpAny _ _ (Builtin.Tuple.tupleItemsOf (.ref t) >>= _) _ _ s
 refine lJa (tupleItemsOf_ ht ?_)
 refine lJa (lV6 hTs ?_)
 rw[lJc (by decide)]
 refine lJa (jVa hs pl pu ?_)
 have hno:¬ ((((sIx items.size 0 lo:Nat):Int) == 0&&(1:Int) == 1&&(sIx items.size items.size hi-sIx items.size 0 lo) == items.size)=true):=by
  intro q
  rw[lKn,lKn] at q
  have q1:((sIx items.size 0 lo:Nat):Int)=0:=eq_of_beq q.1.1
  have q2:sIx items.size items.size hi-sIx items.size 0 lo=items.size:=eq_of_beq q.2
  exact hw ⟨by omega,by omega⟩
 show wpAny _ _ (if (((sIx items.size 0 lo:Nat):Int) == 0&&(1:Int) == 1&&(sIx items.size items.size hi-sIx items.size 0 lo) == items.size)=true then _ else _) _ _ s
 rw[lJb hno,qXm]
 first
  | exact lJa (m:=Builtin.Tuple.tupleExact _) (lQc (lJd ⟨_,rfl,lJd h⟩) htake)
  | exact lJa (m:=Builtin.Tuple.tupleExact _) (lQc (lJa (lJd (lJd ⟨_,rfl,lJd h⟩))) htake)
  | exact lJa (lJa (m:=Builtin.Tuple.tupleExact _) (lQc (lJd (lJd ⟨_,rfl,lJd h⟩)) htake))
  | exact lJa (lJa (m:=Builtin.Tuple.tupleExact _) (lQc (lJd ⟨_,rfl,lJd h⟩) htake))
end
end HT
namespace L2
open PySem PySem.Spec PyProof.Rows
abbrev TO:=St->Hp->(Option Int->Hp->Prop)->Prop
theorem kKp {ns:List Int}:∀ {us:List Value},Vals (ns.map V.int) us->IntsAre us ns:=by
 induction ns with
 | nil=>intro us r;rw[List.map_nil] at r;cases r;exact .nil
 | cons n ns ih=>
  intro us r
  rw[lJq] at r
  cases r with
  | cons r1 r2=>
   obtain⟨t,e⟩:=r1
   subst e
   exact .cons n t (ih r2)
section
variable {X:Cx} {e:Expr} {te:TE} {lo hi:Option Expr} {tl th:TO} {pos p2:Pos}
def SlR (X:Cx) (r:V->Option Int->Option Int->Hp->VK->Prop):Prop:=
 ∀(pins:List (Addr×Obj)) (s:Shared) (σ:St) (H:Hp) (x:V) (v vl vu:Value) (lo hi:Option Int) (sl:Addr) (Q:VK),Inv X pins σ H s->RelV x v->s.heap.IsSliceOf sl vl vu .none->IsPart vl lo->IsPart vu hi->r x lo hi H Q->
  ∃T id,typeLookup (.type T) "__getitem__"=pure (some (.builtin id))/\s.TypeIs v T/\wpAny (model X.prog X.w) X.A (getItem v (.ref sl)) (EP X pins σ Q) X.xe s
def cutV (xs:List V) (lo hi:Option Int):List V:=(xs.drop (HT.sIx xs.length 0 lo)).take (HT.sIx xs.length xs.length hi-HT.sIx xs.length 0 lo)
theorem kJv (xs:List V) (lo hi:Option Int):(cutV xs lo hi).length<=xs.length:=by
 unfold cutV
 rw[lQd,List.length_drop]
 omega
noncomputable def rSlT (K:PySem.W.Frag):V->Option Int->Option Int->Hp->VK->Prop:=fun x lo hi H Q=>∃a xs,x= .ref a/\SqT K H a xs/\
 ¬ (HT.sIx xs.length 0 lo=0/\HT.sIx xs.length xs.length hi=xs.length)/\∀p,H p=none->Q (.ref p) (upd H p (.tup (cutV xs lo hi)))
theorem sl_tup:SlR X (rSlT X.K):=by
 intro pins s σ H x v vl vu lo hi sl Q I rx hs pl pu h
 obtain⟨a,xs,rfl,hx,hw,q⟩:=h
 cases rx
 obtain⟨its,r,ht,hz⟩:=I.tuple hx
 have hlen:its.toArray.size=xs.length:=by rw[lJv];exact r.length.symm
 refine⟨"tuple",_,lVp.lookup,ht.typeIs,?_⟩
 refine HT.getItem_tuple_cut ht hs pl pu (by rw[hlen];exact hw) ?_ (by rw[hlen];exact hz)
 rw[hlen]
 refine⟨.ref s.heap.objs.size,_,I.laid (t':=s.toks) (o:= .tup (cutV xs lo hi)) (fun b ob q=>lJm _ q) (lJh _) ?_,rfl,q _ (I.hok.fresh (lJh _))⟩
 exact⟨lJ8 (kJv xs lo hi) hz,_,(r.drop (HT.sIx xs.length 0 lo)).take (HT.sIx xs.length xs.length hi-HT.sIx xs.length 0 lo),TupD.new _ _⟩
noncomputable def qXh (K:PySem.W.Frag):R2:=fun x y H Q=>∃a b xs ys,x= .ref a/\y= .ref b/\SqT K H a xs/\SqT K H b ys/\xs≠[]/\xs.length+ys.length<=sizeLine/\
 (ys=[]->Q (.ref a) H)/\(ys≠[]->∀p,H p=none->Q (.ref p) (upd H p (.tup (xs++ys))))
theorem Vals.nil_iff {xs:List V} {us:List Value} (r:Vals xs us):us=[]↔xs=[]:=by
 cases r with
 | nil=>simp
 | cons _ _=>simp
theorem uJy:OpR X (binaryOp .Add) (qXh X.K):=by
 intro pins s σ H x y v u Q I rx ry h
 obtain⟨a,b,xs,ys,rfl,rfl,ha,hb,hx,hz,q1,q2⟩:=h
 cases rx
 cases ry
 obtain⟨its,r1,p1,_⟩:=I.tuple ha
 obtain⟨its2,r2,p2,_⟩:=I.tuple hb
 refine HT.cat_tup p1 p2 (fun z=>hx (r1.nil_iff.mp z)) (fun z=>⟨.ref a,H,I,rfl,q1 (r2.nil_iff.mp z)⟩) (fun z=> ?_) (by rw[<-r1.length,<-r2.length];exact hz)
 refine⟨.ref s.heap.objs.size,_,I.laid (t':=s.toks) (o:= .tup (xs++ys)) (fun b ob q=>lJm _ q) (lJh _) ?_,rfl,q2 (fun w=>z (r2.nil_iff.mpr w)) _ (I.hok.fresh (lJh _))⟩
 exact⟨by rw[lKf];exact hz,_,r1.append r2,TupD.new _ _⟩
end
def ixN (n:Nat) (i:Int):Option Nat:=if 0<=i then (if i<n then some i.toNat else none) else if -(n:Int)<=i then some (i+n).toNat else none
def atI {α:Type} (xs:List α) (i:Int):Option α:=(ixN xs.length i).bind fun j=>xs[j]?
theorem qQ9 {n:Nat} {i:Int} {j:Nat} (h:ixN n i=some j):seqIndex? i n=some j/\j<n/\ -(n:Int)<=i/\i<n:=by
 unfold ixN at h
 by_cases h0:0<=i
 ·rw[lJc h0] at h
  by_cases h1:i<n
  ·rw[lJc h1] at h
   have e:i.toNat=j:=lJ7 h
   exact⟨by rw[seqIndex_of h0 h1,e],by omega,by omega,h1⟩
  ·rw[lJb h1] at h;cases h
 ·rw[lJb h0] at h
  by_cases h1: -(n:Int)<=i
  ·rw[lJc h1] at h
   have e:(i+n).toNat=j:=lJ7 h
   exact⟨by rw[seqIndex_neg (by omega) h1,e],by omega,h1,by omega⟩
  ·rw[lJb h1] at h;cases h
theorem qVn {α:Type} {xs:List α} {i:Int} {v:α} (h:atI xs i=some v):∃j,seqIndex? i xs.length=some j/\xs[j]? =some v/\j<xs.length/\ -(xs.length:Int)<=i/\i<xs.length:=by
 unfold atI at h
 cases e:ixN xs.length i with
 | none=>rw[e] at h;cases h
 | some j=>
  rw[e] at h
  obtain⟨h1,h2,h3,h4⟩:=qQ9 e
  exact⟨j,h1,h,h2,h3,h4⟩
theorem atI_nat {α:Type} {xs:List α} {j:Nat} {v:α} (h:xs[j]? =some v):atI xs (j:Int)=some v:=by
 have hj:j<xs.length:=(lJe.mp h).1
 have e:ixN xs.length (j:Int)=some j:=by
  unfold ixN
  rw[lJc (by omega),lJc (by omega)];simp
 unfold atI;rw[e];exact h
def uQe (b:Expr):Prop:=∀o i,subscripted b false o i=operate [o,i] (getItem o i)
def IxR (X:Cx) (r:R2):Prop:=
 ∀(value slice:Expr) (pins:List (Addr×Obj)) (s:Shared) (σ:St) (H:Hp) (x y:V) (v u:Value) (Q:VK),Inv X pins σ H s->RelV x v->RelV y u->r x y H Q->
  subscripted slice false v u=operate [v,u] (getItem v u)->wpAny (model X.prog X.w) X.A (subscriptTail value slice v u) (EP X pins σ Q) X.xe s
def MtR (X:Cx) (id:String) (r:V->List V->Hp->VK->Prop):Prop:=
 ∀(pins:List (Addr×Obj)) (s:Shared) (σ:St) (H:Hp) (x:V) (xs:List V) (v:Value) (us:List Value) (Q:VK),Inv X pins σ H s->RelV x v->Vals xs us->r x xs H Q->
  wpAny (model X.prog X.w) X.A (call (.builtin id) (v::us)) (EP X pins σ Q) X.xe s
section
variable {X:Cx} {a b:Expr} {ta tb:TE} {pos:Pos}
theorem IxR.or {r r':R2} (h:IxR X r) (h':IxR X r'):IxR X (fun x y H Q=>r x y H Q\/r' x y H Q):=by
 intro value slice pins s σ H x y v u Q I rx ry q hs
 rcases q with q | q
 ·exact h value slice pins s σ H x y v u Q I rx ry q hs
 ·exact h' value slice pins s σ H x y v u Q I rx ry q hs
def rIxL (K:PySem.W.Frag):R2:=fun x y H Q=>∃p xs i v,x= .ref p/\y= .int i/\SqL K H p xs/\atI xs i=some v/\Q v H
def rIxT (K:PySem.W.Frag):R2:=fun x y H Q=>∃p xs i v,x= .ref p/\y= .int i/\SqT K H p xs/\atI xs i=some v/\Q v H
theorem ix_list:IxR X (rIxL X.K):=by
 intro value slice pins s σ H x y v u Q I rx ry h hs
 obtain⟨p,xs,i,z,rfl,rfl,hq,he,q⟩:=h
 cases rx
 obtain⟨t,rfl⟩:=ry
 obtain⟨its,r,pl,hz⟩:=I.list hq
 obtain⟨j,h1,h2,h3,h4,h5⟩:=qVn he
 obtain⟨w,ew,rw'⟩:=r.get h2
 have hl:=r.length
 have hn:=kJc
 have fin:EP X pins σ Q w s:=⟨z,H,I,rw',q⟩
 by_cases h0:0<=i
 ·have hj:i.toNat=j:=by
   rw[seqIndex_of h0 h5] at h1
   exact lJ7 h1
  exact item_listR pl.isList h0 (by omega) (by rw[hj];simpa using ew) fin hs
 ·have hj:(i+(its.toArray.size:Int)).toNat=j:=by
   rw[seqIndex_neg (by omega) h4] at h1
   rw[lJv,<-hl]
   exact lJ7 h1
  exact subscriptTail_builtinR (x:=w) pl.isList.typeIs slot_list_getitem.lookup
   (wpAny_getItem_list_neg (Q:=fun r s'=>r=w/\EP X pins σ Q r s') pl.isList (by omega) (by rw[lJv]<;>omega) (by omega) (by rw[hj];simpa using ew) ⟨rfl,fin⟩) hs
theorem ix_tup:IxR X (rIxT X.K):=by
 intro value slice pins s σ H x y v u Q I rx ry h hs
 obtain⟨p,xs,i,z,rfl,rfl,hq,he,q⟩:=h
 cases rx
 obtain⟨t,rfl⟩:=ry
 obtain⟨its,r,pl,hz⟩:=I.tuple hq
 obtain⟨j,h1,h2,h3,h4,h5⟩:=qVn he
 obtain⟨w,ew,rw'⟩:=r.get h2
 have hl:=r.length
 have hn:=kJc
 have fin:EP X pins σ Q w s:=⟨z,H,I,rw',q⟩
 exact subscriptTail_builtinR (x:=w) pl.typeIs slot_tuple_getitem.lookup
  (getItem_tuple (j:=j) (Q:=fun r s'=>r=w/\EP X pins σ Q r s') pl (by omega) (by omega) (by rw[lJv,<-hl];exact h1) (by simpa using ew) ⟨rfl,fin⟩) hs
theorem qJl (its:List Value) (n j:Nat) (u:Value):Obj.mapSeq (·.setIfInBounds j u) {cls:= .type "list",data:= .seq its.toArray n}={cls:= .type "list",data:= .seq (its.set j u).toArray n}:=by
 simp[Obj.mapSeq]
theorem Inv.lst {pins:List (Addr×Obj)} {σ:St} {H:Hp} {s:Shared} {p:Addr} {xs:List V} (I:Inv X pins σ H s) (h:H p=some (.lst xs)):
  ∃(its:List Value) (n:Nat),Vals xs its/\s.heap.get? p=some {cls:= .type "list",data:= .seq its.toArray n}/\xs.length<=sizeLine:=by
 obtain⟨z,its,n,r,e⟩:=I.hok p _ h
 exact⟨its,n,r,e,z⟩
theorem Inv.lstUpd {pins:List (Addr×Obj)} {σ:St} {H:Hp} {s:Shared} {p:Addr} {xs ys:List V} {its its':List Value} {n n':Nat} {f:Obj->Obj} (I:Inv X pins σ H s) (h:H p=some (.lst xs))
  (ho:s.heap.get? p=some {cls:= .type "list",data:= .seq its.toArray n}) (hf:f {cls:= .type "list",data:= .seq its.toArray n}={cls:= .type "list",data:= .seq its'.toArray n'}) (r:Vals ys its') (hz:ys.length<=sizeLine) (t:Nat):
  Inv X pins σ (upd H p (.lst ys)) {s with heap:=s.heap.update p f,toks:=t}:=by
 have e:(s.heap.update p f).get? p=some {cls:= .type "list",data:= .seq its'.toArray n'}:=by
  rw[lV8 f ho (by rw[hf]<;>rfl),hf]
 refine I.write (x:=p) (e:=p) (by rw[h];trivial) (.inl rfl) (fun b u hb q=>(lXo _ _ (Ne.symm hb)).trans q) ⟨_,e⟩ ?_
 exact⟨hz,its',n',r,e⟩
def qXg:V->V->V->Hp->(Hp->Prop)->Prop:=fun o i v H Q=>∃p xs k j,o= .ref p/\i= .int k/\H p=some (.lst xs)/\ixN xs.length k=some j/\Q (upd H p (.lst (xs.set j v)))
theorem kQb:PSet X qXg:=by
 intro pins s σ H o i v ov iv u Q I ro ri rv h
 obtain⟨p,xs,k,j,rfl,rfl,hp,hj,q⟩:=h
 cases ro
 obtain⟨t,rfl⟩:=ri
 obtain⟨its,n,r,ho,hz⟩:=I.lst hp
 obtain⟨h1,h2,h3,h4⟩:=qQ9 hj
 have hl:=r.length
 have hn:=kJc
 have I':Inv X pins σ (upd H p (.lst (xs.set j v))) {s with heap:=s.heap.update p (Obj.mapSeq (·.setIfInBounds j u))}:=
  I.lstUpd hp ho (qJl its n j u) (r.set rv j) (by rw[lQq];exact hz) s.toks
 by_cases h0:0<=k
 ·have hk:k.toNat=j:=by
   rw[seqIndex_of h0 h4] at h1
   exact lJ7 h1
  exact PySem.W.ki_setAt ho h0 (by omega) (by rw[lJv,<-hl];exact h4) (by rw[hk];exact⟨_,I',q⟩)
 ·have hk:(k+(its.toArray.size:Int)).toNat=j:=by
   rw[seqIndex_neg (by omega) h3] at h1
   rw[lJv,<-hl]
   exact lJ7 h1
  exact PySem.W.ki_setBack ho (by omega) (by rw[lJv,<-hl];exact h3) (by omega) (by rw[hk];exact⟨_,I',q⟩)
theorem kUk (lo hi:Option Int) (n:Nat):(sliceBounds lo hi none n).1=((HT.sIx n 0 lo:Nat):Int)/\(sliceBounds lo hi none n).2.1=((HT.sIx n n hi:Nat):Int)/\(sliceBounds lo hi none n).2.2=1:=by
 refine⟨?_,?_,rfl⟩
 ·cases lo with
  | none=>simp[sliceBounds,HT.sIx]
  | some i=>
   simp only[sliceBounds,HT.sIx,Option.getD_none,show (1:Int)>0 by decide,lJ2]
   by_cases h:i<0
   ·simp only[h,lJ2]<;>omega
   ·simp only[h,lJt]<;>omega
 ·cases hi with
  | none=>simp[sliceBounds,HT.sIx]
  | some i=>
   simp only[sliceBounds,HT.sIx,Option.getD_none,show (1:Int)>0 by decide,lJ2]
   by_cases h:i<0
   ·simp only[h,lJ2]<;>omega
   ·simp only[h,lJt]<;>omega
theorem kK9 (its:List Value) (lo hi:Option Int):slicePick its.toArray lo hi none=((its.drop (HT.sIx its.length 0 lo)).take (HT.sIx its.length its.length hi-HT.sIx its.length 0 lo)).toArray:=by
 obtain⟨h1,h2,h3⟩:=kUk lo hi its.toArray.size
 unfold slicePick
 rw[h1,h2,h3]
 simp only[sliceRange_one,pick_run,lJv]<;>rfl
def rSlL (K:PySem.W.Frag):V->Option Int->Option Int->Hp->VK->Prop:=fun x lo hi H Q=>∃a xs,x= .ref a/\SqL K H a xs/\∀p,H p=none->Q (.ref p) (upd H p (.lst (cutV xs lo hi)))
theorem uJd:SlR X (rSlL X.K):=by
 intro pins s σ H x v vl vu lo hi sl Q I rx hs pl pu h
 obtain⟨a,xs,rfl,hx,q⟩:=h
 cases rx
 obtain⟨its,r,ht,hz⟩:=I.list hx
 have hlen:=r.length
 refine⟨"list",_,slot_list_getitem.lookup,ht.isList.typeIs,?_⟩
 refine wpAny_getItem_list_slice ht.isList hs pl pu .none (by simp) ?_ (by rw[lJv]<;>omega)
 rw[kK9,<-hlen]
 refine⟨.ref s.heap.objs.size,_,I.laid (t':=s.toks) (o:= .lst (cutV xs lo hi)) (fun b ob q=>lJm _ q) (lJh _) ?_,rfl,q _ (I.hok.fresh (lJh _))⟩
 exact⟨lJ8 (kJv xs lo hi) hz,_,0,(r.drop (HT.sIx xs.length 0 lo)).take (HT.sIx xs.length xs.length hi-HT.sIx xs.length 0 lo),lJ3 _ rfl⟩
def kKd:V->Bool
 | .non=>true
 | .bl _=>true
 | .int _=>true
 | .str _=>true
 | _=>false
noncomputable def eqV:V->V->Bool
 | .non,.non=>true
 | .bl a,.bl b=>a == b
 | .bl a,.int b=>(if a then 1 else 0) == b
 | .int a,.bl b=>a == (if b then 1 else 0)
 | .int a,.int b=>a == b
 | .str a,.str b=>a == b
 | _,_=>false
theorem eqAt_V {A:Around} {s:Shared} {y x:V} {u v:Value} (ry:RelV y u) (rx:RelV x v) (fy:kKd y=true) (fx:kKd x=true):SeqAt.EqAt A s u v (eqV y x):=by
 cases y with
 | non=>
  cases ry
  cases x with
  | non=>cases rx;exact SeqAt.EqAt.same _
  | bl b=>cases rx;exact SeqAt.EqAt.none_bool b
  | int b=>obtain⟨t,rfl⟩:=rx;exact SeqAt.EqAt.none_int b t
  | str b=>obtain⟨t,rfl⟩:=rx;exact SeqAt.EqAt.none_str b t
  | _=>exact absurd (show false=true from fx) lJp
 | bl a=>
  cases ry
  cases x with
  | non=>cases rx;exact SeqAt.EqAt.bool_none a
  | bl b=>cases rx;exact SeqAt.EqAt.bool_bool a b
  | int b=>obtain⟨t,rfl⟩:=rx;exact SeqAt.EqAt.bool_int a b t
  | str b=>obtain⟨t,rfl⟩:=rx;exact SeqAt.EqAt.bool_str a b t
  | _=>exact absurd (show false=true from fx) lJp
 | int a=>
  obtain⟨t',rfl⟩:=ry
  cases x with
  | non=>cases rx;exact SeqAt.EqAt.int_none a t'
  | bl b=>cases rx;exact SeqAt.EqAt.int_bool a t' b
  | int b=>obtain⟨t,rfl⟩:=rx;exact SeqAt.EqAt.int_int a t' b t
  | str b=>obtain⟨t,rfl⟩:=rx;exact SeqAt.EqAt.int_str a t' b t
  | _=>exact absurd (show false=true from fx) lJp
 | str a=>
  obtain⟨t',rfl⟩:=ry
  cases x with
  | non=>cases rx;exact SeqAt.EqAt.str_none a t'
  | bl b=>cases rx;exact SeqAt.EqAt.str_bool a t' b
  | int b=>obtain⟨t,rfl⟩:=rx;exact SeqAt.EqAt.str_int a t' b t
  | str b=>obtain⟨t,rfl⟩:=rx;exact SeqAt.EqAt.str_str a t' b t
  | _=>exact absurd (show false=true from fx) lJp
 | _=>exact absurd (show false=true from fy) lJp
def eqU (x:V) (u:Value):Bool:=match u with
 | .none=>eqV .non x
 | .bool b=>eqV (.bl b) x
 | .int i _=>eqV (.int i) x
 | .str z _=>eqV (.str z) x
 | _=>false
theorem qUv {x y:V} {u:Value} (r:RelV y u) (f:kKd y=true):eqU x u=eqV y x:=by
 cases y with
 | non=>cases r;rfl
 | bl b=>cases r;rfl
 | int i=>obtain⟨t,rfl⟩:=r;rfl
 | str z=>obtain⟨t,rfl⟩:=r;rfl
 | _=>exact absurd (show false=true from f) lJp
theorem kX9 {x:V}:∀ {xs:List V} {us:List Value},Vals xs us->xs.all kKd=true->us.any (eqU x)=xs.any fun y=>eqV y x
 | _,_,.nil,_=>rfl
 | y::xs,u::us,.cons r t,f=>by
  rw[lQr,lKn] at f
  rw[lQe,lQe,qUv r f.1,kX9 t f.2]
theorem jZe {A:Around} {s:Shared} {x:V} {v:Value} (rx:RelV x v) (fx:kKd x=true):∀ {xs:List V} {us:List Value},Vals xs us->xs.all kKd=true->∀u∈us,SeqAt.EqAt A s u v (eqU x u)
 | _,_,.nil,_=>fun u hu=>by cases hu
 | y::xs,u::us,.cons r t,f=>fun u' hu=>by
  rw[lQr,lKn] at f
  rcases (lJl.mp hu) with rfl | hu
  ·rw[qUv r f.1];exact eqAt_V r rx f.1 fx
  ·exact jZe rx fx t f.2 u' hu
def inV (x:V) (xs:List V):Bool:=xs.any fun y=>eqV y x
def rIn (K:PySem.W.Frag) (neg:Bool):R2:=fun x y H Q=>∃p xs,y= .ref p/\(SqL K H p xs\/SqT K H p xs)/\kKd x=true/\xs.all kKd=true/\Q (.bl (if neg then !inV x xs else inV x xs)) H
theorem kUv:OpR X (compareOp .NotIn) (rIn X.K true):=by
 intro pins s σ H x y v u Q I rx ry h
 obtain⟨p,xs,rfl,hq,fx,fs,q⟩:=h
 cases ry
 rcases hq with hq | hq
 ·obtain⟨its,r,pl,hz⟩:=I.list hq
  refine SeqAt.notIn_listAt (eqU x) pl.isList (fun w hw=>jZe rx fx r fs w (by simpa using hw)) ⟨.bl _,H,I,rfl,?_⟩
  rw[show its.toArray.any (eqU x)=its.any (eqU x) by simp,kX9 r fs]
  exact q
 ·obtain⟨its,r,pl,hz⟩:=I.tuple hq
  refine SeqAt.notIn_tupleAt (eqU x) pl (fun w hw=>jZe rx fx r fs w (by simpa using hw)) ⟨.bl _,H,I,rfl,?_⟩
  rw[show its.toArray.any (eqU x)=its.any (eqU x) by simp,kX9 r fs]
  exact q
theorem kVn:kVw X (.builtin "len") (fun xs H Q=>∃p ys,xs=[.ref p]/\(SqL X.K H p ys\/SqT X.K H p ys)/\Q (.int ys.length) H):=by
 intro pins s σ H xs us Q I r h
 obtain⟨p,ys,rfl,hq,q⟩:=h
 obtain⟨u,rfl,rx⟩:=kZw r
 cases rx
 have hn:=kJc
 rcases hq with hq | hq
 ·obtain⟨its,r',pl,hz⟩:=I.list hq
  have hlen:=r'.length
  exact Calls.call_len_list pl.isList (by simp only[lJv]<;>omega) ⟨.int ys.length,H,I.tok _,⟨s.toks+1,by rw[lJv,hlen]⟩,q⟩
 ·obtain⟨its,r',pl,hz⟩:=I.tuple hq
  have hlen:=r'.length
  exact len_tuple pl (by simp only[lJv]<;>omega) ⟨.int ys.length,H,I.tok _,⟨s.toks+1,by rw[lJv,hlen]⟩,q⟩
theorem kVm:kVw X (.type "list") (fun xs H Q=>∃p ys,xs=[.ref p]/\(SqL X.K H p ys\/SqT X.K H p ys)/\∀l,H l=none->Q (.ref l) (upd H l (.lst ys))):=by
 intro pins s σ H xs us Q I r h
 obtain⟨p,ys,rfl,hq,q⟩:=h
 obtain⟨u,rfl,rx⟩:=kZw r
 cases rx
 have fin:∀(its:List Value),Vals ys its->ys.length<=sizeLine->∀(h':Heap) (c':Nat),(∀b o',s.heap.get? b=some o'->h'.get? b=some o')->
   h'.get? s.heap.objs.size=some {cls:= .type "list",dict:=none,data:= .seq its.toArray c',slots:= #[]}->EP X pins σ Q (.ref s.heap.objs.size) {s with heap:=h'}:=fun its r' hz h' c' kp e=>
  ⟨.ref s.heap.objs.size,_,I.laid (t':=s.toks) kp (lJh _) (show ObjOk X.prog X.w _ h' _ (.lst ys) from⟨hz,its,c',r',e⟩),rfl,q _ (I.hok.fresh (lJh _))⟩
 rcases hq with hq | hq
 ·obtain⟨its,r',pl,hz⟩:=I.list hq
  have hlen:=r'.length
  obtain⟨o,ho,hc,n,hd⟩:=pl.isList
  exact call_list_seq p (.inl rfl) ho hc hd (fun h' c' kp e=>fin its r' hz h' c' kp e) (by simp only[lJv]<;>omega)
 ·obtain⟨its,r',pl,hz⟩:=I.tuple hq
  have hlen:=r'.length
  obtain⟨o,ho,hc,n,hd⟩:=pl
  exact call_list_seq p (.inr rfl) ho hc hd (fun h' c' kp e=>fin its r' hz h' c' kp e) (by simp only[lJv]<;>omega)
theorem kQ5:kVw X (.type "tuple") (fun xs H Q=>∃p ys,xs=[.ref p]/\((SqL X.K H p ys/\∀l,H l=none->Q (.ref l) (upd H l (.tup ys)))\/(SqT X.K H p ys/\Q (.ref p) H))):=by
 intro pins s σ H xs us Q I r h
 obtain⟨p,ys,rfl,h⟩:=h
 obtain⟨u,rfl,rx⟩:=kZw r
 cases rx
 rcases h with ⟨hq,q⟩ | ⟨hq,q⟩
 ·obtain⟨its,r',pl,hz⟩:=I.list hq
  have hlen:=r'.length
  refine call_tuple_list pl.isList (fun h' kp=> ?_) (by simp only[lJv]<;>omega)
  have I1:Inv X pins σ H {s with heap:=h'}:=I.kept (t':=s.toks) kp
  have I2:Inv X pins σ (upd H h'.objs.size (.tup ys)) {s with heap:=h'.push {cls:= .type "tuple",data:= .seq its.toArray} }:=
   I1.laid (t':=s.toks) (fun b o e=>lJm _ e) (lJh _) (show ObjOk X.prog X.w _ _ _ (.tup ys) from⟨hz,its,r',TupD.new _ _⟩)
  exact⟨.ref h'.objs.size,_,I2,rfl,q _ (I1.hok.fresh (lJh _))⟩
 ·obtain⟨its,r',pl,hz⟩:=I.tuple hq
  exact call_tuple_same pl ⟨.ref p,H,I,rfl,q⟩
def tyV (K:PySem.W.Frag) (T:String) (x:V) (H:Hp):Prop:=match x with
 | .str _=>T="str"
 | .int _=>T="int"
 | .ref p=>(T="list"/\∃xs,SqL K H p xs)\/(T="tuple"/\∃o,K.lookup p=some o/\o.cls= .type "tuple"/\o.dict=none)\/
   (T="dict"/\((∃kvs,H p=some (.dK kvs))\/∃kvs,H p=some (.dT kvs)))\/(T="set"/\∃S n,H p=some (.set S n))
 | _=>False
theorem tyV_is {pins:List (Addr×Obj)} {σ:St} {H:Hp} {s:Shared} {T:String} {x:V} {v:Value} (I:Inv X pins σ H s) (r:RelV x v) (ty:tyV X.K T x H):
  s.TypeIs v T/\∀a,v= .ref a->∃ob,s.heap.get? a=some ob/\ob.dict=none:=by
 cases x with
 | str z=>
  obtain⟨t,rfl⟩:=r
  cases (show T="str" from ty)
  exact⟨typeIs_str s z t,fun _ e=>nomatch e⟩
 | int i=>
  obtain⟨t,rfl⟩:=r
  cases (show T="int" from ty)
  exact⟨typeIs_int s i t,fun _ e=>nomatch e⟩
 | ref p=>
  cases r
  rcases ty with ⟨rfl,xs,hq⟩ | ⟨rfl,o,hk,hc,hd⟩ | ⟨rfl,hk⟩ | ⟨rfl,S,n,hk⟩
  ·obtain⟨its,_,pl,_⟩:=I.list hq
   refine⟨pl.isList.typeIs,fun a e=> ?_⟩
   cases e
   obtain⟨o,n,e,c,hd,_⟩:=pl
   exact⟨o,e,hd⟩
  ·refine⟨⟨o,I.kIn p o hk,hc⟩,fun a e=> ?_⟩
   cases e
   exact⟨o,I.kIn _ o hk,hd⟩
  ·have z:∃o,s.heap.get? p=some o/\o.ExactDict:=by
    rcases hk with ⟨kvs,hk⟩ | ⟨kvs,hk⟩
    ·obtain⟨_,_,_,_,o,_,_,e,ex,_⟩:=I.hok p _ hk
     exact⟨o,e,ex⟩
    ·obtain⟨_,_,_,_,o,_,_,e,ex,_⟩:=I.hok p _ hk
     exact⟨o,e,ex⟩
   obtain⟨o,e,ex⟩:=z
   refine⟨⟨o,e,ex.1⟩,fun a e2=> ?_⟩
   cases e2
   exact⟨o,e,ex.2.1⟩
  ·obtain⟨o,_,_,_,e,ex,_⟩:=I.hok p _ hk
   refine⟨⟨o,e,ex.1⟩,fun a e2=> ?_⟩
   cases e2
   exact⟨o,e,ex.2.1⟩
 | _=>exact False.elim ty
variable {o e:Expr} {es:List Expr} {to:TE} {t:TA} {name:Str} {apos cpos:Pos} {T id:String} {r:V->List V->Hp->VK->Prop}
end
def MtM (X:Cx) (id:String) (r:V->List V->Hp->VK->Prop):Prop:=
 ∀(pins:List (Addr×Obj)) (s:Shared) (σ:St) (H:Hp) (x:V) (xs:List V) (v:Value) (us:List Value) (Q:VK),Inv X pins σ H s->RelV x v->Vals xs us->r x xs H Q->
  wpAny (model X.prog X.w) X.A (call (.builtin id) (v::us)) (EP X pins σ Q) X.xe s
theorem Vals.one {x:V} {us:List Value} (h:Vals [x] us):∃u,us=[u]/\RelV x u:=by
 cases h with | cons r t=>(cases t;exact⟨_,rfl,r⟩)
theorem Vals.two {x y:V} {us:List Value} (h:Vals [x,y] us):∃u v,us=[u,v]/\RelV x u/\RelV y v:=by
 cases h with | cons r t=>(cases t with | cons q t=>(cases t;exact⟨_,_,rfl,r,q⟩))
theorem Vals.rep {xs:List V} {us:List Value} (h:Vals xs us):∀k:Nat,Vals (List.replicate k xs).flatten (List.replicate k us).flatten
 | 0=> .nil
 | k+1=>by
  rw[lK6,lK6,lQw,lQw]
  exact Vals.append h (Vals.rep h k)
theorem kVe (its:List Value):∀(k:Nat) (acc:List Value),
  List.foldl (fun x1 x2=>x1++x2) acc.toArray (List.replicate k its.toArray)=(acc++(List.replicate k its).flatten).toArray
 | 0,acc=>by simp
 | k+1,acc=>by
  have e:acc.toArray++its.toArray=(acc++its).toArray:=by simp
  have e2:(acc++its)++(List.replicate k its).flatten=acc++(List.replicate (k+1) its).flatten:=by
   rw[lK6,lQw,lXp]
  rw[<-e2,<-kVe its k (acc++its),<-e,lK6,lQx]
section
variable {X:Cx} {pins:List (Addr×Obj)} {σ:St} {H:Hp} {s:Shared} {l b:Addr} {xs ys zs:List V}
theorem Inv.lset {its its':List Value} {n:Nat} {f:Array Value->Array Value} {t':Nat} (I:Inv X pins σ H s) (hH:H l=some (.lst xs))
  (e:s.heap.get? l=some {cls:= .type "list",data:= .seq its.toArray n}) (hf:f its.toArray=its'.toArray) (hv:Vals ys its') (hz:ys.length<=sizeLine):
  Inv X pins σ (upd H l (.lst ys)) {s with heap:=s.heap.update l (Obj.mapSeq f),toks:=t'}:=by
 have q:=PySem.IsL.update e f
 rw[hf] at q
 refine I.write (x:=l) (e:=l) (by rw[hH];exact trivial) (.inl rfl) (fun b' u hb hu=>(lXo s.heap (Obj.mapSeq f) (Ne.symm hb)).trans hu) ⟨_,q⟩ ?_
 exact⟨hz,its',_,hv,q⟩
theorem Inv.lnew {its:List Value} {t':Nat} (I:Inv X pins σ H s) (hv:Vals ys its) (hz:ys.length<=sizeLine):
  Inv X pins σ (upd H s.heap.objs.size (.lst ys)) {s with heap:=s.heap.push {cls:= .type "list",data:= .seq its.toArray},toks:=t'}:=
 I.laid (fun _ _ q=>lJm _ q) (lJh _) ⟨hz,its,0,hv,lJ3 _ rfl⟩
theorem Inv.fresh (I:Inv X pins σ H s):H s.heap.objs.size=none:=I.hok.fresh (lJh _)
theorem Inv.lstM (I:Inv X pins σ H s) (hH:H l=some (.lst xs)):xs.length<=sizeLine/\∃(its:List Value) (n:Nat),Vals xs its/\xs.length=its.length/\s.heap.get? l=some {cls:= .type "list",data:= .seq its.toArray n}:=by
 obtain⟨z,its,n,r,e⟩:=I.hok l _ hH
 exact⟨z,its,n,r,r.length,e⟩
theorem qXx {n:Nat} (h:n<=sizeLine):Builtin.List.listTooLong n=false:=by
 unfold Builtin.List.listTooLong
 exact lJ0 (by omega)
end
section
variable {X:Cx}
def jJ8:V->List V->Hp->VK->Prop:=fun x vs H Q=>∃l xs y,x= .ref l/\vs=[y]/\H l=some (.lst xs)/\xs.length<sizeLine/\Q .non (upd H l (.lst (xs++[y])))
theorem qQy:MtM X "list.append" jJ8:=by
 intro pins s σ H x vs v us Q I rx rv h
 obtain⟨l,xs,y,rfl,rfl,hH,hz,q⟩:=h
 cases rx
 obtain⟨u,rfl,ru⟩:=rv.one
 obtain⟨z,its,n,r,hl,e⟩:=I.lstM hH
 refine call_meets F.slot_list_append ⟨_,e,rfl⟩ F.entry_list_append (F.args_list_append_2 _ _) (PySem.list_append l its.toArray n u (by rw[lJv];omega)) ⟨e,?_⟩
 refine⟨.non,_,I.lset (its':=its++[u]) hH e (by simp) (r.append (.cons ru .nil)) ?_,rfl,q⟩
 rw[lKf,List.length_singleton]
 omega
noncomputable def rCat:R2:=fun x y H Q=>∃l b xs zs,x= .ref l/\y= .ref b/\H l=some (.lst xs)/\H b=some (.lst zs)/\xs.length+zs.length<=sizeLine/\∀p,H p=none->Q (.ref p) (upd H p (.lst (xs++zs)))
theorem op_cat:OpR X (binaryOp .Add) rCat:=by
 intro pins s σ H x y v u Q I rx ry h
 obtain⟨l,b,xs,zs,rfl,rfl,hH,hB,hz,q⟩:=h
 cases rx
 cases ry
 obtain⟨z,its,n,r,hl,e⟩:=I.lstM hH
 obtain⟨z2,its2,n2,r2,hl2,e2⟩:=I.lstM hB
 refine PySem.P.add_list e e2 ?_ (by rw[lJv,lJv];omega)
 have ea:its.toArray++its2.toArray=(its++its2).toArray:=by simp
 rw[ea]
 exact⟨.ref _,_,I.lnew (t':=s.toks) (r.append r2) (by rw[lKf];omega),rfl,q _ I.fresh⟩
noncomputable def rRep:R2:=fun x y H Q=>∃l k xs,x= .ref l/\y= .int k/\H l=some (.lst xs)/\ -(2^63)<=k/\k<2^63/\xs.length*k.toNat<=sizeLine/\
 ∀p,H p=none->Q (.ref p) (upd H p (.lst (List.replicate k.toNat xs).flatten))
theorem uKc {α:Type} (xs:List α) (k:Nat):(List.replicate k xs).flatten.length=k*xs.length:=by
 induction k with
 | zero=>simp
 | succ k ih=>rw[lK6,lQw,lKf,ih,lQy,Nat.add_comm]
theorem op_rep:OpR X (binaryOp .Mult) rRep:=by
 intro pins s σ H x y v u Q I rx ry h
 obtain⟨l,k,xs,rfl,rfl,hH,h1,h2,hz,q⟩:=h
 cases rx
 obtain⟨t,rfl⟩:=ry
 obtain⟨z,its,n,r,hl,e⟩:=I.lstM hH
 have hlen:its.toArray.size*k.toNat<=sizeLine:=by rw[lJv,<-hl];exact hz
 have hcap:¬ its.toArray.size*k.toNat>(2^63-1) / 8:=by
  have:(sizeLine:Nat)<=(2^63-1) / 8:=by decide
  omega
 have hfit:¬ (!Builtin.List.listFitsIndex k)=true:=by
  rw[fitsIndex_both h1 h2]
  exact lJp
 have hlong:¬ Builtin.List.listTooLong (its.toArray.size*k.toNat)=true:=by
  rw[qXx hlen]
  exact lJp
 have hnew:List.foldl (fun x1 x2=>x1++x2) #[] (List.replicate (if its.toArray.isEmpty=true then 0 else k.toNat) its.toArray)=(List.replicate k.toNat its).flatten.toArray:=by
  have f0:∀m:Nat,List.foldl (fun x1 x2=>x1++x2) #[] (List.replicate m its.toArray)=(List.replicate m its).flatten.toArray:=fun m=>by
   have:=kVe its m []
   rw[List.nil_append] at this
   exact this
  rw[f0]
  cases its with
  | nil=>simp
  | cons a r'=>rw[lJb (by simp)]
 refine wpAny_binaryOp_repeat_ref (T:="list") (U:="int") (by decide) ⟨_,e,rfl⟩ (fun s'=>typeIs_int s' k t) noFill_list_mul F.fills_int_mul F.slot_int_rmul repeat_list F.slot_int_index.lookup
  (call_meets F.slot_int_rmul (typeIs_int s k t) F.entry_int_rmul (F.args_int_rmul_2 _ _) (int___rmul___int_list k t l its.toArray n)
   ⟨e,rfl,⟨_,e,rfl⟩,call_meets F.slot_list_mul ⟨_,e,rfl⟩ F.entry_list_mul (F.args_list_mul_2 _ _) (AutoListH.list___mul___list_int_3 l its.toArray n k t hfit hcap hlong) ⟨e,?_⟩⟩)
 rw[hnew]
 exact⟨.ref _,_,I.lnew (t':=s.toks) (r.rep k.toNat) (by rw[uKc,lQz];exact hz),rfl,q _ I.fresh⟩
end
section
variable {prog:Program} {w:World} {A:Around} {E:Value->Shared->Prop} {s:Shared}
end
section
variable {X:Cx}
end
section
variable {κ:Type} [DecidableEq κ]
def valV (kvs:List (κ×V)) (k:κ):Option V:=(kvs.find? fun kv=>decide (kv.1=k)).map (·.2)
def putK (kvs:List (κ×V)) (k:κ) (v:V):List (κ×V):=
 if (kvs.any fun kv=>decide (kv.1=k))=true then kvs.map (fun kv=>if kv.1=k then (kv.1,v) else kv) else kvs++[(k,v)]
theorem jY7 {p:κ×V} {r:List (κ×V)} {k:κ} (e:p.1=k):valV (p::r) k=some p.2:=by simp[valV,lQf,e]
theorem jY8 {p:κ×V} {r:List (κ×V)} {k:κ} (e:¬ p.1=k):valV (p::r) k=valV r k:=by simp[valV,lQf,e]
theorem kYj (k:κ):∀kvs:List (κ×V),(kvs.any fun kv=>decide (kv.1=k))=(valV kvs k).isSome
 | []=>rfl
 | p::r=>by
  rw[lQe]
  by_cases e:p.1=k
  ·simp only[jY7 e,lKa e,Bool.true_or,Option.isSome_some]
  ·rw[jY8 e,lJ0 e,Bool.false_or];exact kYj k r
theorem kJd (kvs:List (κ×V)) (k:κ) (v:V):(putK kvs k v).length<=kvs.length+1:=by
 unfold putK
 split
 ·rw[lJf];omega
 ·rw[lKf,lJz,lK3];omega
theorem RelO.isSome_eq {o:Option V} {u:Option Value} (r:RelO o u):o.isSome=u.isSome:=by
 cases o with
 | none=>cases u with
  | none=>rfl
  | some _=>exact (show False from r).elim
 | some _=>cases u with
  | none=>exact (show False from r).elim
  | some _=>rfl
theorem KV.val {kvs:List (κ×V)} {vs:List (κ×Value)} (r:KV kvs vs) (k:κ):RelO (valV kvs k) (valueAt vs k):=by
 unfold KV at r
 induction r with
 | nil=>exact True.intro
 | @cons p q ps qs h t ih=>
  obtain⟨h1,h2⟩:=h
  by_cases e:p.1=k
  ·have e':q.1=k:=h1.symm.trans e
   have b:valueAt (q::qs) k=some q.2:=by simp[valueAt,lQf,e']
   rw[jY7 e,b];exact h2
  ·have e':¬ q.1=k:=fun z=>e (h1.trans z)
   have b:valueAt (q::qs) k=valueAt qs k:=by simp[valueAt,lQf,e']
   rw[jY8 e,b];exact ih
theorem KV.any {kvs:List (κ×V)} {vs:List (κ×Value)} (r:KV kvs vs) (k:κ):(kvs.any fun kv=>decide (kv.1=k))=vs.any fun kv=>decide (kv.1=k):=by
 unfold KV at r
 induction r with
 | nil=>rfl
 | cons h t ih=>rw[lQe,lQe,ih,h.1]
theorem KV.repl {kvs:List (κ×V)} {vs:List (κ×Value)} (r:KV kvs vs) (k:κ) {y:V} {u:Value} (ry:RelV y u):
  KV (kvs.map fun kv=>if kv.1=k then (kv.1,y) else kv) (vs.map fun kv=>if kv.1=k then (kv.1,u) else kv):=by
 unfold KV at r ⊢
 induction r with
 | nil=>exact .nil
 | @cons p q ps qs h t ih=>
  rw[lJq,lJq]
  refine .cons ?_ ih
  obtain⟨h1,h2⟩:=h
  by_cases e:p.1=k
  ·rw[lJc e,lJc (h1.symm.trans e)];exact⟨h1,ry⟩
  ·rw[lJb e,lJb (fun z=>e (h1.trans z))];exact⟨h1,h2⟩
theorem KV.put {kvs:List (κ×V)} {vs:List (κ×Value)} (r:KV kvs vs) (k:κ) {y:V} {u:Value} (ry:RelV y u):KV (putK kvs k y) (stored vs k u):=by
 unfold putK stored
 rw[r.any k]
 by_cases e:(vs.any fun kv=>decide (kv.1=k))=true
 ·rw[lJc e,lJc e];exact r.repl k ry
 ·rw[lJb e,lJb e];exact Paired.snoc r ⟨rfl,ry⟩
theorem KV.length {kvs:List (κ×V)} {vs:List (κ×Value)} (r:KV kvs vs):kvs.length=vs.length:=lVb r
end
theorem qJp {P:Program} {w:World} {k:Key} {u:Value} (r:RelV (kV k) u):(jQk P w).is k u=true:=by
 cases k with
 | inl i=>obtain⟨t,e⟩:=(show ∃t,u=Value.int i t from r);subst e;exact kXt P w i t
 | inr x=>obtain⟨t,e⟩:=(show ∃t,u=Value.str x t from r);subst e;exact kXs P w x t
abbrev KT (H:Hp):List (TKey×V)->List (TKey×Addr×Value)->Prop:=Paired fun p q=>p.1=q.1/\TKeyAt H p.1 q.2.1/\RelV p.2 q.2.2
theorem KT.val {H:Hp} {kvs:List (TKey×V)} {xs:List (TKey×Addr×Value)} (r:KT H kvs xs) (k:TKey):RelO (valV kvs k) ((atKey xs k).map (·.2)):=by
 induction r with
 | nil=>exact True.intro
 | @cons p q ps qs h t ih=>
  obtain⟨h1,_,h2⟩:=h
  by_cases e:p.1=k
  ·have e':q.1=k:=h1.symm.trans e
   have b:atKey (q::qs) k=some q.2:=by simp[atKey,lQf,e']
   rw[jY7 e,b];exact h2
  ·have e':¬ q.1=k:=fun z=>e (h1.trans z)
   have b:atKey (q::qs) k=atKey qs k:=by simp[atKey,lQf,e']
   rw[jY8 e,b];exact ih
theorem KT.repl {H:Hp} {kvs:List (TKey×V)} {xs:List (TKey×Addr×Value)} (r:KT H kvs xs) (k:TKey) {y:V} {u:Value} (ry:RelV y u):
  KT H (kvs.map fun kv=>if kv.1=k then (kv.1,y) else kv) (xs.map (putAt k u)):=by
 induction r with
 | nil=>exact .nil
 | @cons p q ps qs h t ih=>
  rw[lJq,lJq]
  refine .cons ?_ ih
  obtain⟨h1,h2,h3⟩:=h
  unfold putAt
  by_cases e:p.1=k
  ·rw[lJc e,lJc (h1.symm.trans e)];exact⟨h1,h2,ry⟩
  ·rw[lJb e,lJb (fun z=>e (h1.trans z))];exact⟨h1,h2,h3⟩
theorem KT.put {H:Hp} {kvs:List (TKey×V)} {xs:List (TKey×Addr×Value)} (r:KT H kvs xs) (k:TKey) {b:Addr} {y:V} {u:Value} (hb:TKeyAt H k b) (ry:RelV y u):
  KT H (putK kvs k y) (storedH xs k b u):=by
 have e:(kvs.any fun kv=>decide (kv.1=k))=(atKey xs k).isSome:=by
  rw[kYj,(r.val k).isSome_eq,Option.isSome_map]
 unfold putK storedH
 rw[e]
 by_cases q:(atKey xs k).isSome=true
 ·rw[lJc q,lJc q];exact r.repl k ry
 ·rw[lJb q,lJb q];exact Paired.snoc r ⟨rfl,hb,ry⟩
theorem KT.keeps {H H':Hp} {kvs:List (TKey×V)} {xs:List (TKey×Addr×Value)} (r:KT H kvs xs) (ht:∀b ys,H b=some (.tup ys)->H' b=some (.tup ys)):KT H' kvs xs:=
 Paired.mapP r fun _ _ z=>⟨z.1,z.2.1.mono ht,z.2.2⟩
section
variable {P:Program} {w:World} {H:Hp} {h:Heap} {a:Addr}
theorem rd_of {u:HO} (ok:HOk P w H h) (e:Rd H a u):ObjOk P w H h a u:=e.ok ok
theorem qYz {kvs:List (Key×V)} (ok:HOk P w H h) (e:Rd H a (.dK kvs)):kvs.length<=sizeLine/\(a == sysModules)=false/\∃vs,KV kvs vs/\h.DictOf (jQk P w) a vs:=
 show ObjOk P w H h a (.dK kvs) from rd_of ok e
theorem dk_of {kvs:List (Key×V)} (ok:HOk P w H h) (e:H a=some (.dK kvs)):kvs.length<=sizeLine/\(a == sysModules)=false/\∃vs,KV kvs vs/\h.DictOf (jQk P w) a vs:=qYz ok (.inl e)
theorem kY7 {K:Type} [DecidableEq K] {c:Nat} {T:KeyV P w K c} {R:K->V->Prop} (hR:∀k x u,R k x->RelV x u->T.is h k u):∀ {ks:List K} {xs:List V} {us:List Value},Paired R ks xs->Vals xs us->ItemsV T h ks us
 | _,_,_,.nil,.nil=> .nil
 | _,_,_,.cons r t,.cons q z=> .cons (hR _ _ _ r q) (kY7 hR t z)
theorem kVy {K:Type} [DecidableEq K] {c:Nat} {T:KeyV P w K c} {R:K->V->Prop} {ks:List K} {xs:List V} {p:Addr} (ok:HOk P w H h) (hR:∀k x u,R k x->RelV x u->T.is h k u) (e:H p=some (.tup xs)) (r:Paired R ks xs):kJ1 T h ks (.ref p):=by
 obtain⟨_,its,q,o,h1,h2,n,h3,_⟩:=(show ObjOk P w H h p (.tup xs) from ok p _ e)
 exact⟨p,o,its.toArray,n,rfl,h1,h2,h3,by simpa using kY7 hR r q⟩
theorem r1_of (ok:HOk P w H h) (k:K1) (x:V) (u:Value) (r:Rk1 H k x) (q:RelV x u):(vk1 P w).is h k u:=by
 cases k with
 | inl k=>cases (show x=kV k from r);exact qJp (P:=P) (w:=w) q
 | inr ks=>
  obtain⟨p,vs,rfl,e,t⟩:=(show ∃p vs,x= .ref p/\H p=some (.tup vs)/\Paired (fun k v=>v=kV k) ks vs from r)
  cases (show u=Value.ref p from q)
  exact kVy (T:=jYy P w) ok (fun k x u r q=>by subst r;exact qJp (P:=P) (w:=w) q) e t
theorem r2_of (ok:HOk P w H h) (k:K2) (x:V) (u:Value) (r:Rk2 H k x) (q:RelV x u):(vk2 P w).is h k u:=by
 cases k with
 | inl k=>cases (show x=kV k from r);exact qJp (P:=P) (w:=w) q
 | inr ks=>
  obtain⟨p,vs,rfl,e,t⟩:=(show ∃p vs,x= .ref p/\H p=some (.tup vs)/\Paired (Rk1 H) ks vs from r)
  cases (show u=Value.ref p from q)
  exact kVy (T:=vk1 P w) ok (r1_of ok) e t
theorem jYt {ks:TKey} (ok:HOk P w H h) (e:TKeyAt H ks a):(jJh P w).is h ks a:=by
 obtain⟨vs,h1,t⟩:=e
 exact kVy (T:=vk2 P w) ok (r2_of ok) h1 t
theorem qYy {kvs:List (TKey×V)} (ok:HOk P w H h) (e:Rd H a (.dT kvs)):kvs.length<=sizeLine/\(a == sysModules)=false/\
  ∃xs,KT H kvs xs/\h.DictOfH (jJh P w) a xs:=by
 obtain⟨z,y,xs,r,o,es,ep,h1,h2,h3,h4,h5⟩:=(show ObjOk P w H h a (.dT kvs) from rd_of ok e)
 refine⟨z,y,xs,r,o,es,ep,h1,h2,h3,h4,fun x hx=> ?_,h5⟩
 have all:∀ {l:List (TKey×V)} {m:List (TKey×Addr×Value)},KT H l m->∀x∈m,(jJh P w).is h x.1 x.2.1:=by
  intro l m q
  induction q with
  | nil=>intro x hx;exact nomatch hx
  | @cons p q ps qs hq t ih=>
   intro x hx
   rcases (lJl.mp hx) with e | hx
   ·subst e
    exact jYt ok (by rw[<-hq.1];exact hq.2.1)
   ·exact ih x hx
 exact all r x hx
theorem dt_of {kvs:List (TKey×V)} (ok:HOk P w H h) (e:H a=some (.dT kvs)):kvs.length<=sizeLine/\(a == sysModules)=false/\
  ∃xs,KT H kvs xs/\h.DictOfH (jJh P w) a xs:=qYy ok (.inl e)
end
def DGet (H:Hp) (a:Addr) (y:V) (r:Option V):Prop:=
 (∃kvs k,Rd H a (.dK kvs)/\y=kV k/\r=valV kvs k)\/∃kvs k b,Rd H a (.dT kvs)/\y= .ref b/\TKeyAt H k b/\r=valV kvs k
def DPut (H:Hp) (a:Addr) (y v:V) (H':Hp):Prop:=
 (∃kvs k,H a=some (.dK kvs)/\y=kV k/\kvs.length<sizeLine/\H'=upd H a (.dK (putK kvs k v)))\/
 ∃kvs k b,H a=some (.dT kvs)/\y= .ref b/\TKeyAt H k b/\kvs.length<sizeLine/\H'=upd H a (.dT (putK kvs k v))
theorem DGet.k {H:Hp} {a:Addr} {kvs:List (Key×V)} {k:Key} (e:H a=some (.dK kvs)):DGet H a (kV k) (valV kvs k):= .inl ⟨kvs,k,.inl e,rfl,rfl⟩
theorem DGet.t {H:Hp} {a b:Addr} {kvs:List (TKey×V)} {k:TKey} (e:H a=some (.dT kvs)) (eb:TKeyAt H k b):DGet H a (.ref b) (valV kvs k):= .inr ⟨kvs,k,b,.inl e,rfl,eb,rfl⟩
theorem DPut.k {H:Hp} {a:Addr} {kvs:List (Key×V)} {k:Key} {v:V} (e:H a=some (.dK kvs)) (hl:kvs.length<sizeLine):DPut H a (kV k) v (upd H a (.dK (putK kvs k v))):= .inl ⟨kvs,k,e,rfl,hl,rfl⟩
theorem DPut.t {H:Hp} {a b:Addr} {kvs:List (TKey×V)} {k:TKey} {v:V} (e:H a=some (.dT kvs)) (eb:TKeyAt H k b) (hl:kvs.length<sizeLine):
  DPut H a (.ref b) v (upd H a (.dT (putK kvs k v))):= .inr ⟨kvs,k,b,e,rfl,eb,hl,rfl⟩
section
variable {X:Cx} {pins:List (Addr×Obj)} {σ:St} {H:Hp} {s:Shared} {a:Addr} {y v:V} {u r:Value} {o:Option V} {A:Around} {E:Value->Shared->Prop}
theorem Inv.big (I:Inv X pins σ H s):sysModules<s.heap.objs.size:=by
 have h:mainGlobals<s.heap.objs.size:=(I.mod.glob.keeps I.bk).lt
 exact Nat.lt_trans (by decide) h
theorem qU4 {Q:Value->Shared->Prop} (hu:A.units+20<cLine) (I:Inv X pins σ H s) (g:DGet H a y (some v)) (ry:RelV y u) (h:∀w' s',Inv X pins σ H s'->RelV v w'->Q w' s'):
  wpAny (model X.prog X.w) A (getItem (.ref a) u) Q E s:=by
 rcases g with ⟨kvs,k,e,ey,l⟩ | ⟨kvs,k,b,e,ey,eb,l⟩
 ·subst ey
  obtain⟨z,hd,vs,rel,dd⟩:=qYz I.hok e
  obtain⟨w',hw,rw'⟩:=RelO.some_of (v:=v) (o:=valueAt vs k) (by rw[l];exact rel.val k)
  exact wpAny_getItem_of (qJp ry) dd.mapOf hw (h w' _ (I.tok _) rw')
 ·subst ey
  cases (show u=Value.ref b from ry)
  obtain⟨z,hd,xs,rel,dd⟩:=qYy I.hok e
  obtain⟨w',hw,rw'⟩:=RelO.some_of (v:=v) (o:=(atKey xs k).map (·.2)) (by rw[l];exact rel.val k)
  obtain⟨p,hp,hp2⟩:=lKg.mp hw
  refine wpAny_getItem_heap (jQn hu) (jYt I.hok eb) dd hp ?_
  rw[hp2]
  exact h w' _ (I.tok _) rw'
theorem uK4 {Q:Value->Shared->Prop} (hu:A.units+20<cLine) (I:Inv X pins σ H s) (g:DGet H a y o) (ry:RelV y u) (h:∀s',Inv X pins σ H s'->Q (.bool (!o.isSome)) s'):
  wpAny (model X.prog X.w) A (compareOp .NotIn u (.ref a)) Q E s:=by
 rcases g with ⟨kvs,k,e,ey,l⟩ | ⟨kvs,k,b,e,ey,eb,l⟩
 ·subst ey
  obtain⟨z,hd,vs,rel,dd⟩:=qYz I.hok e
  refine wpAny_notIn_of (qJp ry) hd dd.mapOf ?_
  rw[<-(rel.val k).isSome_eq,<-l]
  exact h _ (I.tok _)
 ·subst ey
  cases (show u=Value.ref b from ry)
  obtain⟨z,hd,xs,rel,dd⟩:=qYy I.hok e
  refine wpAny_notIn_heap (jQn hu) (jYt I.hok eb) hd dd ?_
  have q:=(rel.val k).isSome_eq
  rw[Option.isSome_map] at q
  rw[<-q,<-l]
  exact h _ (I.tok _)
theorem kX6 {h':Heap} {t':Nat} {ob:HO} (I:Inv X pins σ H s) (mu:Mut (H a)) (hs:Heap.SameBut a s.heap h') (he:∃q,h'.get? a=some q) (new:ObjOk X.prog X.w (upd H a ob) h' a ob):
  Inv X pins σ (upd H a ob) {s with heap:=h',toks:=t'}:=
 I.write (x:=a) (e:=a) mu (.inl rfl) (fun b q hb z=>(hs.2 b hb).trans z) he new
theorem dk_new {P:Program} {w:World} {H':Hp} {h':Heap} {kvs:List (Key×V)} {vs:List (Key×Value)} (z:kvs.length<=sizeLine) (hd:(a == sysModules)=false) (rel:KV kvs vs) (dd:h'.DictOf (jQk P w) a vs):
  ObjOk P w H' h' a (.dK kvs):=⟨z,hd,vs,rel,dd⟩
theorem kVi {H':Hp} {Q:Unit->Shared->Prop} (hu:A.units+20<cLine) (I:Inv X pins σ H s) (g:DPut H a y v H') (ry:RelV y u) (rv:RelV v r) (h:∀s',Inv X pins σ H' s'->Q () s'):
  wpAny (model X.prog X.w) A (setItem (.ref a) u r) Q E s:=by
 rcases g with ⟨kvs,k,e,ey,l,eH⟩ | ⟨kvs,k,b,e,ey,eb,l,eH⟩
 ·subst ey eH
  obtain⟨z,hd,vs,rel,dd⟩:=dk_of I.hok e
  have hz:vs.length<=sizeLine:=by rw[<-rel.length];exact z
  have hl:(putK kvs k v).length<=sizeLine:=by have:=kJd kvs k v;omega
  refine wpAny_setItem_pairs (hsz:=hz) (qJp ry) dd fun h' dd' hs=>h _ ?_
  have he:∃q,h'.get? a=some q:=let ⟨q,_,_,hq,_⟩:=dd';⟨q,hq⟩
  exact kX6 I (by rw[e];exact True.intro) hs he (dk_new hl hd (rel.put k rv) dd')
 ·subst ey eH
  cases (show u=Value.ref b from ry)
  obtain⟨z,hd,xs,rel,dd⟩:=dt_of I.hok e
  have hz:xs.length<=sizeLine:=by rw[<-lVb rel];exact z
  have hl:(putK kvs k v).length<=sizeLine:=by have:=kJd kvs k v;omega
  refine wpAny_setItem_heap (hsz:=hz) (jQn hu) (jYt I.hok eb) dd fun h' dd' hs=>h _ ?_
  obtain⟨q,es,ep,hq,h2,h3,h4,_,h5⟩:=dd'
  refine kX6 I (by rw[e];exact True.intro) hs ⟨q,hq⟩ ⟨hl,hd,_,(rel.put k eb rv).keeps fun c ys ec=> ?_,q,es,ep,hq,h2,h3,h4,h5⟩
  rw[jJ5 (ne_of ec e (fun z=>nomatch z))]
  exact ec
end
section
variable {X:Cx} {pins:List (Addr×Obj)} {σ:St} {H:Hp} {s:Shared} {a:Addr} {kvs:List (Key×V)} {k:Key} {u:Value} {A:Around} {E:Value->Shared->Prop}
end
theorem kX5 {X:Cx} {pins:List (Addr×Obj)} {σ:St} {H:Hp} {s:Shared} {a:Addr} {y:V} {o:Option V} (I:Inv X pins σ H s) (g:DGet H a y o):s.TypeIs (.ref a) "dict":=by
 rcases g with ⟨kvs,k,e,_,_⟩ | ⟨kvs,k,b,e,_,_,_⟩
 ·obtain⟨_,_,vs,_,dd⟩:=qYz I.hok e
  exact dd.typeIs
 ·obtain⟨_,_,xs,_,dd⟩:=qYy I.hok e
  exact dd.typeIs
section
variable {X:Cx} {o i e value:Expr} {pos pos' tpos:Pos} {td ty tv:TE}
end
theorem qY0 {P:Program} {w:World} {H:Hp} (h:Heap) (hb:sysModules<h.objs.size):ObjOk P w H (h.push {cls:= .type "dict",data:= .dict #[]}) h.objs.size (.dK []):=
 ⟨lJs _,beq_eq_false_iff_ne.mpr (Ne.symm (lJw hb)),[],.nil,Heap.DictOf.new h⟩
theorem kZk {P:Program} {w:World} {H:Hp} (h:Heap) (hb:sysModules<h.objs.size):ObjOk P w H (h.push {cls:= .type "dict",data:= .dict #[]}) h.objs.size (.dT []):=
 ⟨lJs _,beq_eq_false_iff_ne.mpr (Ne.symm (lJw hb)),[],.nil,_,#[],0,lJ3 _ rfl,⟨rfl,rfl,rfl⟩,rfl,rfl,lVq⟩
def tDNewK:TE:=fun _ H Q=>∀p,H p=none->Q (.ref p) (upd H p (.dK []))
def tDNewT:TE:=fun _ H Q=>∀p,H p=none->Q (.ref p) (upd H p (.dT []))
section
variable {X:Cx} {pos:Pos}
theorem qXo:PE X (.Dict [] [] pos) tDNewK:=fun pins s σ H Q I h=>
 wpAny_Dict_empty ⟨.ref s.heap.objs.size,_,I.laid (a:=s.heap.objs.size) (o:= .dK []) (t':=s.toks) (fun _ _ q=>lJm _ q) (lJh _) (qY0 s.heap I.big),rfl,h _ (I.hok.fresh (lJh _))⟩
theorem qXn:PE X (.Dict [] [] pos) tDNewT:=fun pins s σ H Q I h=>
 wpAny_Dict_empty ⟨.ref s.heap.objs.size,_,I.laid (a:=s.heap.objs.size) (o:= .dT []) (t':=s.toks) (fun _ _ q=>lJm _ q) (lJh _) (kZk s.heap I.big),rfl,h _ (I.hok.fresh (lJh _))⟩
end
section
variable {X:Cx} {pins:List (Addr×Obj)} {σ:St} {H:Hp} {s:Shared} {a:Addr} {y d:V} {u r:Value} {o:Option V} {A:Around} {E:Value->Shared->Prop}
end
section
variable {X:Cx} {o e f:Expr} {apos cpos:Pos} {td ty tx:TE}
end
section
variable {X:Cx} {pins:List (Addr×Obj)} {σ:St} {H:Hp} {s:Shared} {a:Addr} {kvs:List (Key×V)} {A:Around} {E:Value->Shared->Prop}
end
section
variable {X:Cx} {pins:List (Addr×Obj)} {σ:St} {H:Hp} {s:Shared} {a:Addr} {y:V} {u:Value} {A:Around} {E:Value->Shared->Prop}
end
end L2
namespace Att
open PySem PySem.W PySem.Calls PyProof.Rows
theorem kJi {P:Params} {h:Heap}:∀(ns:List Int) (vs:List Value),WellAll P h vs (ns.map WData.int)->IntsAre vs ns:=by
 intro ns
 induction ns with
 | nil=>
  intro vs w
  rw[List.map_nil] at w
  cases w
  exact .nil
 | cons n ns ih=>
  intro vs w
  rw[lJq] at w
  cases w with
  | cons a b=>
   cases a
   exact .cons _ _ (ih _ b)
theorem qKt {l:OpenLaw} {n:Nat} (hn:l.most=some n) {P:Params} {h:Heap} {args:List WData} {vals:List Value}
  (hpre:l.row.toRowW.claim.pre args=true) (hwl:WellAll P h vals args):
  ∃a vs ns,vals=[Value.ref a]/\args=[WData.list (ns.map WData.int)]/\h.get? a=some {cls:= .type "list",data:= .seq vs.toArray}/\IntsAre vs ns/\ns.length<=n:=by
 have hsh:WShape.hasAll [] args [.list .int]=true:=(pre_splitW hpre).1
 have hc:l.pre.holds [] {args:=args}=true:=(pre_splitW hpre).2
 obtain⟨d,r,rfl,h1,h2⟩:=hasAllW_cons hsh
 obtain rfl:=hasAllW_nil h2
 obtain⟨xs,rfl,h3⟩:=hasW_list h1
 obtain⟨ns,rfl⟩:=items_int h3
 have hlen:ns.length<=n:=by
  unfold OpenLaw.pre at hc
  have h4:(WTm.not (.lt (.lit (.int (n:Int))) (.len (.arg 0)))).holds [] {args:=[.list (ns.map .int)]}=true:=by
   have h4:=(holds_andW hc).1
   rw[hn] at h4
   exact h4
  have h5:=condW_of h4 (w_not (w_lt w_lit (w_len_list (w_arg rfl))))
  rw[lJf] at h5
  refine Nat.le_of_not_lt fun q=> ?_
  have q':(n:Int)<((ns.length:Nat):Int):=by omega
  first
   | (rw[lKa q'] at h5;exact absurd h5 (by decide))
   | (simp at h5;omega)
 cases hwl with
 | cons w1 w2=>
  cases w2
  cases w1 with
  | list ho hall=>exact⟨_,_,ns,rfl,rfl,ho,kJi ns _ hall,hlen⟩
theorem qQj (l:OpenLaw) (args:List WData):l.row.toRowW.claim.post args (.bool true) args=true:=
 postW_of (r:=l.row.toRowW) (X:=(true == true))
  (show WShape.has [] (.bool true) .bool=true by first | rfl | decide | simp[WShape.has,WShape.arms,WShape.armsAll])
  (show (WTm.eq .res (.lit (.bool true))).value [] {args:=args,res:=some (.bool true),after:=args}=some (.bool (true == true)) from w_eq_bool (w_res rfl) w_lit) rfl
theorem attach_call {l:OpenLaw} {n:Nat} {q:Program} {loose:List Str} {XP:(Str->Option Value)->Heap->Prop} {YP:World->Heap->Prop} {d:DefRec}
  (hn:l.most=some n) (hdf:d.params.defaults=[])
  (call:∀(w:World) (s₀ s₁:Shared) (mg mb:Str->Option Value) (fa:Addr) (o:Obj) (pm cd doc:Value) (a:Addr) (vs:List Value) (ns:List Int),
   Ground q loose [] XP w s₀ mg mb s₁.heap->YP w s₁.heap->
   s₁.heap.get? fa=some o->o.data= .func (docDef d.name d.params d.body d.scope pm cd doc)->s₁.heap.CodeRec cd d.name->mg d.name=some (.ref fa)->
   s₁.heap.get? a=some {cls:= .type "list",data:= .seq vs.toArray}->IntsAre vs ns->ns.length<=n->s₁.gens= #[]->
   codeAny (model l.prog w) callerA (.call (.ref fa) ⟨[.ref a],[]⟩) (fun r s'=>r= .ok (.ret (.bool true))/\OldK s₁.heap s'.heap/\s'.os=s₁.os/\AllBare s'.gens) s₁):
  WalkO q loose XP YP l.row.toRowW d [] (fun f vs=>PySem.call f vs):=by
 intro w s₀ s₁ mg mb G Y fa o pm cd doc dV kV ho hd hcd hD hmg hg args vals as hpre hlay hrd hwl hlo
 obtain rfl:dV= .none:=Dflts.none hD hdf
 obtain rfl:kV= .none:=Dflts.noKw hD
 obtain⟨a,vs,ns,rfl,rfl,hobj,hints,hlen⟩:=qKt hn hpre hwl
 refine enter_call (lV4 (call w s₀ s₁ mg mb fa o pm cd doc a vs ns G Y ho (fd_plain hd) hcd hmg hobj hints hlen hg) fun r s' hq=> ?_)
 obtain⟨rfl,h2,h3,h4⟩:=hq
 exact⟨.inl ⟨.bool true,.bool true,[],rfl,fun _=>rfl,.bool true,qQj l _,fun _=>⟨List.Pairwise.nil,fun _ hm=>(nomatch hm)⟩⟩,h2,h3,h4⟩
section
variable {prog:Program} {w:World} {A:Around} {E:Value->Shared->Prop} {s:Shared} {K:Frag}
end
end Att
namespace L2
open PySem PySem.Spec PyProof.Rows
theorem kUf:∀ {vs:List Value} {ns:List Int},IntsAre vs ns->Vals (ns.map V.int) vs
 | _,_,.nil=> .nil
 | _,_,.cons n t h=> .cons ⟨t,rfl⟩ (kUf h)
def Only (H:Hp):Prop:=∀b,H b=none\/∃o xs,H b=some (.frz o (.lst xs))
theorem qX5 {P:Program} {w:World} {K:PySem.W.Frag} {mg mb:Str->Option Value} {CX:CXT} {k:Nat} {fa a:Addr} {fd:FuncData} {x:Str} {sp:Sp} {s₁:Shared} {vs:List Value} {ns:List Int}
  (KX:K.In s₁.heap) (hns:s₁.heap.Ns mainGlobals mg) (hb:s₁.heap.Ns builtinsNs mb) (hbb:∀x:Str,x≠"__name__"->mb x=bootBuiltins x) (hlim:s₁.heap.NoLimit) (hg:s₁.gens= #[])
  (ha:s₁.heap.get? a=some {cls:= .type "list",data:= .seq vs.toArray}) (hi:IntsAre vs ns) (hl:ns.length<=sizeLine) (hr:Room k callerA)
  (F:∀base:Heap,K.In base->base.Ns mainGlobals mg->FnOk P w K mg base CX k fa fd [x] sp) (hbind:∀(s:Shared) (u:Value),BindsTo s fd ⟨[u],[]⟩ [(x,u)])
  (hsp:∀H:Hp,Only H->SqL K H a (ns.map V.int)->sp [.ref a] H (fun v _=>v= .bl true) fun _ _ _=>False)
  (hCX:∀H e s',CX [] H s₁ (fun _ _ _=>False) e s'->False):
  codeAny (model P w) callerA (.call (.ref fa) ⟨[.ref a],[]⟩) (fun r s'=>r= .ok (.ret (.bool true))/\OldK s₁.heap s'.heap/\s'.os=s₁.os/\AllBare s'.gens) s₁:=by
 have rv:=kUf hi
 have lenV:=hi.length
 have core:∀H:Hp,Only H->SqL K H a (ns.map V.int)->HOk P w H s₁.heap->(∀b,H b≠none->b=a)->(H a≠none->K.lookup a=none)->
   codeAny (model P w) callerA (.call (.ref fa) ⟨[.ref a],[]⟩) (fun r s'=>r= .ok (.ret (.bool true))/\OldK s₁.heap s'.heap/\s'.os=s₁.os/\AllBare s'.gens) s₁:=by
  intro H hO hS hok hA hK
  have base_of:∀ {b:Addr} {o:Obj},s₁.heap.get? b=some o->H b=none->(hidT s₁.heap H).get? b=some o:=fun e n=>qYm e n
  have noA:∀ {b:Addr} {o:Obj} {es:Array DictEntry} {ep:Nat},s₁.heap.get? b=some o->o.data= .dict es ep->H b=none:=fun {b o es ep} e d=>by
   cases q:H b with
   | none=>rfl
   | some u=>
    have e':b=a:=hA b (by rw[q];simp)
    subst e'
    rw[ha] at e;cases e
    have d':Data.seq vs.toArray _=Data.dict es ep:=d
    cases d'
  have nsK:∀ {b:Addr} {m:Str->Option Value},s₁.heap.Ns b m->(hidT s₁.heap H).Ns b m:=fun {b m} ⟨o,es,ep,e,d,r⟩=>⟨o,es,ep,base_of e (noA e d),d,r⟩
  have hKb:K.In (hidT s₁.heap H):=fun b o e=>base_of (KX b o e) (by
   cases q:H b with
   | none=>rfl
   | some u=>
    have e':b=a:=hA b (by rw[q];simp)
    subst e'
    rw[hK (by rw[q];simp)] at e;cases e)
  have hM:Mod K mg (hidT s₁.heap H):=⟨hKb,nsK hns,⟨mb,nsK hb,hbb⟩,let ⟨mc,h1,h2⟩:=hlim;⟨mc,nsK h1,h2⟩⟩
  have e0:Env0 P w K mg (hidT s₁.heap H) callerA [] s₁ H:=⟨rfl,hM,fun b o e=>uJ0 e,lVn (qUe _ _),trivial,fun b hb=>absurd (show b∈([]:List Addr) from hb) (by simp),hok,.of_eq hg⟩
  refine lV4 ((F _ hKb (nsK hns)).run callerA [] s₁ H ⟨[.ref a],[]⟩ [.ref a] [.ref a] _ _ hr e0 (hbind s₁ (.ref a)) (.cons rfl .nil) (hsp H hO hS)) fun r s' h=> ?_
  cases r with
  | error e=>exact (hCX H e s' h).elim
  | ok fl=>
   cases fl with
   | next=>exact False.elim h
   | brk=>exact False.elim h
   | cont=>exact False.elim h
   | ret u=>
    obtain⟨v,H',os,bare,un,hok',r',q⟩:=h
    have q':v= .bl true:=q
    subst q'
    obtain rfl:u=Value.bool true:=r'
    refine⟨rfl,OldK.of_keep fun b o e=> ?_,os,bare⟩
    cases q:H b with
    | none=>exact un.keep b o e q (by intro z;exact absurd (show b∈([]:List Addr) from z) (by simp)) (by simp)
    | some u=>
     rcases hO b with z | ⟨ob,xs,z⟩
     ·rw[q] at z;cases z
     ·have z2:=un.frzs b ob _ z
      obtain⟨e1,_⟩:=hok b _ z
      obtain⟨e2,_⟩:=hok' b _ z2
      rw[e] at e1;cases e1
      exact e2
 cases hk:K.lookup a with
 | some o=>
  have e:=KX a o hk
  rw[ha] at e
  cases e
  refine core (fun _=>none) (fun _=> .inl rfl) (.inr ⟨_,vs.toArray,_,hk,rfl,rfl,rfl,by rw[lJv,lenV];exact hl,by simpa using rv⟩) (fun b u z=>by have z':(none:Option HO)=some u:=z;cases z') (fun b z=>absurd rfl z) fun z=>absurd rfl z
 | none=>
  refine core (fun b=>if b=a then some (.frz {cls:= .type "list",data:= .seq vs.toArray} (.lst (ns.map V.int))) else none) (fun b=> ?_) (.inl (.inr ⟨{cls:= .type "list",data:= .seq vs.toArray},lJc rfl⟩)) (fun b u z=> ?_) (fun b z=> ?_) fun _=>hk
  ·by_cases hb:b=a
   ·exact .inr ⟨_,_,lJc hb⟩
   ·exact .inl (lJb hb)
  ·by_cases hb:b=a
   ·have z':=(lJc hb).symm.trans z
    cases z'
    subst hb
    exact⟨ha,by rw[lJf];exact hl,vs,_,rv,ha⟩
   ·have z':=(lJb hb).symm.trans z
    cases z'
  ·by_cases hb:b=a
   ·exact hb
   ·exact absurd (lJb hb) z
theorem walk_of {l:PySem.W.OpenLaw} {n k:Nat} {q:Program} {loose:List Str} {XP:(Str->Option Value)->Heap->Prop} {YP:World->Heap->Prop} {d:DefRec} {K:Params->PySem.W.Frag} {CX:World->CXT} {sp:World->Sp} {x:Str}
  (hn:l.most=some n) (hn2:n<=sizeLine) (hdf:d.params.defaults=[]) (hr:Room k callerA)
  (hY:∀(w:World) (h:Heap),YP w h->(K w.params).In h)
  (F:∀(w:World) (mg:Str->Option Value) (fa:Addr) (h:Heap),(K w.params).In h->h.Ns mainGlobals mg->mg d.name=some (.ref fa)->
   ∃fd:FuncData,(∀(s:Shared) (u:Value),BindsTo s fd ⟨[u],[]⟩ [(x,u)])/\
    ∀base:Heap,(K w.params).In base->base.Ns mainGlobals mg->FnOk l.prog w (K w.params) mg base (CX w) k fa fd [x] (sp w))
  (hsp:∀(w:World) (H:Hp) (a:Addr) (ns:List Int),ns.length<=n->Only H->SqL (K w.params) H a (ns.map V.int)->sp w [.ref a] H (fun v _=>v= .bl true) fun _ _ _=>False)
  (hCX:∀(w:World) (H:Hp) (s:Shared) (e:Value) (s':Shared),CX w [] H s (fun _ _ _=>False) e s'->False):
  PySem.W.WalkO q loose XP YP l.row.toRowW d [] (fun f vs=>PySem.call f vs):=by
 refine Att.attach_call hn hdf fun w s₀ s₁ mg mb fa o pm cd doc a vs ns G Y ho hd hcd hmg hobj hints hlen hg=> ?_
 have KX:=hY w _ Y
 obtain⟨fd,hb,hF⟩:=F w mg fa _ KX G.T.g hmg
 exact qX5 KX G.T.g G.T.b G.T.builtins G.T.nolimit hg hobj hints (lJ8 hlen hn2) hr hF hb (fun H hO hS=>hsp w H a ns hlen hO hS) fun H e s'=>hCX w H s₁ e s'
def jYm (s:Stmt) (j:Nat):Stmt:=match s with
 | .ClassDef _ _ _ body _ _ _ _ _ _ _=>body.getD j (.Pass ⟨0,0,0,0⟩)
 | _=> .Pass ⟨0,0,0,0⟩
noncomputable def jUo (s:Stmt):Arguments:=match s with
 | .FunctionDef _ a _ _ _ _ _ _ _ _=>a
 | _=>{posonlyargs:=[],args:=[],vararg:=none,kwonlyargs:=[],kw_defaults:=[],kwarg:=none,defaults:=[]}
def jQc (s:Stmt):List Stmt:=match s with
 | .FunctionDef _ _ b _ _ _ _ _ _ _=>b
 | _=>[]
def jJv (s:Stmt):Scope:=match s with
 | .FunctionDef _ _ _ _ _ _ sc _ _ _=>sc
 | _=>{kind:= .function,names:=[],isGenerator:=false,isCoroutine:=false}
abbrev CX0:CXT:=fun _ _ _ _ _ _=>False
abbrev E0:XK:=fun _ _ _=>False
theorem qXp {X:Cx}:qVq CX0 X E0:=fun _ _ _ _ _ _ _ h=>h.elim
structure Fun (K:PySem.W.Frag) (x qual:Str) (st:Stmt) (f:Addr) (fd:FuncData):Prop where
 ex:∃(oc:Value) (od:Option Addr) (kV doc pm:Value) (an:Option Addr) (cdv ct:Value) (osl:Array (Option Value)),
  fd=PySem.W.fnOf x qual (jUo st) (jQc st) (jJv st) .none kV doc pm an cdv ct/\K.lookup f=some ⟨oc,od,.func fd,osl⟩/\PySem.W.codeIn K cdv qual=true
 kp:PySem.W.keepIn K (.ref f)=true
section
variable {P:Program} {w:World} {K:PySem.W.Frag} {mg:Str->Option Value} {base:Heap}
theorem Fun.ok {x qual:Str} {st:Stmt} {f:Addr} {fd:FuncData} {N ps:List Str} {k:Nat} {sp:Sp} (F:Fun K x qual st f fd) (S:FnScope N ps (jJv st)) (len:∀vs H Q E,sp vs H Q E->vs.length=ps.length)
  (hbody:∀(cdv:Value) (A:Around) (outer:List Env) (s:Shared) (H:Hp) (vs:List V) (Q:VK) (E:XK),Room k (A.deeper (envOfC qual (jJv st) s.heap.objs.size f cdv))->sp vs H Q E->
   ∃t,PSs (cxOf CX0 P w K mg base N qual (jJv st) f cdv A outer s H E).nox (jQc st) t/\t {nx:=fun _ H'=>Q .non H',rt:=Q} (start N vs) H):FnOk P w K mg base CX0 (k+1) f fd ps sp:=by
 obtain⟨oc,od,kV,doc,pm,an,cdv,ct,osl,rfl,lk,hcd⟩:=F.ex
 refine fn_of lk hcd S len fun A outer s H vs Q E hr hsp=> ?_
 obtain⟨t,h,q⟩:=hbody cdv A outer s H vs Q E hr hsp
 exact⟨t,h.nox,q⟩
theorem Fun.binds {x qual:Str} {st:Stmt} {f:Addr} {fd:FuncData} {ps:List Str} (F:Fun K x qual st f fd)
  (h:∀(kV doc pm:Value) (an:Option Addr) (cdv ct:Value) (us:List Value),us.length=ps.length->bindArgs (PySem.W.fnOf x qual (jUo st) (jQc st) (jJv st) .none kV doc pm an cdv ct) ⟨us,[]⟩=pure (ps.zip us)):Binds K fd ps []:=by
 obtain⟨oc,od,kV,doc,pm,an,cdv,ct,osl,rfl,lk,hcd⟩:=F.ex
 exact .all (h kV doc pm an cdv ct)
theorem qUk {x qual:Str} {st:Stmt} {f:Addr} {oc:Value} {od an:Option Addr} {osl:Array (Option Value)} {kV doc pm cdv ct:Value} (l:K.lookup f=some ⟨oc,od,.func (PySem.W.fnOf x qual (jUo st) (jQc st) (jJv st) .none kV doc pm an cdv ct),osl⟩)
  (c:PySem.W.codeIn K cdv qual=true) (k:PySem.W.keepIn K (.ref f)=true):Fun K x qual st f (PySem.W.fnOf x qual (jUo st) (jQc st) (jJv st) .none kV doc pm an cdv ct):=⟨⟨oc,od,kV,doc,pm,an,cdv,ct,osl,rfl,l,c⟩,k⟩
end
theorem qYk {A:Around} {k:Nat} (hr:Room k A):A.units+20<cLine:=Nat.lt_of_le_of_lt (Nat.add_le_add_left (by decide:20<=64) _) hr.units
section
variable {X:Cx}
end
end L2
set_option Elab.async false
set_option linter.all false
set_option maxRecDepth 100000
set_option maxHeartbeats 5000000
namespace L3
open PySem PySem.Spec PyProof.Rows L2
inductive T where
 | non | bl (b:Bool) | int (i:Int) | str (x:Str) | tup (xs:List T) | scr (xs:List T) | ref (a:Addr) | ty (n:String)
structure Ext (H H':Hp):Prop where
 tup:∀b xs,H b=some (.tup xs)->H' b=some (.tup xs)
 frz:∀b ob u,H b=some (.frz ob u)->H' b=some (.frz ob u)
theorem Ext.refl (H:Hp):Ext H H:=⟨fun _ _ h=>h,fun _ _ _ h=>h⟩
theorem Ext.trans {H H1 H2:Hp} (a:Ext H H1) (b:Ext H1 H2):Ext H H2:=⟨fun c o h=>b.tup c o (a.tup c o h),fun c o u h=>b.frz c o u (a.frz c o u h)⟩
def FrL (K:PySem.W.Frag) (H:Hp) (a:Addr) (xs:List V):Prop:=
 (∃ob,H a=some (.frz ob (.lst xs)))\/
  ∃(o:Obj) (its:Array Value) (n:Nat),K.lookup a=some o/\o.cls= .type "list"/\o.dict=none/\o.data= .seq its n/\its.size<=sizeLine/\Vals xs its.toList
theorem FrL.sq {K:PySem.W.Frag} {H:Hp} {a:Addr} {xs:List V} (h:FrL K H a xs):SqL K H a xs:=by
 rcases h with ⟨ob,h⟩ | h
 ·exact .inl (.inr ⟨ob,h⟩)
 ·exact .inr h
theorem FrL.mono {K:PySem.W.Frag} {H H':Hp} {a:Addr} {xs:List V} (e:Ext H H') (h:FrL K H a xs):FrL K H' a xs:=by
 rcases h with ⟨ob,h⟩ | h
 ·exact .inl ⟨ob,e.frz _ _ _ h⟩
 ·exact .inr h
mutual
noncomputable def Rep (K:PySem.W.Frag) (H:Hp):T->V->Prop
 | .non,v=>v= .non
 | .bl b,v=>v= .bl b
 | .int i,v=>v= .int i
 | .str x,v=>v= .str x
 | .ref a,v=>v= .ref a
 | .ty n,v=>v= .ty n
 | .tup xs,v=>∃a vs,v= .ref a/\H a=some (.tup vs)/\Reps K H xs vs
 | .scr xs,v=>∃a vs,v= .ref a/\FrL K H a vs/\Reps K H xs vs
noncomputable def Reps (K:PySem.W.Frag) (H:Hp):List T->List V->Prop
 | [],vs=>vs=[]
 | x::xs,vs=>∃v ws,vs=v::ws/\Rep K H x v/\Reps K H xs ws
end
mutual
theorem Rep.mono {K:PySem.W.Frag} {H H':Hp} (e:Ext H H'):∀(x:T) {v:V},Rep K H x v->Rep K H' x v
 | .non,_,h=>h
 | .bl _,_,h=>h
 | .int _,_,h=>h
 | .str _,_,h=>h
 | .ref _,_,h=>h
 | .ty _,_,h=>h
 | .tup xs,_,⟨a,vs,r1,r2,r3⟩=>⟨a,vs,r1,e.tup _ _ r2,Reps.mono e xs r3⟩
 | .scr xs,_,⟨a,vs,r1,r2,r3⟩=>⟨a,vs,r1,r2.mono e,Reps.mono e xs r3⟩
theorem Reps.mono {K:PySem.W.Frag} {H H':Hp} (e:Ext H H'):∀(xs:List T) {vs:List V},Reps K H xs vs->Reps K H' xs vs
 | [],_,h=>h
 | x::xs,_,⟨v,ws,r1,r2,r3⟩=>⟨v,ws,r1,Rep.mono e x r2,Reps.mono e xs r3⟩
end
section
variable {K:PySem.W.Frag} {H:Hp}
theorem Reps.length:∀ {xs:List T} {vs:List V},Reps K H xs vs->xs.length=vs.length
 | [],_,h=>by cases h;rfl
 | _::_,_,⟨_,_,r1,_,r3⟩=>by subst r1;simp[Reps.length r3]
theorem Reps.get:∀ {xs:List T} {vs:List V} {i:Nat} {x:T},Reps K H xs vs->xs[i]? =some x->∃v,vs[i]? =some v/\Rep K H x v
 | [],_,_,_,_,e=>by simp at e
 | y::ys,_,0,x,⟨v,ws,r1,r2,r3⟩,e=>by subst r1;simp at e;subst e;exact⟨v,rfl,r2⟩
 | y::ys,_,i+1,x,⟨v,ws,r1,r2,r3⟩,e=>by subst r1;simpa using Reps.get r3 (by simpa using e)
theorem Reps.get':∀ {xs:List T} {vs:List V} {i:Nat} {v:V},Reps K H xs vs->vs[i]? =some v->∃x,xs[i]? =some x/\Rep K H x v
 | [],_,_,_,h,e=>by cases h;simp at e
 | y::ys,_,0,x,⟨v,ws,r1,r2,r3⟩,e=>by subst r1;simp at e;subst e;exact⟨y,rfl,r2⟩
 | y::ys,_,i+1,x,⟨v,ws,r1,r2,r3⟩,e=>by subst r1;simpa using Reps.get' r3 (by simpa using e)
theorem Reps.append:∀ {xs ys:List T} {vs ws:List V},Reps K H xs vs->Reps K H ys ws->Reps K H (xs++ys) (vs++ws)
 | [],_,_,_,h,h2=>by cases h;exact h2
 | _::_,_,_,_,⟨v,ws,r1,r2,r3⟩,h2=>by subst r1;exact⟨v,_,rfl,r2,Reps.append r3 h2⟩
theorem Reps.one {x:T} {v:V} (r:Rep K H x v):Reps K H [x] [v]:=⟨v,[],rfl,r,rfl⟩
theorem Reps.set {x:T} {v:V} (r:Rep K H x v):∀ {xs:List T} {vs:List V} (i:Nat),Reps K H xs vs->Reps K H (xs.set i x) (vs.set i v)
 | [],_,_,e=>by cases e;rfl
 | _::_,_,0,⟨_,ws,r1,r2,r3⟩=>by subst r1;exact⟨v,ws,rfl,r,r3⟩
 | _::_,_,i+1,⟨u,ws,r1,r2,r3⟩=>by subst r1;exact⟨u,_,rfl,r2,Reps.set r i r3⟩
theorem Reps.take:∀ {xs:List T} {vs:List V} (n:Nat),Reps K H xs vs->Reps K H (xs.take n) (vs.take n)
 | _,_,0,_=>by simp[Reps]
 | [],_,_+1,h=>by cases h;simp[Reps]
 | _::_,_,n+1,⟨u,ws,r1,r2,r3⟩=>by subst r1;exact⟨u,_,rfl,r2,Reps.take n r3⟩
theorem Reps.drop:∀ {xs:List T} {vs:List V} (n:Nat),Reps K H xs vs->Reps K H (xs.drop n) (vs.drop n)
 | _,_,0,h=>h
 | [],_,_+1,h=>by cases h;simp[Reps]
 | _::_,_,n+1,⟨u,ws,r1,r2,r3⟩=>by subst r1;exact Reps.drop n r3
theorem Reps.rep {xs:List T} {vs:List V} (r:Reps K H xs vs):∀n:Nat,Reps K H (List.replicate n xs).flatten (List.replicate n vs).flatten
 | 0=>by simp[Reps]
 | n+1=>by simpa[lK6] using r.append (Reps.rep r n)
theorem Reps.atI {xs:List T} {vs:List V} {i:Int} {x:T} (r:Reps K H xs vs) (h:atI xs i=some x):∃v,atI vs i=some v/\Rep K H x v:=by
 unfold L2.atI at h ⊢
 rw[<-r.length]
 cases e:ixN xs.length i with
 | none=>rw[e] at h;cases h
 | some j=>rw[e] at h;exact r.get h
end
inductive GO where
 | lst (xs:List T) | dct (kvs:List (TKey×T)) | dck (kvs:List (Key×T)) | fdc (kvs:List (TKey×T)) | ins (cn:Str) (fs:List (Str×T))
abbrev Gp:=Addr->Option GO
def gup (G:Gp) (a:Addr) (o:GO):Gp:=fun b=>if b=a then some o else G b
theorem jJg {G:Gp} {a:Addr} {o:GO}:gup G a o a=some o:=by simp[gup]
theorem jJm {G:Gp} {a b:Addr} {o:GO} (h:b≠a):gup G a o b=G b:=by simp[gup,h]
theorem kJn {G:Gp} {a:Addr} {o o':GO}:gup (gup G a o) a o'=gup G a o':=by funext b;by_cases h:b=a<;>simp[gup,h]
def asL:Option GO->Option (List T)
 | some (.lst xs)=>some xs
 | _=>none
def seqT (G:Gp):T->Option (List T)
 | .tup xs=>some xs
 | .scr xs=>some xs
 | .ref a=>asL (G a)
 | _=>none
def PKV {κ:Type} (K:PySem.W.Frag) (H:Hp):List (κ×T)->List (κ×V)->Prop:=Paired fun p q=>p.1=q.1/\Rep K H p.2 q.2
noncomputable def GOk (K:PySem.W.Frag) (H:Hp) (a:Addr):GO->Prop
 | .lst xs=>∃vs,H a=some (.lst vs)/\Reps K H xs vs
 | .dct kvs=>∃ws,H a=some (.dT ws)/\PKV K H kvs ws
 | .dck kvs=>∃ws,H a=some (.dK ws)/\PKV K H kvs ws
 | .fdc kvs=>∃ob ws,H a=some (.frz ob (.dT ws))/\PKV K H kvs ws
 | .ins cn fs=>∃C dx ws,H a=some (.ins C dx ws)/\PySem.W.nsIn K mainGlobals cn=some (some (.ref C))/\PKV K H fs ws
def GRel (K:PySem.W.Frag) (H:Hp) (G:Gp):Prop:=∀a o,G a=some o->GOk K H a o
section
variable {K:PySem.W.Frag} {H H':Hp} {G:Gp} {a:Addr}
theorem PKV.mono {κ:Type} {kvs:List (κ×T)} {ws:List (κ×V)} (e:Ext H H') (h:PKV K H kvs ws):PKV K H' kvs ws:=Paired.mapP h fun _ _ z=>⟨z.1,Rep.mono e _ z.2⟩
theorem GOk.move {o:GO} (h:GOk K H a o) (e:Ext H H') (ha:H' a=H a):GOk K H' a o:=by
 cases o with
 | lst xs=>obtain⟨vs,h1,h2⟩:=h;exact⟨vs,ha.trans h1,Reps.mono e _ h2⟩
 | dct kvs=>obtain⟨vs,h1,h2⟩:=h;exact⟨vs,ha.trans h1,h2.mono e⟩
 | dck kvs=>obtain⟨vs,h1,h2⟩:=h;exact⟨vs,ha.trans h1,h2.mono e⟩
 | fdc kvs=>obtain⟨ob,vs,h1,h2⟩:=h;exact⟨ob,vs,ha.trans h1,h2.mono e⟩
 | ins cn fs=>obtain⟨C,dx,ws,h1,h2,h3⟩:=h;exact⟨C,dx,ws,ha.trans h1,h2,h3.mono e⟩
theorem GOk.some {o:GO} (h:GOk K H a o):H a≠none:=by
 cases o with
 | lst xs=>obtain⟨vs,h1,h2⟩:=h;rw[h1];simp
 | dct kvs=>obtain⟨vs,h1,h2⟩:=h;rw[h1];simp
 | dck kvs=>obtain⟨vs,h1,h2⟩:=h;rw[h1];simp
 | fdc kvs=>obtain⟨ob,vs,h1,h2⟩:=h;rw[h1];simp
 | ins cn fs=>obtain⟨C,dx,ws,h1,h2,h3⟩:=h;rw[h1];simp
theorem GRel.fresh (g:GRel K H G) (h:H a=none):G a=none:=by
 cases e:G a with
 | none=>rfl
 | some o=>exact absurd h (g a o e).some
def Soft (o:Option HO):Prop:=o=none\/(∃xs,o=some (.lst xs))\/(∃kvs,o=some (.dK kvs))\/(∃kvs,o=some (.dT kvs))\/∃C dx fs,o=some (.ins C dx fs)
theorem Ext.upd {o:HO} (h:Soft (H a)):Ext H (L2.upd H a o):=by
 refine⟨fun b xs e=> ?_,fun b ob u e=> ?_⟩
 ·rw[jJ5];exact e
  rintro rfl;rw[e] at h;rcases h with h | ⟨_,h⟩ | ⟨_,h⟩ | ⟨_,h⟩ | ⟨_,_,_,h⟩<;>cases h
 ·rw[jJ5];exact e
  rintro rfl;rw[e] at h;rcases h with h | ⟨_,h⟩ | ⟨_,h⟩ | ⟨_,h⟩ | ⟨_,_,_,h⟩<;>cases h
theorem GRel.upd {o:HO} {go:GO} (g:GRel K H G) (h:Soft (H a)) (n:GOk K (L2.upd H a o) a go):GRel K (L2.upd H a o) (gup G a go):=by
 intro b u e
 by_cases hb:b=a
 ·subst hb;rw[jJg] at e;cases e;exact n
 ·rw[jJm hb] at e;exact (g b u e).move (Ext.upd h) (jJ5 hb)
theorem Soft.none (h:H a=none):Soft (H a):= .inl h
theorem Soft.lst {xs:List V} (h:H a=some (.lst xs)):Soft (H a):= .inr (.inl ⟨xs,h⟩)
theorem Soft.dT {xs:List (TKey×V)} (h:H a=some (.dT xs)):Soft (H a):= .inr (.inr (.inr (.inl ⟨xs,h⟩)))
theorem Soft.dK {xs:List (Key×V)} (h:H a=some (.dK xs)):Soft (H a):= .inr (.inr (.inl ⟨xs,h⟩))
theorem Soft.ins {C dx:Addr} {fs:List (Str×V)} (h:H a=some (.ins C dx fs)):Soft (H a):= .inr (.inr (.inr (.inr ⟨C,dx,fs,h⟩)))
theorem GRel.tupNew {vs:List V} (g:GRel K H G) (h:H a=Option.none):GRel K (L2.upd H a (.tup vs)) G:=by
 intro b u e
 have hb:b≠a:=by rintro rfl;exact (g b u e).some h
 exact (g b u e).move (Ext.upd (.none h)) (jJ5 hb)
theorem Rep.tupNew {xs:List T} {vs:List V} (r:Reps K H xs vs) (h:H a=Option.none):Rep K (L2.upd H a (.tup vs)) (.tup xs) (.ref a):=
 ⟨a,vs,rfl,jKt,Reps.mono (Ext.upd (.none h)) _ r⟩
theorem GRel.lstNew {xs:List T} {vs:List V} (g:GRel K H G) (r:Reps K H xs vs) (h:Soft (H a)):GRel K (L2.upd H a (.lst vs)) (gup G a (.lst xs)):=
 g.upd h ⟨vs,jKt,Reps.mono (Ext.upd h) _ r⟩
theorem GRel.lst {xs:List T} (g:GRel K H G) (h:G a=some (.lst xs)):∃vs,H a=some (.lst vs)/\Reps K H xs vs:=g a _ h
end
abbrev St3:=List (Option T)
def SRel (K:PySem.W.Frag) (H:Hp) (σ:L2.St) (τ:St3):Prop:=σ.length=τ.length/\∀(i:Nat) (t:T),τ[i]? =some (some t)->∃v,σ[i]? =some (some v)/\Rep K H t v
theorem SRel.mono {K:PySem.W.Frag} {H H':Hp} {σ:L2.St} {τ:St3} (e:Ext H H') (h:SRel K H σ τ):SRel K H' σ τ:=
 ⟨h.1,fun i t q=>let ⟨v,h1,h2⟩:=h.2 i t q;⟨v,h1,Rep.mono e _ h2⟩⟩
theorem SRel.set {K:PySem.W.Frag} {H:Hp} {σ:L2.St} {τ:St3} {t:T} {v:V} (h:SRel K H σ τ) (i:Nat) (r:Rep K H t v):SRel K H (σ.set i (some v)) (τ.set i (some t)):=by
 refine⟨by simp[h.1],fun j u q=> ?_⟩
 by_cases hj:i=j
 ·subst hj
  have hl:i<τ.length:=by
   rcases lKk i τ.length with z | z
   ·exact z
   ·rw[lJ4 (by simpa using z)] at q;cases q
  rw[lKw hl] at q
  cases q
  exact⟨v,by rw[lKw (by rw[h.1];exact hl)],r⟩
 ·rw[lKl hj] at q ⊢
  exact h.2 j u q
def Inv3 (X:Cx) (pins:List (Addr×Obj)) (τ:St3) (G:Gp) (H:Hp) (s:Shared):Prop:=∃ σ,Inv X pins σ H s/\SRel X.K H σ τ/\GRel X.K H G
abbrev VK3:=T->Gp->Prop
abbrev TE3:=St3->Gp->VK3->Prop
abbrev TT3:=St3->Gp->(Bool->Gp->Prop)->Prop
abbrev TA3:=St3->Gp->(List T->Gp->Prop)->Prop
structure Ends3 where
 nx:St3->Gp->Prop
 rt:VK3
 bk:St3->Gp->Prop:=fun _ _=>False
 ct:St3->Gp->Prop:=fun _ _=>False
abbrev TS3:=Ends3->St3->Gp->Prop
def RU (K:PySem.W.Frag) (H:Hp) (t:T) (u:Value):Prop:=∃v,Rep K H t v/\RelV v u
def RUs (K:PySem.W.Frag) (H:Hp) (ts:List T) (us:List Value):Prop:=∃vs,Reps K H ts vs/\Vals vs us
theorem RU.mono {K:PySem.W.Frag} {H H':Hp} {t:T} {u:Value} (e:Ext H H') (h:RU K H t u):RU K H' t u:=let ⟨v,h1,h2⟩:=h;⟨v,Rep.mono e _ h1,h2⟩
def EP3 (X:Cx) (pins:List (Addr×Obj)) (τ:St3) (H:Hp) (Q:VK3) (u:Value) (s':Shared):Prop:=∃t G' H',Ext H H'/\Inv3 X pins τ G' H' s'/\RU X.K H' t u/\Q t G'
def TP3 (X:Cx) (pins:List (Addr×Obj)) (τ:St3) (H:Hp) (Q:Bool->Gp->Prop) (b:Bool) (s':Shared):Prop:=∃G' H',Ext H H'/\Inv3 X pins τ G' H' s'/\Q b G'
def AP3 (X:Cx) (pins:List (Addr×Obj)) (τ:St3) (H:Hp) (Q:List T->Gp->Prop) (us:List Value) (s':Shared):Prop:=∃ts G' H',Ext H H'/\Inv3 X pins τ G' H' s'/\RUs X.K H' ts us/\Q ts G'
def SP3 (X:Cx) (pins:List (Addr×Obj)) (H:Hp) (D:Ends3) (f:Flow) (s':Shared):Prop:=
 match f with
 | .next=>∃ τ' G' H',Ext H H'/\Inv3 X pins τ' G' H' s'/\D.nx τ' G'
 | .brk=>∃ τ' G' H',Ext H H'/\Inv3 X pins τ' G' H' s'/\D.bk τ' G'
 | .cont=>∃ τ' G' H',Ext H H'/\Inv3 X pins τ' G' H' s'/\D.ct τ' G'
 | .ret u=>∃t τ' G' H',Ext H H'/\Inv3 X pins τ' G' H' s'/\RU X.K H' t u/\D.rt t G'
def PE3 (X:Cx) (e:Expr) (t:TE3):Prop:=∀(pins:List (Addr×Obj)) (s:Shared) (τ:St3) (G:Gp) (H:Hp) (Q:VK3),Inv3 X pins τ G H s->t τ G Q->wpAny (model X.prog X.w) X.A (eval e X.env) (EP3 X pins τ H Q) X.xe s
def PT3 (X:Cx) (e:Expr) (t:TT3):Prop:=∀(pins:List (Addr×Obj)) (s:Shared) (τ:St3) (G:Gp) (H:Hp) (Q:Bool->Gp->Prop),Inv3 X pins τ G H s->t τ G Q->wpAny (model X.prog X.w) X.A (isTrue e X.env (eval e X.env)) (TP3 X pins τ H Q) X.xe s
def PW3 (X:Cx) (e:Expr) (t:TT3):Prop:=∀(whole:Sem Value) (pins:List (Addr×Obj)) (s:Shared) (τ:St3) (G:Gp) (H:Hp) (Q:Bool->Gp->Prop),Inv3 X pins τ G H s->t τ G Q->wpAny (model X.prog X.w) X.A (isTrue e X.env whole) (TP3 X pins τ H Q) X.xe s
theorem PW3.pt {X:Cx} {e:Expr} {t:TT3} (h:PW3 X e t):PT3 X e t:=h _
def PA3 (X:Cx) (es:List Expr) (t:TA3):Prop:=∀(pos:Pos) (pins:List (Addr×Obj)) (s:Shared) (τ:St3) (G:Gp) (H:Hp) (Q:List T->Gp->Prop),Inv3 X pins τ G H s->t τ G Q->wpAny (model X.prog X.w) X.A (spliced (backTo pos (starEach es X.env))) (AP3 X pins τ H Q) X.xe s
def PS3 (X:Cx) (st:Stmt) (t:TS3):Prop:=∀(pins:List (Addr×Obj)) (s:Shared) (τ:St3) (G:Gp) (H:Hp) (D:Ends3),Inv3 X pins τ G H s->t D τ G->wpAny (model X.prog X.w) X.A (exec st X.env) (SP3 X pins H D) X.xe s
def PSs3 (X:Cx) (st:List Stmt) (t:TS3):Prop:=∀(pins:List (Addr×Obj)) (s:Shared) (τ:St3) (G:Gp) (H:Hp) (D:Ends3),Inv3 X pins τ G H s->t D τ G->wpAny (model X.prog X.w) X.A (execs st X.env) (SP3 X pins H D) X.xe s
section
variable {X:Cx} {pins:List (Addr×Obj)} {τ:St3} {G:Gp} {H H1:Hp} {s:Shared} {C:Prop}
theorem EP3.el {Q:VK3} {u:Value} (h:EP3 X pins τ H Q u s) (k:∀t G' H',Ext H H'->Inv3 X pins τ G' H' s->RU X.K H' t u->Q t G'->C):C:=let ⟨t,G',H',a,b,c,d⟩:=h;k t G' H' a b c d
theorem AP3.el {Q:List T->Gp->Prop} {u:List Value} (h:AP3 X pins τ H Q u s) (k:∀t G' H',Ext H H'->Inv3 X pins τ G' H' s->RUs X.K H' t u->Q t G'->C):C:=let ⟨t,G',H',a,b,c,d⟩:=h;k t G' H' a b c d
theorem TP3.el {Q:Bool->Gp->Prop} {u:Bool} (h:TP3 X pins τ H Q u s) (k:∀G' H',Ext H H'->Inv3 X pins τ G' H' s->Q u G'->C):C:=let ⟨G',H',a,b,c⟩:=h;k G' H' a b c
theorem Inv3.el (h:Inv3 X pins τ G H s) (k:∀ σ,Inv X pins σ H s->SRel X.K H σ τ->GRel X.K H G->C):C:=let ⟨σ,a,b,c⟩:=h;k σ a b c
theorem RU.el {K:PySem.W.Frag} {t:T} {u:Value} (h:RU K H t u) (k:∀v,Rep K H t v->RelV v u->C):C:=let ⟨v,a,b⟩:=h;k v a b
theorem RUs.el {K:PySem.W.Frag} {t:List T} {u:List Value} (h:RUs K H t u) (k:∀v,Reps K H t v->Vals v u->C):C:=let ⟨v,a,b⟩:=h;k v a b
end
section
variable {X:Cx} {pins:List (Addr×Obj)} {τ:St3} {G:Gp} {H H1:Hp} {s:Shared}
theorem EP3.ext {Q:VK3} {u:Value} (e:Ext H H1) (h:EP3 X pins τ H1 Q u s):EP3 X pins τ H Q u s:=let ⟨t,G',H',a,b⟩:=h;⟨t,G',H',e.trans a,b⟩
theorem TP3.ext {Q:Bool->Gp->Prop} {u:Bool} (e:Ext H H1) (h:TP3 X pins τ H1 Q u s):TP3 X pins τ H Q u s:=let ⟨G',H',a,b⟩:=h;⟨G',H',e.trans a,b⟩
theorem SP3.ext {D:Ends3} {f:Flow} (e:Ext H H1) (h:SP3 X pins H1 D f s):SP3 X pins H D f s:=by
 cases f with
 | next=>obtain⟨τ',G',H',a,b⟩:=h;exact⟨τ',G',H',e.trans a,b⟩
 | brk=>obtain⟨τ',G',H',a,b⟩:=h;exact⟨τ',G',H',e.trans a,b⟩
 | cont=>obtain⟨τ',G',H',a,b⟩:=h;exact⟨τ',G',H',e.trans a,b⟩
 | ret u=>obtain⟨t,τ',G',H',a,b⟩:=h;exact⟨t,τ',G',H',e.trans a,b⟩
theorem bin3 {a b:Expr} {ta tb:TE3} (ha:PE3 X a ta) (hb:PE3 X b tb) {R:T->T->Gp->Prop} (I:Inv3 X pins τ G H s) (h:ta τ G fun x G1=>tb τ G1 fun y G2=>R x y G2)
  {α:Type} {Q:α->Shared->Prop} {f:Value->Value->Sem α}
  (hf:∀v u s2 x y G2 H2,Ext H H2->Inv3 X pins τ G2 H2 s2->RU X.K H2 x v->RU X.K H2 y u->R x y G2->wpAny (model X.prog X.w) X.A (f v u) Q X.xe s2):
  wpAny (model X.prog X.w) X.A (eval a X.env) (fun v s₁=>wpAny (model X.prog X.w) X.A (eval b X.env) (fun u s₂=>wpAny (model X.prog X.w) X.A (f v u) Q X.xe s₂) X.xe s₁) X.xe s:=by
 refine thn (ha pins s τ G H _ I h) fun v s1 w_=>w_.el fun x G1 H1 e1 I1 r1 q1=> ?_
 refine thn (hb pins s1 τ G1 H1 _ I1 q1) fun u s2 w_=>w_.el fun y G2 H2 e2 I2 r2 q2=> ?_
 exact hf v u s2 x y G2 H2 (e1.trans e2) I2 (r1.mono e2) r2 q2
def up (K:PySem.W.Frag) (H:Hp) (Q:VK3):VK:=fun v H'=>∃t G',Ext H H'/\GRel K H' G'/\Rep K H' t v/\Q t G'
theorem jVf {σ:L2.St} {Q:VK3} {u:Value} (hs:SRel X.K H σ τ) (h:EP X pins σ (up X.K H Q) u s):EP3 X pins τ H Q u s:=
 let ⟨v,H',I',r',t,G',e,g',rt,q⟩:=h
 ⟨t,G',H',e,⟨σ,I',hs.mono e,g'⟩,⟨v,rt,r'⟩,q⟩
end
section
variable {X:Cx} {pos:Pos}
def tVar (i:Nat):TE3:=fun τ G Q=>∃t,τ[i]? =some (some t)/\Q t G
def tC (t:T):TE3:=fun _ G Q=>Q t G
theorem jJb (i:Nat) {x:Str} (hN:X.N[i]? =some x:=by rfl) (hv:Vis X.env.scope x:=by first | exact Or.inl rfl | exact Or.inr (Or.inl rfl) | exact Or.inr (Or.inr rfl))
  (hd:(x == ("__debug__":Str))=false:=by decide) (hcd:(x == ("__classdict__":Str))=false:=by decide):PE3 X (.Name x pos) (tVar i):=by
 rintro pins s τ G H Q ⟨σ,I,hs,hg⟩ ⟨t,e,q⟩
 obtain⟨v,ev,rv⟩:=hs.2 i t e
 exact thn (pe_var hN hv hd hcd pins s σ H (up X.K H Q) I ⟨v,ev,t,G,.refl H,hg,rv,q⟩) fun u s' h=>jVf hs h
theorem jJj {i j}:PE3 X (.Constant (.int i) j pos) (tC (.int i)):=fun pins s τ G H Q ⟨σ,I,hs,hg⟩ q=>
 thn (pe_int pins s σ H (up X.K H Q) I ⟨.int i,G,.refl H,hg,rfl,q⟩) fun u s' h=>jVf hs h
theorem e_bl {b j}:PE3 X (.Constant (.bool b) j pos) (tC (.bl b)):=fun pins s τ G H Q ⟨σ,I,hs,hg⟩ q=>
 thn (pe_bl pins s σ H (up X.K H Q) I ⟨.bl b,G,.refl H,hg,rfl,q⟩) fun u s' h=>jVf hs h
theorem kJq {j}:PE3 X (.Constant .none j pos) (tC .non):=fun pins s τ G H Q ⟨σ,I,hs,hg⟩ q=>
 thn (pe_non pins s σ H (up X.K H Q) I ⟨.non,G,.refl H,hg,rfl,q⟩) fun u s' h=>jVf hs h
end
abbrev R3:=T->T->Gp->VK3->Prop
def Op3 (X:Cx) (f:Value->Value->Sem Value) (r:R3):Prop:=
 ∀(pins:List (Addr×Obj)) (s:Shared) (τ:St3) (G:Gp) (H:Hp) (x y:T) (v u:Value) (Q:VK3),Inv3 X pins τ G H s->RU X.K H x v->RU X.K H y u->r x y G Q->wpAny (model X.prog X.w) X.A (f v u) (EP3 X pins τ H Q) X.xe s
def Un3 (X:Cx) (f:Value->Sem Value) (r:T->Gp->VK3->Prop):Prop:=
 ∀(pins:List (Addr×Obj)) (s:Shared) (τ:St3) (G:Gp) (H:Hp) (x:T) (v:Value) (Q:VK3),Inv3 X pins τ G H s->RU X.K H x v->r x G Q->wpAny (model X.prog X.w) X.A (f v) (EP3 X pins τ H Q) X.xe s
def Call3 (X:Cx) (f:Value) (r:List T->Gp->VK3->Prop):Prop:=
 ∀(pins:List (Addr×Obj)) (s:Shared) (τ:St3) (G:Gp) (H:Hp) (xs:List T) (us:List Value) (Q:VK3),Inv3 X pins τ G H s->RUs X.K H xs us->r xs G Q->wpAny (model X.prog X.w) X.A (call f us) (EP3 X pins τ H Q) X.xe s
def Mt3 (X:Cx) (id:String) (r:T->List T->Gp->VK3->Prop):Prop:=
 ∀(pins:List (Addr×Obj)) (s:Shared) (τ:St3) (G:Gp) (H:Hp) (x:T) (xs:List T) (v:Value) (us:List Value) (Q:VK3),Inv3 X pins τ G H s->RU X.K H x v->RUs X.K H xs us->r x xs G Q->
  wpAny (model X.prog X.w) X.A (call (.builtin id) (v::us)) (EP3 X pins τ H Q) X.xe s
def Ix3 (X:Cx) (r:R3):Prop:=
 ∀(value slice:Expr) (pins:List (Addr×Obj)) (s:Shared) (τ:St3) (G:Gp) (H:Hp) (x y:T) (v u:Value) (Q:VK3),Inv3 X pins τ G H s->RU X.K H x v->RU X.K H y u->r x y G Q->
  subscripted slice false v u=operate [v,u] (getItem v u)->wpAny (model X.prog X.w) X.A (subscriptTail value slice v u) (EP3 X pins τ H Q) X.xe s
def Set3 (X:Cx) (r:T->T->T->Gp->(Gp->Prop)->Prop):Prop:=
 ∀(pins:List (Addr×Obj)) (s:Shared) (τ:St3) (G:Gp) (H:Hp) (o i v:T) (ov iv u:Value) (Q:Gp->Prop),Inv3 X pins τ G H s->RU X.K H o ov->RU X.K H i iv->RU X.K H v u->r o i v G Q->
  wpAny (model X.prog X.w) X.A (setItem ov iv u) (fun _ s'=>∃G' H',Ext H H'/\Inv3 X pins τ G' H' s'/\Q G') X.xe s
def Tru3 (X:Cx) (r:T->Gp->(Bool->Gp->Prop)->Prop):Prop:=
 ∀(pins:List (Addr×Obj)) (s:Shared) (τ:St3) (G:Gp) (H:Hp) (x:T) (v:Value) (Q:Bool->Gp->Prop),Inv3 X pins τ G H s->RU X.K H x v->r x G Q->wpAny (model X.prog X.w) X.A (truthy v) (TP3 X pins τ H Q) X.xe s
section
variable {X:Cx}
theorem Op3.of {f:Value->Value->Sem Value} {r:R2} {r3:R3} (h:OpR X f r)
  (hr:∀H G x y a b Q,GRel X.K H G->Rep X.K H x a->Rep X.K H y b->r3 x y G Q->r a b H (up X.K H Q)):Op3 X f r3:=by
 rintro pins s τ G H x y v u Q ⟨σ,I,hs,hg⟩ ⟨a,ra,rv⟩ ⟨b,rb,ru⟩ q
 exact thn (h pins s σ H a b v u _ I rv ru (hr H G x y a b Q hg ra rb q)) fun u s' h=>jVf hs h
theorem Un3.of {f:Value->Sem Value} {r:V->Hp->VK->Prop} {r3:T->Gp->VK3->Prop} (h:UnR X f r)
  (hr:∀H G x a Q,GRel X.K H G->Rep X.K H x a->r3 x G Q->r a H (up X.K H Q)):Un3 X f r3:=by
 rintro pins s τ G H x v Q ⟨σ,I,hs,hg⟩ ⟨a,ra,rv⟩ q
 exact thn (h pins s σ H a v _ I rv (hr H G x a Q hg ra q)) fun u s' h=>jVf hs h
theorem Call3.of {f:Value} {r:List V->Hp->VK->Prop} {r3:List T->Gp->VK3->Prop} (h:kVw X f r)
  (hr:∀H G xs as Q,GRel X.K H G->Reps X.K H xs as->r3 xs G Q->r as H (up X.K H Q)):Call3 X f r3:=by
 rintro pins s τ G H xs us Q ⟨σ,I,hs,hg⟩ ⟨as,ra,rv⟩ q
 exact thn (h pins s σ H as us _ I rv (hr H G xs as Q hg ra q)) fun u s' h=>jVf hs h
theorem Mt3.of {id:String} {r:V->List V->Hp->VK->Prop} {r3:T->List T->Gp->VK3->Prop} (h:MtR X id r)
  (hr:∀H G x xs a as Q,GRel X.K H G->Rep X.K H x a->Reps X.K H xs as->r3 x xs G Q->r a as H (up X.K H Q)):Mt3 X id r3:=by
 rintro pins s τ G H x xs v us Q ⟨σ,I,hs,hg⟩ ⟨a,ra,rv⟩ ⟨as,ras,rvs⟩ q
 exact thn (h pins s σ H a as v us _ I rv rvs (hr H G x xs a as Q hg ra ras q)) fun u s' h=>jVf hs h
theorem Ix3.of {r:R2} {r3:R3} (h:IxR X r)
  (hr:∀H G x y a b Q,GRel X.K H G->Rep X.K H x a->Rep X.K H y b->r3 x y G Q->r a b H (up X.K H Q)):Ix3 X r3:=by
 rintro value slice pins s τ G H x y v u Q ⟨σ,I,hs,hg⟩ ⟨a,ra,rv⟩ ⟨b,rb,ru⟩ q hh
 exact thn (h value slice pins s σ H a b v u _ I rv ru (hr H G x y a b Q hg ra rb q) hh) fun u s' h=>jVf hs h
theorem Set3.of {t:TSet} {r3:T->T->T->Gp->(Gp->Prop)->Prop} (h:PSet X t)
  (hr:∀H G o i v a b c Q,GRel X.K H G->Rep X.K H o a->Rep X.K H i b->Rep X.K H v c->r3 o i v G Q->t a b c H (fun H'=>∃G',Ext H H'/\GRel X.K H' G'/\Q G')):Set3 X r3:=by
 rintro pins s τ G H o i v ov iv u Q ⟨σ,I,hs,hg⟩ ⟨a,ra,rv⟩ ⟨b,rb,ru⟩ ⟨c,rc,rw'⟩ q
 exact thn (h pins s σ H a b c ov iv u _ I rv ru rw' (hr H G o i v a b c Q hg ra rb rc q)) fun _ s' ⟨H',I',G',e,g',q'⟩=>⟨G',H',e,⟨σ,I',hs.mono e,g'⟩,q'⟩
theorem Tru3.of {r:V->Hp->(Bool->Hp->Prop)->Prop} {r3:T->Gp->(Bool->Gp->Prop)->Prop} (h:TruR X r)
  (hr:∀H G x a Q,GRel X.K H G->Rep X.K H x a->r3 x G Q->r a H (fun b H'=>H'=H/\Q b G)):Tru3 X r3:=by
 rintro pins s τ G H x v Q ⟨σ,I,hs,hg⟩ ⟨a,ra,rv⟩ q
 exact thn (h pins s σ H a v _ I rv (hr H G x a Q hg ra q)) fun b s' ⟨H',I',e,q'⟩=>by
  subst e;exact⟨G,H',.refl _,⟨σ,I',hs,hg⟩,q'⟩
theorem Op3.or {f:Value->Value->Sem Value} {r r':R3} (h:Op3 X f r) (h':Op3 X f r'):Op3 X f (fun x y G Q=>r x y G Q\/r' x y G Q):=by
 intro pins s τ G H x y v u Q I rx ry q
 rcases q with q | q
 ·exact h pins s τ G H x y v u Q I rx ry q
 ·exact h' pins s τ G H x y v u Q I rx ry q
def rI (C:Int->Int->Prop) (g:Int->Int->T):R3:=fun x y G Q=>∃i j,x= .int i/\y= .int j/\C i j/\Q (g i j) G
def rI0 (g:Int->Int->T):R3:=fun x y G Q=>∃i j,x= .int i/\y= .int j/\Q (g i j) G
theorem o_I {f:Value->Value->Sem Value} {C:Int->Int->Prop} {g:Int->Int->V} {g':Int->Int->T} (h:OpR X f (L2.rI C g)) (hg':∀K H i j,Rep K H (g' i j) (g i j)):Op3 X f (rI C g'):=
 Op3.of h fun H G x y a b Q hg ra rb ⟨i,j,ex,ey,c,q⟩=>by
  subst ex;subst ey
  cases (show a= .int i from ra);cases (show b= .int j from rb)
  exact⟨i,j,rfl,rfl,c,g' i j,G,.refl H,hg,hg' _ _ i j,q⟩
theorem o_I0 {f:Value->Value->Sem Value} {g:Int->Int->V} {g':Int->Int->T} (h:OpR X f (L2.rI0 g)) (hg':∀K H i j,Rep K H (g' i j) (g i j)):Op3 X f (rI0 g'):=
 Op3.of h fun H G x y a b Q hg ra rb ⟨i,j,ex,ey,q⟩=>by
  subst ex;subst ey
  cases (show a= .int i from ra);cases (show b= .int j from rb)
  exact⟨i,j,rfl,rfl,g' i j,G,.refl H,hg,hg' _ _ i j,q⟩
theorem o_add:Op3 X (binaryOp .Add) (rI0 fun i j=> .int (i+j)):=o_I0 op_add fun _ _ _ _=>rfl
theorem qJj:Op3 X (binaryOp .Sub) (rI0 fun i j=> .int (i-j)):=o_I0 op_sub fun _ _ _ _=>rfl
theorem o_mul:Op3 X (binaryOp .Mult) (rI CMul fun i j=> .int (i*j)):=o_I op_mul fun _ _ _ _=>rfl
theorem o_fdiv:Op3 X (binaryOp .FloorDiv) (rI CDiv fun i j=> .int (i / j)):=o_I uJx fun _ _ _ _=>rfl
theorem jYh:Op3 X (binaryOp .Mod) (rI (fun _ j=>0<j) fun i j=> .int (i%j)):=o_I op_mod fun _ _ _ _=>rfl
theorem o_pow:Op3 X (binaryOp .Pow) (rI CPow fun i j=> .int (i^j.toNat)):=o_I op_pow fun _ _ _ _=>rfl
theorem o_lt:Op3 X (compareOp .Lt) (rI0 fun i j=> .bl (decide (i<j))):=o_I0 op_lt fun _ _ _ _=>rfl
theorem o_le:Op3 X (compareOp .LtE) (rI0 fun i j=> .bl (decide (i<=j))):=o_I0 op_le fun _ _ _ _=>rfl
theorem o_gt:Op3 X (compareOp .Gt) (rI0 fun i j=> .bl (decide (j<i))):=o_I0 op_gt fun _ _ _ _=>rfl
theorem o_ge:Op3 X (compareOp .GtE) (rI0 fun i j=> .bl (decide (j<=i))):=o_I0 op_ge fun _ _ _ _=>rfl
def kU9:T->Bool
 | .non=>true
 | _=>false
theorem Rep.non_iff {K:PySem.W.Frag} {H:Hp} {x:T} {a:V} (r:Rep K H x a):decide (a= .non)=kU9 x:=by
 cases x with
 | non=>cases (show a= .non from r);rfl
 | bl b=>cases (show a= .bl b from r);rfl
 | int b=>cases (show a= .int b from r);rfl
 | str b=>cases (show a= .str b from r);rfl
 | ref b=>cases (show a= .ref b from r);rfl
 | ty b=>cases (show a= .ty b from r);rfl
 | tup b=>obtain⟨_,_,e,_⟩:=(show ∃c vs,a= .ref c/\_ from r);subst e;rfl
 | scr b=>obtain⟨_,_,e,_⟩:=(show ∃c vs,a= .ref c/\_ from r);subst e;rfl
theorem o_isN:Op3 X (compareOp .Is) (fun x y G Q=>y= .non/\Q (.bl (kU9 x)) G):=
 Op3.of op_isN fun H G x y a b Q hg ra rb ⟨ey,q⟩=>by
  subst ey;cases (show b= .non from rb)
  exact⟨rfl,.bl (kU9 x),G,.refl H,hg,by rw[ra.non_iff];rfl,q⟩
theorem qZq:Op3 X (compareOp .IsNot) (fun x y G Q=>y= .non/\Q (.bl (!kU9 x)) G):=
 Op3.of uJw fun H G x y a b Q hg ra rb ⟨ey,q⟩=>by
  subst ey;cases (show b= .non from rb)
  exact⟨rfl,.bl (!kU9 x),G,.refl H,hg,by rw[ra.non_iff];rfl,q⟩
end
def tOp (r:R3) (ta tb:TE3):TE3:=fun τ G Q=>ta τ G fun x G1=>tb τ G1 fun y G2=>r x y G2 Q
def tUn (r:T->Gp->VK3->Prop) (ta:TE3):TE3:=fun τ G Q=>ta τ G fun x G1=>r x G1 Q
def jJ1 (t:TE3):TT3:=fun τ G Q=>t τ G fun x G1=>∃c,x= .bl c/\Q c G1
def tAnd (t u:TT3):TT3:=fun τ G Q=>t τ G fun c G1=>if c=true then u τ G1 Q else Q false G1
def tOr (t u:TT3):TT3:=fun τ G Q=>t τ G fun c G1=>if c=true then Q true G1 else u τ G1 Q
def tNot (t:TT3):TT3:=fun τ G Q=>t τ G fun c G1=>Q (!c) G1
def tAndV (ta tb:TE3):TE3:=fun τ G Q=>ta τ G fun x G1=>∃c,x= .bl c/\if c=true then tb τ G1 Q else Q (.bl false) G1
def tOrV (ta tb:TE3):TE3:=fun τ G Q=>ta τ G fun x G1=>∃c,x= .bl c/\if c=true then Q (.bl true) G1 else tb τ G1 Q
def tNotV (ta:TE3):TE3:=fun τ G Q=>ta τ G fun x G1=>∃c,x= .bl c/\Q (.bl (!c)) G1
def tIf (t:TT3) (ta tb:TE3):TE3:=fun τ G Q=>t τ G fun c G1=>if c=true then ta τ G1 Q else tb τ G1 Q
noncomputable def kUj (r r':R3) (ta tb tc:TE3):TE3:=fun τ G Q=>ta τ G fun x G1=>tb τ G1 fun y G2=>r x y G2 fun z G3=>∃k,z= .bl k/\if k=true then tc τ G3 (fun w G4=>r' y w G4 Q) else Q (.bl false) G3
def tNil:TA3:=fun _ G Q=>Q [] G
def jJc (ta:TE3) (tr:TA3):TA3:=fun τ G Q=>ta τ G fun x G1=>tr τ G1 fun xs G2=>Q (x::xs) G2
def tTup (t:TA3):TE3:=fun τ G Q=>t τ G fun xs G1=>xs.length<=sizeLine/\Q (.tup xs) G1
def tLst (t:TA3):TE3:=fun τ G Q=>t τ G fun xs G1=>xs.length<=sizeLine/\∀p,G1 p=none->Q (.ref p) (gup G1 p (.lst xs))
def tCB (r:List T->Gp->VK3->Prop) (t:TA3):TE3:=fun τ G Q=>t τ G fun xs G1=>r xs G1 Q
section
variable {X:Cx} {a b c:Expr} {ta tb tc:TE3} {tA tB:TT3} {pos:Pos} {rest es:List Expr} {t:TA3}
theorem e_op {op:Operator} {r:R3} (ho:Op3 X (binaryOp op) r) (ha:PE3 X a ta) (hb:PE3 X b tb):PE3 X (.BinOp a op b pos) (tOp r ta tb):=by
 intro pins s τ G H Q I h
 exact wpAny_BinOp (bin3 ha hb I h fun v u s2 x y G2 H2 e I2 rx ry q=>thn (ho pins s2 τ G2 H2 x y v u Q I2 rx ry q) fun _ _ z=>z.ext e)
theorem e_un {op:UnaryOp} {r:T->Gp->VK3->Prop} (ho:Un3 X (unaryOp op) r) (ha:PE3 X a ta):PE3 X (.UnaryOp op a pos) (tUn r ta):=by
 intro pins s τ G H Q I h
 exact UnaryOp_ (thn (ha pins s τ G H _ I h) fun v s1 w_=>w_.el fun x G1 H1 e I1 r1 q1=>thn (ho pins s1 τ G1 H1 x v Q I1 r1 q1) fun _ _ z=>z.ext e)
theorem uK1 {op:CmpOp} {r:R3} (ho:Op3 X (compareOp op) r) (ha:PE3 X a ta) (hb:PE3 X b tb) (hm:behindInMarks op b=false):PE3 X (.Compare a [op] [b] pos) (tOp r ta tb):=by
 intro pins s τ G H Q I h
 exact wpAny_Compare1 (bin3 ha hb I h fun v u s2 x y G2 H2 e I2 rx ry q=>thn (ho pins s2 τ G2 H2 x y v u Q I2 rx ry q) fun _ _ z=>z.ext e) hm
theorem jKv {op:CmpOp} {r:R3} (ho:Op3 X (compareOp op) r) (ha:PE3 X a ta) (hb:PE3 X b tb) (hm:behindInMarks op b=false):PT3 X (.Compare a [op] [b] pos) (jJ1 (tOp r ta tb)):=by
 intro pins s τ G H Q I h
 refine wpAny_isTrue_Compare1 (bin3 ha hb I h fun v u s2 x y G2 H2 e I2 rx ry q=>thn (ho pins s2 τ G2 H2 x y v u _ I2 rx ry q) fun w' s3 w_=>w_.el fun z G3 H3 e3 I3 r3 ⟨k,ez,q3⟩=> ?_) hm
 subst ez
 obtain⟨v',rv',ru'⟩:=r3
 cases (show v'= .bl k from rv');cases ru'
 exact lV3 ⟨G3,H3,e.trans e3,I3,q3⟩
theorem t_val {e:Expr} {t:TE3} (h:PE3 X e t) (he:∀whole,isTrue e X.env whole=(do let v <-whole;standAt e.pos;holding [v] (truthy v)):=by intro _;rfl):PT3 X e (jJ1 t):=by
 intro pins s τ G H Q I hw
 refine isTrue_plain (thn (h pins s τ G H _ I hw) fun v s1 w_=>w_.el fun x G1 H1 e1 I1 r1 ⟨k,ez,q1⟩=> ?_) (he _)
 subst ez
 obtain⟨v',rv',ru'⟩:=r1
 cases (show v'= .bl k from rv');cases ru'
 exact lV3 ⟨G1,H1,e1,I1,q1⟩
def tTru (r:T->Gp->(Bool->Gp->Prop)->Prop) (t:TE3):TT3:=fun τ G Q=>t τ G fun x G1=>r x G1 Q
theorem qZ9 {e:Expr} {t:TE3} {r:T->Gp->(Bool->Gp->Prop)->Prop} (hr:Tru3 X r) (h:PE3 X e t) (he:∀whole,isTrue e X.env whole=(do let v <-whole;standAt e.pos;holding [v] (truthy v)):=by intro _;rfl):PT3 X e (tTru r t):=by
 intro pins s τ G H Q I hw
 exact isTrue_plain (thn (h pins s τ G H _ I hw) fun v s1 w_=>w_.el fun x G1 H1 e1 I1 r1 q1=>thn (hr pins s1 τ G1 H1 x v Q I1 r1 q1) fun _ _ z=>z.ext e1) (he _)
theorem w_and1 (ha:PT3 X a tA):PW3 X (.BoolOp .And [a] pos) tA:=by
 intro wh pins s τ G H Q I h
 refine isTrue_and (thn (ha pins s τ G H Q I h) fun c s1 e=> ?_)
 cases c with
 | true=>exact isTrue_and_nil e
 | false=>exact e
theorem w_or1 (ha:PT3 X a tA):PW3 X (.BoolOp .Or [a] pos) tA:=by
 intro wh pins s τ G H Q I h
 refine isTrue_or (thn (ha pins s τ G H Q I h) fun c s1 e=> ?_)
 cases c with
 | false=>exact isTrue_or_nil e
 | true=>exact e
theorem w_and (ha:PT3 X a tA) (hb:PW3 X (.BoolOp .And (b::rest) pos) tB):PW3 X (.BoolOp .And (a::b::rest) pos) (tAnd tA tB):=by
 intro wh pins s τ G H Q I h
 refine isTrue_and (thn (ha pins s τ G H _ I h) fun c s1 w_=>w_.el fun G1 H1 e1 I1 q1=> ?_)
 cases c with
 | true=>exact thn (hb wh pins s1 τ G1 H1 Q I1 q1) fun _ _ z=>z.ext e1
 | false=>exact⟨G1,H1,e1,I1,q1⟩
theorem w_or (ha:PT3 X a tA) (hb:PW3 X (.BoolOp .Or (b::rest) pos) tB):PW3 X (.BoolOp .Or (a::b::rest) pos) (tOr tA tB):=by
 intro wh pins s τ G H Q I h
 refine isTrue_or (thn (ha pins s τ G H _ I h) fun c s1 w_=>w_.el fun G1 H1 e1 I1 q1=> ?_)
 cases c with
 | true=>exact⟨G1,H1,e1,I1,q1⟩
 | false=>exact thn (hb wh pins s1 τ G1 H1 Q I1 q1) fun _ _ z=>z.ext e1
theorem qV0 (ha:PT3 X a tA):PT3 X (.UnaryOp .Not a pos) (tNot tA):=by
 intro pins s τ G H Q I h
 exact isTrue_not (thn (ha pins s τ G H (fun c G1=>Q (!c) G1) I h) fun c s1 w_=>w_.el fun G1 H1 e1 I1 q1=>⟨G1,H1,e1,I1,q1⟩)
theorem kJs (hc:PT3 X c tA) (ha:PE3 X a ta) (hb:PE3 X b tb):PE3 X (.IfExp c a b pos) (tIf tA ta tb):=by
 intro pins s τ G H Q I h
 refine IfExp_ (thn (hc pins s τ G H _ I h) fun k s1 w_=>w_.el fun G1 H1 e1 I1 q1=> ?_)
 cases k with
 | true=>exact thn (ha pins s1 τ G1 H1 Q I1 q1) fun _ _ z=>z.ext e1
 | false=>exact thn (hb pins s1 τ G1 H1 Q I1 q1) fun _ _ z=>z.ext e1
theorem jJe:PA3 X [] tNil:=fun _ _ _ _ G H Q I h=>Calls.spliced_nil ⟨[],G,H,.refl H,I,⟨[],rfl,.nil⟩,h⟩
theorem jJa {e:Expr} {te:TE3} (ha:PE3 X e te) (hr:PA3 X es t) (hs:starEach (e::es) X.env=(false,eval e X.env)::starEach es X.env:=by rfl):PA3 X (e::es) (jJc te t):=by
 intro pos pins s τ G H Q I h
 rw[hs]
 show wpAny _ _ (spliced ((false,eval e X.env)::backTo pos (starEach es X.env))) _ _ s
 refine Calls.spliced_cons (thn (ha pins s τ G H _ I h) fun u s1 w_=>w_.el fun x G1 H1 e1 I1 r1 q1=> ?_)
 refine thn (hr pos pins s1 τ G1 H1 _ I1 q1) fun us s2 w_=>w_.el fun xs G2 H2 e2 I2 r_ q2=>r_.el fun vs rs rv=> ?_
 obtain⟨v,rr,rvv⟩:=r1.mono e2
 exact⟨x::xs,G2,H2,e1.trans e2,I2,⟨v::vs,⟨v,vs,rfl,rr,rs⟩,.cons rvv rv⟩,q2⟩
theorem jKf {x1} (h:PA3 X es t):PE3 X (.Tuple es x1 pos) (tTup t):=by
 intro pins s τ G H Q I hq
 refine wpAny_Tuple_spliced (thn (h pos pins s τ G H _ I hq) fun us s1 w_=>w_.el fun xs G1 H1 e1 i_ r_ ⟨z,q⟩=>i_.el fun σ I1 hs1 hg1=>r_.el fun vs rs rv=>⟨by rw[<-rv.length,<-rs.length];exact z,?_⟩)
 have hf:H1 s1.heap.objs.size=none:=I1.hok.fresh (lJh _)
 have e2:Ext H1 (upd H1 s1.heap.objs.size (.tup vs)):= .upd (.none hf)
 refine⟨.tup xs,G1,upd H1 s1.heap.objs.size (.tup vs),e1.trans e2,⟨σ,I1.laid (t':=s1.toks) (fun b u e=>lJm _ e) (lJh _) ?_,hs1.mono e2,hg1.tupNew hf⟩,⟨.ref s1.heap.objs.size,Rep.tupNew rs hf,rfl⟩,q⟩
 exact⟨by rw[<-rs.length];exact z,us,rv,⟨_,lJ3 _ rfl,rfl,_,rfl,rfl⟩⟩
theorem jQl (h:PA3 X es t):PE3 X (.List es pos) (tLst t):=by
 intro pins s τ G H Q I hq
 refine wpAny_List_spliced (thn (h pos pins s τ G H _ I hq) fun us s1 w_=>w_.el fun xs G1 H1 e1 i_ r_ ⟨z,q⟩=>i_.el fun σ I1 hs1 hg1=>r_.el fun vs rs rv=>⟨by rw[<-rv.length,<-rs.length];exact z,?_⟩)
 have hf:H1 s1.heap.objs.size=none:=I1.hok.fresh (lJh _)
 have e2:Ext H1 (upd H1 s1.heap.objs.size (.lst vs)):= .upd (.none hf)
 refine⟨.ref s1.heap.objs.size,gup G1 s1.heap.objs.size (.lst xs),upd H1 s1.heap.objs.size (.lst vs),e1.trans e2,⟨σ,I1.laid (t':=s1.toks) (fun b u e=>lJm _ e) (lJh _) ?_,hs1.mono e2,hg1.lstNew rs (.none hf)⟩,⟨.ref s1.heap.objs.size,rfl,rfl⟩,q _ (hg1.fresh hf)⟩
 exact⟨by rw[<-rs.length];exact z,us,0,rv,lJ3 _ rfl⟩
theorem e_ix {r:R3} (hr:Ix3 X r) (ha:PE3 X a ta) (hb:PE3 X b tb) (hs:uQe b):PE3 X (.Subscript a b pos) (tOp r ta tb):=by
 intro pins s τ G H Q I h
 exact Subscript_ (bin3 ha hb I h fun v u s2 x y G2 H2 e I2 rx ry q=>thn (hr a b pins s2 τ G2 H2 x y v u Q I2 rx ry q (hs _ _)) fun _ _ z=>z.ext e)
def rIx:R3:=fun x y G Q=>∃xs i t,seqT G x=some xs/\y= .int i/\atI xs i=some t/\Q t G
theorem jVz {o:Option GO} {xs:List T} (h:asL o=some xs):o=some (.lst xs):=by
 cases o with
 | none=>cases h
 | some g=>cases g with
  | lst ys=>cases h;rfl
  | dct _=>cases h
  | dck _=>cases h
  | fdc _=>cases h
  | ins _ _=>cases h
theorem jUs {K:PySem.W.Frag} {H:Hp} {G:Gp} {x:T} {a:V} {xs:List T} (hg:GRel K H G) (r:Rep K H x a) (h:seqT G x=some xs):
  ∃p vs,a= .ref p/\(SqL K H p vs\/SqT K H p vs)/\Reps K H xs vs:=by
 cases x with
 | tup ys=>cases h;obtain⟨p,vs,e,h1,h2⟩:=(show ∃p vs,a= .ref p/\H p=some (.tup vs)/\Reps K H xs vs from r);exact⟨p,vs,e,.inr (.of h1),h2⟩
 | scr ys=>cases h;obtain⟨p,vs,e,h1,h2⟩:=(show ∃p vs,a= .ref p/\FrL K H p vs/\Reps K H xs vs from r);exact⟨p,vs,e,.inl h1.sq,h2⟩
 | ref p=>
  obtain⟨vs,h1,h2⟩:=hg.lst (jVz h)
  exact⟨p,vs,r,.inl (.of h1),h2⟩
 | non=>cases h
 | bl _=>cases h
 | int _=>cases h
 | str _=>cases h
 | ty _=>cases h
theorem ix_any:Ix3 X rIx:=
 Ix3.of (ix_list.or ix_tup) fun H G x y a b Q hg ra rb ⟨xs,i,t,hx,ey,ht,q⟩=>by
  subst ey;cases (show b= .int i from rb)
  obtain⟨p,vs,e,hq,r⟩:=jUs hg ra hx
  subst e
  obtain⟨v,hv,rv⟩:=r.atI ht
  rcases hq with hq | hq
  ·exact .inl ⟨p,vs,i,v,rfl,rfl,hq,hv,t,G,.refl H,hg,rv,q⟩
  ·exact .inr ⟨p,vs,i,v,rfl,rfl,hq,hv,t,G,.refl H,hg,rv,q⟩
theorem jJq {id:String} {r:List T->Gp->VK3->Prop} {x:Str} {p:Pos} {e:Expr} (hc:Call3 X (.builtin id) r) (hg:Gl X x) (hm:X.mg x=none) (hv:bootBuiltins x=some (.builtin id)) (ha:PA3 X (e::es) t) (hn:x≠"__name__":=by decide) (hdb:(x == ("__debug__":Str))=false:=by decide)
  (he:starEach (e::es) X.env=(false,eval e X.env)::starEach es X.env:=by rfl) (hpl:(backTo pos (starEach es X.env)).any (·.1)=false:=by rfl):PE3 X (.Call (.Name x p) (e::es) [] pos) (tCB r t):=by
 intro pins s τ G H Q I h
 obtain⟨σ,I0,hs0,hg0⟩:=_root_.id I
 refine lXj (jUu I0 hg hm hv ?_ hn hdb)
 exact PyProof.Rows.callWith_builtin1 (thn (ha pos pins s τ G H _ I h) fun us s1 w_=>w_.el fun xs G1 H1 e1 I1 r1 q1=>thn (hc pins s1 τ G1 H1 xs us Q I1 r1 q1) fun _ _ z=>z.ext e1) he hpl
theorem jKg {T0:String} {r:List T->Gp->VK3->Prop} {x:Str} {p:Pos} {e:Expr} (hc:Call3 X (.type T0) r) (hg:Gl X x) (hm:X.mg x=none) (hv:bootBuiltins x=some (.type T0)) (ha:PA3 X (e::es) t) (hn:x≠"__name__":=by decide) (hdb:(x == ("__debug__":Str))=false:=by decide)
  (he:starEach (e::es) X.env=(false,eval e X.env)::starEach es X.env:=by rfl) (hpl:(backTo pos (starEach es X.env)).any (·.1)=false:=by rfl):PE3 X (.Call (.Name x p) (e::es) [] pos) (tCB r t):=by
 intro pins s τ G H Q I h
 obtain⟨σ,I0,hs0,hg0⟩:=_root_.id I
 refine lXj (jUu I0 hg hm hv ?_ hn hdb)
 exact lQg (thn (ha pos pins s τ G H _ I h) fun us s1 w_=>w_.el fun xs G1 H1 e1 I1 r1 q1=>thn (hc pins s1 τ G1 H1 xs us Q I1 r1 q1) fun _ _ z=>z.ext e1) he hpl
theorem jVl {K:PySem.W.Frag} {H:Hp} {x:T} {vs:List V} (h:Reps K H [x] vs):∃v,vs=[v]/\Rep K H x v:=by
 obtain⟨v,ws,rfl,r,e⟩:=h;cases e;exact⟨v,rfl,r⟩
theorem kZ7 {K:PySem.W.Frag} {H:Hp} {x y:T} {vs:List V} (h:Reps K H [x,y] vs):∃v w,vs=[v,w]/\Rep K H x v/\Rep K H y w:=by
 obtain⟨v,ws,rfl,r,w,ws2,rfl,r2,e⟩:=h;cases e;exact⟨v,w,rfl,r,r2⟩
def rLen:List T->Gp->VK3->Prop:=fun xs G Q=>∃x ys,xs=[x]/\seqT G x=some ys/\Q (.int ys.length) G
theorem jKo:Call3 X (.builtin "len") rLen:=
 Call3.of kVn fun H G xs as Q hg ra ⟨x,ys,e,hx,q⟩=>by
  subst e
  obtain⟨v,rfl,rv⟩:=jVl ra
  obtain⟨p,vs,rfl,hq,r⟩:=jUs hg rv hx
  exact⟨p,vs,rfl,hq,.int ys.length,G,.refl H,hg,by rw[r.length];rfl,q⟩
def rAbs:List T->Gp->VK3->Prop:=fun xs G Q=>∃i,xs=[.int i]/\Q (.int (if i<0 then -i else i)) G
theorem c_abs:Call3 X (.builtin "abs") rAbs:=
 Call3.of qY4 fun H G xs as Q hg ra ⟨i,e,q⟩=>by
  subst e
  obtain⟨v,rfl,rv⟩:=jVl ra
  cases (show v= .int i from rv)
  exact⟨i,rfl,.int _,G,.refl H,hg,rfl,q⟩
def rMax:List T->Gp->VK3->Prop:=fun xs G Q=>∃i j,xs=[.int i,.int j]/\Q (.int (if j>i then j else i)) G
theorem c_max (hc:X.calm=true):Call3 X (.builtin "max") rMax:=
 Call3.of (qVc hc) fun H G xs as Q hg ra ⟨i,j,e,q⟩=>by
  subst e
  obtain⟨v,w,rfl,rv,rw'⟩:=kZ7 ra
  cases (show v= .int i from rv);cases (show w= .int j from rw')
  exact⟨i,j,rfl,.int _,G,.refl H,hg,rfl,q⟩
def qQd:List T->Gp->VK3->Prop:=fun xs G Q=>∃k,xs=[.bl k]/\Q (.int (if k then 1 else 0)) G
theorem c_int:Call3 X (.type "int") qQd:=
 Call3.of qVd fun H G xs as Q hg ra ⟨k,e,q⟩=>by
  subst e
  obtain⟨v,rfl,rv⟩:=jVl ra
  cases (show v= .bl k from rv)
  exact .inr ⟨k,rfl,.int _,G,.refl H,hg,rfl,q⟩
def kXj:List T->Gp->VK3->Prop:=fun xs G Q=>∃i j,xs=[.int i,.int j]/\CDiv i j/\Q (.tup [.int (i / j),.int (i%j)]) G
theorem qY5:Call3 X (.builtin "divmod") kXj:=
 Call3.of kX8 fun H G xs as Q hg ra ⟨i,j,e,c,q⟩=>by
  subst e
  obtain⟨v,w,rfl,rv,rw'⟩:=kZ7 ra
  cases (show v= .int i from rv);cases (show w= .int j from rw')
  exact⟨i,j,rfl,c,fun p hp=>⟨.tup [.int (i / j),.int (i%j)],G,.upd (.none hp),hg.tupNew hp,Rep.tupNew ⟨_,_,rfl,rfl,_,_,rfl,rfl,rfl⟩ hp,q⟩⟩
def kXi:List T->Gp->VK3->Prop:=fun xs G Q=>∃x ys,xs=[x]/\seqT G x=some ys/\∀p,G p=none->Q (.ref p) (gup G p (.lst ys))
theorem c_list:Call3 X (.type "list") kXi:=
 Call3.of kVm fun H G xs as Q hg ra ⟨x,ys,e,hx,q⟩=>by
  subst e
  obtain⟨v,rfl,rv⟩:=jVl ra
  obtain⟨p,vs,rfl,hq,r⟩:=jUs hg rv hx
  exact⟨p,vs,rfl,hq,fun l hl=>⟨.ref l,_,.upd (.none hl),hg.lstNew r (.none hl),rfl,q l (hg.fresh hl)⟩⟩
def jJ7:List T->Gp->VK3->Prop:=fun xs G Q=>∃x ys,xs=[x]/\seqT G x=some ys/\Q (.tup ys) G
theorem jK7:Call3 X (.type "tuple") jJ7:=
 Call3.of kQ5 fun H G xs as Q hg ra ⟨x,ys,e,hx,q⟩=>by
  subst e
  obtain⟨v,rfl,rv⟩:=jVl ra
  obtain⟨p,vs,rfl,hq,r⟩:=jUs hg rv hx
  cases x with
  | tup zs=>
   cases hx
   obtain⟨p',vs',e',h1,h2⟩:=(show ∃p' vs',V.ref p= .ref p'/\H p'=some (.tup vs')/\Reps X.K H ys vs' from rv)
   cases e'
   exact⟨p,vs',rfl,.inr ⟨.of h1,.tup ys,G,.refl H,hg,⟨p,vs',rfl,h1,h2⟩,q⟩⟩
  | scr zs=>
   cases hx
   obtain⟨p',vs',e',h1,h2⟩:=(show ∃p' vs',V.ref p= .ref p'/\FrL X.K H p' vs'/\Reps X.K H ys vs' from rv)
   cases e'
   exact⟨p,vs',rfl,.inl ⟨h1.sq,fun l hl=>⟨.tup ys,G,.upd (.none hl),hg.tupNew hl,Rep.tupNew h2 hl,q⟩⟩⟩
  | ref p'=>
   cases (show V.ref p= .ref p' from rv)
   obtain⟨vs',h1,h2⟩:=hg.lst (jVz hx)
   exact⟨p,vs',rfl,.inl ⟨.of h1,fun l hl=>⟨.tup ys,G,.upd (.none hl),hg.tupNew hl,Rep.tupNew h2 hl,q⟩⟩⟩
  | non=>cases hx
  | bl _=>cases hx
  | int _=>cases hx
  | str _=>cases hx
  | ty _=>cases hx
noncomputable def rCat:R3:=fun x y G Q=>∃p q xs ys,x= .ref p/\y= .ref q/\G p=some (.lst xs)/\G q=some (.lst ys)/\xs.length+ys.length<=sizeLine/\∀l,G l=none->Q (.ref l) (gup G l (.lst (xs++ys)))
noncomputable def rRep:R3:=fun x y G Q=>∃p xs n,x= .ref p/\y= .int n/\G p=some (.lst xs)/\n.toNat * xs.length<=sizeLine/\n<2^62/\ -(2^62)<n/\∀l,G l=none->Q (.ref l) (gup G l (.lst (List.replicate n.toNat xs).flatten))
def tyT (G:Gp) (T0:String) (x:T):Prop:=match x with
 | .str _=>T0="str"
 | .int _=>T0="int"
 | .ref p=>(T0="list"/\∃xs,G p=some (.lst xs))\/(T0="dict"/\((∃kvs,G p=some (.dck kvs))\/∃kvs,G p=some (.dct kvs)))
 | _=>False
theorem tyT.of {K:PySem.W.Frag} {H:Hp} {G:Gp} {T0:String} {x:T} {a:V} (hg:GRel K H G) (r:Rep K H x a) (h:tyT G T0 x):tyV K T0 a H:=by
 cases x with
 | str z=>cases (show a= .str z from r);exact h
 | int z=>cases (show a= .int z from r);exact h
 | ref p=>
  cases (show a= .ref p from r)
  rcases h with ⟨e,xs,h⟩ | ⟨e,h⟩
  ·obtain⟨vs,h1,_⟩:=hg.lst h;exact .inl ⟨e,vs,.of h1⟩
  ·refine .inr (.inr (.inl ⟨e,?_⟩))
   rcases h with ⟨kvs,h⟩ | ⟨kvs,h⟩
   ·obtain⟨ws,h1,_⟩:=hg p _ h;exact .inl ⟨ws,h1⟩
   ·obtain⟨ws,h1,_⟩:=hg p _ h;exact .inr ⟨ws,h1⟩
 | non=>exact False.elim h
 | bl _=>exact False.elim h
 | ty _=>exact False.elim h
 | tup _=>exact False.elim h
 | scr _=>exact False.elim h
def tBM (T0:String) (r:T->List T->Gp->VK3->Prop) (to:TE3) (t:TA3):TE3:=fun τ G Q=>to τ G fun x G1=>tyT G1 T0 x/\t τ G1 fun xs G2=>r x xs G2 Q
theorem e_bm {T0 id:String} {r:T->List T->Gp->VK3->Prop} {o e:Expr} {name:Str} {apos cpos:Pos} {to:TE3} (pa:PlainAttrs T0) (slot:Slot T0 name id) (hty:typeOf (.builtin id)=pure (.type "method_descriptor")) (hm:Mt3 X id r) (ho:PE3 X o to) (ha:PA3 X (e::es) t)
  (hbase:attributeBase o name X.env (eval o X.env)=eval o X.env:=by rfl)
  (hfew:((backTo cpos (starEach (e::es) X.env)).all (fun x=> !x.1)&&(backToKw cpos (keywordEach [] X.env)).all (fun x=>x.1.isSome)
   &&decide ((e::es).length+([]:List Keyword).length+(if ([]:List Keyword).isEmpty then 0 else 1)<30))=true:=by rfl)
  (hline:(apos.endLine == cpos.line)=true:=by rfl) (hs:starEach (e::es) X.env=(false,eval e X.env)::starEach es X.env:=by rfl) (hplain:(backTo cpos (starEach es X.env)).any (·.1)=false:=by rfl):
  PE3 X (.Call (.Attribute o name apos) (e::es) [] cpos) (tBM T0 r to t):=by
 intro pins s τ G H Q I h
 refine wpAny_Call_method_late hbase hfew hline rfl (thn (ho pins s τ G H _ I h) fun v s1 w_=>w_.el fun x G1 H1 e1 I1 r1 ⟨ty,q1⟩=> ?_)
 obtain⟨σ,I0,hs0,hg0⟩:=_root_.id I1
 obtain⟨a0,ra0,rv0⟩:=_root_.id r1
 obtain⟨h1,h2⟩:=tyV_is I0 rv0 (tyT.of hg0 ra0 ty)
 refine⟨T0,id,pa,slot,hty,h1,h2,?_⟩
 have hA:=ha cpos pins s1 τ G1 H1 _ I1 q1
 rw[hs] at hA ⊢
 refine Calls.callWith_builtin (by show (false||(backTo cpos (starEach es X.env)).any (·.1))=false;rw[hplain]<;>rfl) (Calls.evalArgs_plain ?_)
 exact thn hA fun us s2 w_=>w_.el fun vs G2 H2 e2 I2 r2 q2=>thn (hm pins s2 τ G2 H2 x vs v us Q I2 (r1.mono e2) r2 q2) fun _ _ z=>(z.ext e2).ext e1
def jJ8:T->List T->Gp->VK3->Prop:=fun x xs G Q=>∃p ys y,x= .ref p/\xs=[y]/\G p=some (.lst ys)/\ys.length<sizeLine/\Q .non (gup G p (.lst (ys++[y])))
def qXg:T->T->T->Gp->(Gp->Prop)->Prop:=fun o i v G Q=>∃p xs k j,o= .ref p/\i= .int k/\G p=some (.lst xs)/\ixN xs.length k=some j/\Q (gup G p (.lst (xs.set j v)))
theorem s_list:Set3 X qXg:=
 Set3.of kQb fun H G o i v a b c Q hg ra rb rc ⟨p,xs,k,j,eo,ei,hp,hj,q⟩=>by
  subst eo;subst ei
  cases (show a= .ref p from ra);cases (show b= .int k from rb)
  obtain⟨vs,h1,h2⟩:=hg.lst hp
  exact⟨p,vs,k,j,rfl,rfl,h1,by rw[<-h2.length];exact hj,_,.upd (.lst h1),hg.lstNew (h2.set rc j) (.lst h1),q⟩
end
section
variable {X:Cx}
theorem o_cat:Op3 X (binaryOp .Add) rCat:=
 Op3.of op_cat fun H G x y a b Q hg ra rb ⟨p,q,xs,ys,ex,ey,hp,hq,hz,h⟩=>by
  subst ex;subst ey
  cases (show a= .ref p from ra);cases (show b= .ref q from rb)
  obtain⟨vs,h1,h2⟩:=hg.lst hp
  obtain⟨ws,h3,h4⟩:=hg.lst hq
  exact⟨p,q,vs,ws,rfl,rfl,h1,h3,by rw[<-h2.length,<-h4.length];exact hz,fun l hl=>⟨.ref l,_,.upd (.none hl),hg.lstNew (h2.append h4) (.none hl),rfl,h l (hg.fresh hl)⟩⟩
theorem o_rep:Op3 X (binaryOp .Mult) rRep:=
 Op3.of op_rep fun H G x y a b Q hg ra rb ⟨p,xs,n,ex,ey,hp,hz,h1,h2,h⟩=>by
  subst ex;subst ey
  cases (show a= .ref p from ra);cases (show b= .int n from rb)
  obtain⟨vs,h3,h4⟩:=hg.lst hp
  refine⟨p,n,vs,rfl,rfl,h3,by omega,by omega,by rw[<-h4.length,lQz];exact hz,fun l hl=>⟨.ref l,_,.upd (.none hl),hg.lstNew (h4.rep _) (.none hl),rfl,h l (hg.fresh hl)⟩⟩
theorem jKj:Mt3 X "list.append" jJ8:=
 Mt3.of qQy fun H G x xs a as Q hg ra ras ⟨p,ys,y,ex,exs,hp,hz,q⟩=>by
  subst ex;subst exs
  cases (show a= .ref p from ra)
  obtain⟨v,rfl,rv⟩:=jVl ras
  obtain⟨vs,h1,h2⟩:=hg.lst hp
  exact⟨p,vs,v,rfl,rfl,h1,by rw[<-h2.length];exact hz,.non,_,.upd (.lst h1),hg.lstNew (h2.append (.one rv)) (.lst h1),rfl,q⟩
end
def jKr:TS3:=fun D τ G=>D.nx τ G
def tSeq (t u:TS3):TS3:=fun D τ G=>t {D with nx:=u D} τ G
def jK2 (te:TE3):TS3:=fun D τ G=>te τ G fun _ G1=>D.nx τ G1
def tRet (te:TE3):TS3:=fun D τ G=>te τ G D.rt
def tRetN:TS3:=fun D _ G=>D.rt .non G
def tIfS (c:TT3) (t u:TS3):TS3:=fun D τ G=>c τ G fun b G1=>if b=true then t D τ G1 else u D τ G1
def qKh:TS3:=fun D τ G=>D.bk τ G
section
variable {X:Cx} {st:Stmt} {rest:List Stmt} {t u:TS3} {e:Expr} {te:TE3} {pos:Pos}
theorem jKp:PSs3 X [] jKr:=fun _ _ τ G H _ I h=>wpAny_execs_nil ⟨τ,G,H,.refl H,I,h⟩
theorem jJd (h1:PS3 X st t) (h2:PSs3 X rest u):PSs3 X (st::rest) (tSeq t u):=by
 intro pins s τ G H D I h
 refine wpAny_execs_cons (thn (h1 pins s τ G H {D with nx:=u D} I h) fun f s1 q=> ?_)
 cases f with
 | next=>
  obtain⟨τ',G',H',e',I',q⟩:=q
  exact thn (h2 pins s1 τ' G' H' D I' q) fun _ _ z=>z.ext e'
 | ret v=>exact q
 | brk=>exact q
 | cont=>exact q
theorem jJl (h1:PS3 X st t):PSs3 X [st] t:=by
 intro pins s τ G H D I h
 refine wpAny_execs_cons (thn (h1 pins s τ G H D I h) fun f s1 q=> ?_)
 cases f with
 | next=>exact wpAny_execs_nil q
 | ret v=>exact q
 | brk=>exact q
 | cont=>exact q
theorem uJi:PS3 X (.Break pos) qKh:=fun _ _ τ G H _ I h=>wpAny_Break ⟨τ,G,H,.refl H,I,h⟩
theorem jK4 (he:PE3 X e te) (hs:swapsWith e none pos.line X.env=pure false:=by rfl):PS3 X (.Expr e pos) (jK2 te):=by
 intro pins s τ G H D I h
 obtain⟨σ,I0,hs0,hg0⟩:=id I
 exact wpAny_Expr_any (thn (he pins s τ G H _ I h) fun v s1 w_=>w_.el fun x G1 H1 e1 I1 r1 q1=>⟨τ,G1,H1,e1,I1,q1⟩) I0.quiet hs
theorem jKc (he:PE3 X e te):PS3 X (.Return (some e) pos) (tRet te):=by
 intro pins s τ G H D I h
 exact wpAny_Return_some (thn (he pins s τ G H _ I h) fun v s1 w_=>w_.el fun x G1 H1 e1 I1 r1 q1=>⟨x,τ,G1,H1,e1,I1,r1,q1⟩)
theorem s_if {c:Expr} {a b:List Stmt} {tc:TT3} (hc:PT3 X c tc) (ha:PSs3 X a t) (hb:PSs3 X b u):PS3 X (.If c a b pos) (tIfS tc t u):=by
 intro pins s τ G H D I h
 refine wpAny_If (thn (hc pins s τ G H _ I h) fun d s1 w_=>w_.el fun G1 H1 e1 I1 q1=> ?_)
 cases d with
 | true=>exact thn (ha pins s1 τ G1 H1 D I1 q1) fun _ _ z=>z.ext e1
 | false=>exact thn (hb pins s1 τ G1 H1 D I1 q1) fun _ _ z=>z.ext e1
end
abbrev TG3:=T->St3->Gp->(St3->Gp->Prop)->Prop
abbrev TGs3:=List T->St3->Gp->(St3->Gp->Prop)->Prop
def GP3 (X:Cx) (pins:List (Addr×Obj)) (H:Hp) (Q:St3->Gp->Prop) (s':Shared):Prop:=∃ τ' G' H',Ext H H'/\Inv3 X pins τ' G' H' s'/\Q τ' G'
def PG3 (X:Cx) (target:Expr) (t:TG3):Prop:=
 ∀(pins:List (Addr×Obj)) (s:Shared) (τ:St3) (G:Gp) (H:Hp) (v:T) (u:Value) (Q:St3->Gp->Prop),Inv3 X pins τ G H s->RU X.K H v u->t v τ G Q->
  wpAny (model X.prog X.w) X.A (assign target X.env u) (fun _ s'=>GP3 X pins H Q s') X.xe s
def PGs3 (X:Cx) (ts:List Expr) (t:TGs3):Prop:=
 ∀(pins:List (Addr×Obj)) (s:Shared) (τ:St3) (G:Gp) (H:Hp) (vs:List T) (us:List Value) (Q:St3->Gp->Prop),Inv3 X pins τ G H s->RUs X.K H vs us->t vs τ G Q->
  wpAny (model X.prog X.w) X.A (assignInOrder ((assignEach ts X.env).map (·.2)) us) (fun _ s'=>GP3 X pins H Q s') X.xe s
def jJi (i:Nat):TG3:=fun v τ G Q=>Q (τ.set i (some v)) G
def gNil:TGs3:=fun vs τ G Q=>vs=[]/\Q τ G
def jKl (t:TG3) (u:TGs3):TGs3:=fun vs τ G Q=>∃v r,vs=v::r/\t v τ G fun τ' G'=>u r τ' G' Q
def gTup (n:Nat) (t:TGs3):TG3:=fun v τ G Q=>∃xs,v= .tup xs/\xs.length=n/\t xs τ G Q
def gSub (to ti:TE3) (t:T->T->T->Gp->(Gp->Prop)->Prop):TG3:=fun v τ G Q=>to τ G fun o G1=>ti τ G1 fun i G2=>t o i v G2 fun G3=>Q τ G3
def tAsg (te:TE3) (g:TG3):TS3:=fun D τ G=>te τ G fun x G1=>g x τ G1 D.nx
section
variable {X:Cx} {pos:Pos}
theorem jJo {i:Nat} {x:Str} (hN:X.N.Nodup) (hi:X.N[i]? =some x:=by rfl) (hx:Loc X.env.scope x:=by first | exact Or.inl rfl | exact Or.inr rfl) (hf:X.fn x=true\/X.env.scope.names.lookup x=some .local:=by first | exact .inl rfl | exact .inr rfl):PG3 X (.Name x pos) (jJi i):=by
 rintro pins s τ G H v u Q ⟨σ,I,hs,hg⟩ ⟨a,ra,rv⟩ h
 exact wpAny_assign_Name (kK6 I hN hi hx rv (fun s' I'=>⟨_,G,H,.refl H,⟨_,I',hs.set i ra,hg⟩,h⟩) hf)
theorem jQy:PGs3 X [] gNil:=by
 rintro pins s τ G H vs us Q I ⟨as,r,rv⟩ ⟨e,h⟩
 subst e
 cases (show as=[] from r)
 cases rv
 exact assignInOrder_nil ⟨τ,G,H,.refl H,I,h⟩
theorem jJ0 {e:Expr} {es:List Expr} {t:TG3} {u:TGs3} (h1:PG3 X e t) (h2:PGs3 X es u)
  (hs:(assignEach (e::es) X.env).map (·.2)=assign e X.env::(assignEach es X.env).map (·.2):=by rfl):PGs3 X (e::es) (jKl t u):=by
 rintro pins s τ G H vs us Q I ⟨as,r,rv⟩ ⟨v,vr,e1,h⟩
 subst e1
 obtain⟨a,ar,rfl,ra,rar⟩:=r
 cases rv with
 | cons q qq=>
  rw[hs]
  refine assignInOrder_cons (thn (h1 pins s τ G H v _ _ I ⟨a,ra,q⟩ h) fun _ s1 ⟨τ1,G1,H1,e1,I1,q1⟩=> ?_)
  exact thn (h2 pins s1 τ1 G1 H1 vr _ Q I1 ⟨ar,Reps.mono e1 _ rar,qq⟩ q1) fun _ s2 ⟨τ2,G2,H2,e2,z⟩=>⟨τ2,G2,H2,e1.trans e2,z⟩
theorem jV2 {es:List Expr} {k:Nat} {t:TGs3} {n:Nat} (hc:X.calm=true) (h:PGs3 X es t)
  (hn:(assignEach es X.env).length=n:=by rfl) (hst:(assignEach es X.env).findIdx? (·.1)=none:=by rfl):PG3 X (.Tuple es k pos) (gTup n t):=by
 rintro pins s τ G H v u Q ⟨σ,I,hs,hg⟩ ⟨a,ra,rv⟩ ⟨xs,ev,hl,hw⟩
 subst ev
 obtain⟨p,vs,e1,h1,r1⟩:=(show ∃p vs,a= .ref p/\H p=some (.tup vs)/\Reps X.K H xs vs from ra)
 subst e1
 cases rv
 obtain⟨its,rv,ht,hz⟩:=I.tuple (.of h1)
 refine assign_Tuple_tuple (I.ok.hd hc) ht (by simp[hn,<-hl,r1.length,rv.length]) hst fun h' hx=> ?_
 have I1:Inv X pins σ H {s with heap:=h'}:=I.kept (t':=s.toks) fun b o e=>hx b o (lJw (lJj e)) e
 exact h pins _ τ G H xs _ Q ⟨σ,I1,hs,hg⟩ ⟨vs,r1,by simpa using rv⟩ hw
theorem jYn {o i:Expr} {to ti:TE3} {t:T->T->T->Gp->(Gp->Prop)->Prop} (ho:PE3 X o to) (hi:PE3 X i ti) (hs:Set3 X t)
  (ha:∀v,assign (.Subscript o i pos) X.env v=(do
   let ov <-holding [v] (eval o X.env)
   let iv <-holding [v,ov] (eval i X.env)
   standAt pos
   holding [v,ov,iv] (setItem ov iv v)
   release [v,ov,iv] []):=by intro _;rfl):PG3 X (.Subscript o i pos) (gSub to ti t):=by
 intro pins s τ G H v u Q I r h
 rw[ha]
 refine lJa (lK4 (thn (ho pins s τ G H _ I h) fun ov s1 w_=>w_.el fun x G1 H1 e1 I1 r1 q1=> ?_))
 refine lJa (lK4 (thn (hi pins s1 τ G1 H1 _ I1 q1) fun iv s2 w_=>w_.el fun y G2 H2 e2 I2 r2 q2=> ?_))
 refine lJa (wpAny_standAt (lJa (lK4 (thn (hs pins s2 τ G2 H2 x y v ov iv u _ I2 (r1.mono e2) r2 (r.mono (e1.trans e2)) q2) fun _ s3 ⟨G3,H3,e3,I3,q3⟩=> ?_))))
 exact wpAny_release ⟨τ,G3,H3,(e1.trans e2).trans e3,I3,q3⟩
theorem jXu {tg e:Expr} {te:TE3} {g:TG3} (he:PE3 X e te) (hg:PG3 X tg g) (hs:swapsWithSole [tg] e pos.line X.env=pure false:=by rfl) (hw:swappedStores [tg] e X.env=pure none:=by rfl)
  (h1:(assignEach [tg] X.env).map (·.2)=[assign tg X.env]:=by rfl):PS3 X (.Assign [tg] e pos) (tAsg te g):=by
 intro pins s τ G H D I h
 refine wpAny_Assign_stores (thn (he pins s τ G H _ I h) fun v s1 w_=>w_.el fun x G1 H1 e1 I1 r1 q1=> ?_) hs hw
 rw[h1]
 exact thn (hg pins s1 τ G1 H1 x v _ I1 r1 q1) fun _ s2 ⟨τ2,G2,H2,e2,q⟩=>⟨τ2,G2,H2,e1.trans e2,q⟩
theorem jJx {i:Nat} {x:Str} {e:Expr} {te:TE3} {pos':Pos} (hN:X.N.Nodup) (he:PE3 X e te) (hi:X.N[i]? =some x:=by rfl) (hx:Loc X.env.scope x:=by first | exact Or.inl rfl | exact Or.inr rfl)
  (hs:swapsWith e (some (.Name x pos')) pos.line X.env=pure false:=by rfl) (hf:X.fn x=true\/X.env.scope.names.lookup x=some .local:=by first | exact .inl rfl | exact .inr rfl):
  PS3 X (.Assign [.Name x pos'] e pos) (tAsg te (jJi i)):=by
 intro pins s τ G H D I h
 refine wpAny_Assign_Name (thn (he pins s τ G H _ I h) fun v s1 w_=>w_.el fun y G1 H1 e1 i_ r_ q1=>i_.el fun σ I1 hs1 hg1=>r_.el fun a ra rv=> ?_) hs
 exact kK6 I1 hN hi hx rv (fun s2 I2=>⟨_,G1,H1,e1,⟨_,I2,hs1.set i ra,hg1⟩,q1⟩) hf
def tPar (i j:Nat) (ta:TA3):TS3:=fun D τ G=>ta τ G fun vs G1=>∃v w,vs=[v,w]/\D.nx ((τ.set i (some v)).set j (some w)) G1
noncomputable def jZq (c:TT3) (tb:TS3):TS3:=fun D τ G=>∃W:Nat->St3->Gp->Prop,(∃m,W m τ G)/\∀m τ G,W m τ G->
 c τ G fun b G1=>if b=true then ∃N:St3->Gp->Prop,(∀ τ' G',N τ' G'->∃m',m'<m/\W m' τ' G')/\tb {D with nx:=N,ct:=N,bk:=D.nx} τ G1 else D.nx τ G1
theorem kV7 {c:Expr} {body:List Stmt} {tc:TT3} {tb:TS3} (hp:PassesOwn (model X.prog X.w) X.A X.env X.xe) (hc:PT3 X c tc) (hb:PSs3 X body tb):PS3 X (.While c body [] pos) (jZq tc tb):=by
 intro pins s τ G H D I h
 obtain⟨W,⟨m0,w0⟩,turn⟩:=h
 refine wpAny_While (codeAny_whileLoop (fun n s'=>∃ τ' G' H',Ext H H'/\Inv3 X pins τ' G' H' s'/\W n τ' G') ?_ m0 ⟨τ,G,H,.refl H,I,w0⟩)
 rintro n s1 ⟨τ1,G1,H1,e1,I1,w1⟩
 refine lVl hp (thn (hc pins s1 τ1 G1 H1 _ I1 (turn n τ1 G1 w1)) fun b s2 w_=>w_.el fun G2 H2 e2 I2 q2=> ?_)
 cases b with
 | true=>
  obtain⟨N,hN,q2⟩:=q2
  rw[lJc rfl]
  refine lVl hp (thn (hb pins s2 τ1 G2 H2 _ I2 q2) fun f s3 q3=> ?_)
  cases f with
  | next=>
   obtain⟨τ3,G3,H3,e3,I3,n3⟩:=q3
   obtain⟨m',hm,w3⟩:=hN τ3 G3 n3
   exact⟨m',hm,τ3,G3,H3,(e1.trans e2).trans e3,I3,w3⟩
  | cont=>
   obtain⟨τ3,G3,H3,e3,I3,n3⟩:=q3
   obtain⟨m',hm,w3⟩:=hN τ3 G3 n3
   exact⟨m',hm,τ3,G3,H3,(e1.trans e2).trans e3,I3,w3⟩
  | brk=>exact SP3.ext (f:= .next) (e1.trans e2) q3
  | ret v=>exact SP3.ext (f:= .ret v) (e1.trans e2) q3
 | false=>
  rw[lJb lJp]
  exact wpAny_execs_nil ⟨τ1,G2,H2,e1.trans e2,I2,q2⟩
end
def uQj (K:PySem.W.Frag) (H0:Hp) (J:It) (xs:List T) (stay:Gp->Prop):Prop:=
 ∀i H G,Ext H0 H->GRel K H G->stay G->(i<xs.length->J.go i H)/\(xs.length<=i->J.stop i H)/\(i<xs.length->∀x H',J.yld i H x H'->Ext H H'/\GRel K H' G/\∃t,xs[i]? =some t/\Rep K H' t x)
abbrev TI3:=St3->Gp->(List T->(Gp->Prop)->Gp->Prop)->Prop
def PIE3 (X:Cx) (pins:List (Addr×Obj)) (τ:St3) (H:Hp) (tg:Expr) (R:List T->(Gp->Prop)->Gp->Prop) (itv:Value) (s2:Shared):Prop:=
 ∃(it:Addr) (fp:List Addr) (tn:Nat->Heap->Prop) (J:It) (xs:List T) (stay:Gp->Prop) (G':Gp) (H':Hp),itv= .ref it/\Ext H H'/\Inv3 X pins τ G' H' s2/\Turn X.prog X.w X.K tg J fp it tn/\tn 0 s2.heap/\(∀b∈fp,FpOk X pins H' b)/\
  uQj X.K H' J xs stay/\R xs stay G'
def PI3 (X:Cx) (tg iter:Expr) (wi:TI3):Prop:=
 ∀(pins:List (Addr×Obj)) (s:Shared) (τ:St3) (G:Gp) (H:Hp) (R:List T->(Gp->Prop)->Gp->Prop),Inv3 X pins τ G H s->wi τ G R->
  wpAny (model X.prog X.w) X.A (eval iter X.env) (fun v s1=>wpAny (model X.prog X.w) X.A (pyIter v) (PIE3 X pins τ H tg R) X.xe s1) X.xe s
noncomputable def tFor (wi:TI3) (g:TG3) (tb:TS3):TS3:=fun D τ G=>wi τ G fun xs stay G1=>∃P:Nat->St3->Gp->Prop,P 0 τ G1/\(∀i τ G,i<=xs.length->P i τ G->stay G)/\
 (∀i x τ G,xs[i]? =some x->P i τ G->g x τ G fun τ2 G2=>tb {D with nx:=P (i+1),ct:=P (i+1),bk:=D.nx} τ2 G2)/\∀ τ G,P xs.length τ G->D.nx τ G
section
variable {X:Cx} {tg:Expr} {pos:Pos}
theorem jKy {iter:Expr} {body:List Stmt} {wi:TI3} {g:TG3} {tb:TS3} (hp:PassesOwn (model X.prog X.w) X.A X.env X.xe) (hc:X.calm=true) (hi:PI3 X tg iter wi) (hg:PG3 X tg g) (hb:PSs3 X body tb)
  (hs:∀x,foldedSetIterable iter X.env x=pure x:=by intro _;rfl):PS3 X (.For tg iter body [] pos) (tFor wi g tb):=by
 intro pins s τ G H D I h
 refine wpAny_For (thn (hi pins s τ G H _ I h) fun v s1 h1=>thn h1 fun itv s2 h2=> ?_) hs
 obtain⟨it,fp,tn,J,xs,stay,G2,H2,e,eH,I2,T0,st2,f2,IT,P,p0,hstay,turn,fin⟩:=h2
 subst e
 have stat:∀ {H':Hp},(∀b∈fp,H' b=none)->∀b∈fp,FpOk X pins H' b:=fun hn b hb=>⟨hn b hb,(f2 b hb).2⟩
 refine codeAny_forLoop_any (fun n s'=>∃i τ' G' H',n=xs.length-i/\i<=xs.length/\Ext H2 H'/\Inv3 X pins τ' G' H' s'/\tn i s'.heap/\(∀b∈fp,H' b=none)/\P i τ' G') ?_ xs.length ⟨0,τ,G2,H2,rfl,lJs _,.refl _,I2,st2,fun b hb=>(f2 b hb).1,p0⟩
 rintro n s3 ⟨i,τ3,G3,H3,en,hi3,e3,⟨σ3,I3,hs3,hg3⟩,st3,fr3,p3⟩
 obtain⟨go,stop,yl⟩:=IT i H3 G3 e3 hg3 (hstay i τ3 G3 hi3 p3)
 by_cases hlt:i<xs.length
 ·refine lVl hp (thn (T0.item X rfl rfl rfl hc i pins s3 σ3 H3 X.xe I3 (stat fr3) st3 (go hlt)) fun r s4 ⟨u,hr,h4⟩=> ?_)
  subst hr
  refine lVl hp (thn h4 fun _ s5 ⟨x,H5,I5,r5,y5,st5,fr5⟩=> ?_)
  obtain⟨e5,g5,t,ht,rt⟩:=yl hlt x H5 y5
  have I5':=I5.pinned (stat fr5) (T0.obj _ _ st5)
  refine lVl hp (thn (hg _ s5 τ3 G3 H5 t u _ ⟨σ3,I5',hs3.mono e5,g5⟩ ⟨x,rt,r5⟩ (turn i t τ3 G3 ht p3)) fun _ s6 ⟨τ6,G6,H6,e6,I6,q6⟩=> ?_)
  refine lVl hp (thn (hb _ s6 τ6 G6 H6 _ I6 q6) fun f s7 q7=> ?_)
  have e36:Ext H2 H6:=(e3.trans e5).trans e6
  have again:∀ {τ7:St3} {G7:Gp} {H7:Hp},Ext H6 H7->Inv3 X (pins++jV4 fp s5.heap) τ7 G7 H7 s7->P (i+1) τ7 G7->
    ∃m,m<n/\∃i τ' G' H',m=xs.length-i/\i<=xs.length/\Ext H2 H'/\Inv3 X pins τ' G' H' s7/\tn i s7.heap/\(∀b∈fp,H' b=none)/\P i τ' G':=fun {τ7 G7 H7} e7 ⟨σ7,I7,hs7,hg7⟩ p7=>by
   refine⟨xs.length-(i+1),by omega,i+1,τ7,G7,H7,rfl,hlt,e36.trans e7,⟨σ7,I7.unpinned,hs7,hg7⟩,T0.keep _ _ _ st5 fun b hb o e=>(I7.pin (b,o) (lKm _ (lKm _ (jVv hb e)))).1,fun b hb=> ?_,p7⟩
   obtain⟨o,e,d⟩:=T0.obj _ _ st5 b hb
   exact (I7.pin (b,o) (lKm _ (lKm _ (jVv hb e)))).2.1
  have un:∀ {τ7:St3} {G7:Gp} {H7:Hp},Inv3 X (pins++jV4 fp s5.heap) τ7 G7 H7 s7->Inv3 X pins τ7 G7 H7 s7:=fun ⟨σ7,I7,a,b⟩=>⟨σ7,I7.unpinned,a,b⟩
  cases f with
  | next=>obtain⟨τ7,G7,H7,e7,I7,n7⟩:=q7;exact again e7 I7 n7
  | cont=>obtain⟨τ7,G7,H7,e7,I7,n7⟩:=q7;exact again e7 I7 n7
  | brk=>obtain⟨τ7,G7,H7,e7,I7,q7⟩:=q7;exact⟨τ7,G7,H7,(eH.trans e36).trans e7,un I7,q7⟩
  | ret v=>obtain⟨x7,τ7,G7,H7,e7,I7,r7,q7⟩:=q7;exact⟨x7,τ7,G7,H7,(eH.trans e36).trans e7,un I7,r7,q7⟩
 ·have ei:i=xs.length:=by omega
  refine lVl hp (thn (T0.done X rfl rfl rfl hc i pins s3 σ3 H3 X.xe I3 (stat fr3) st3 (stop (by omega))) fun r s4 ⟨hr,I4⟩=> ?_)
  subst hr;subst ei
  exact wpAny_execs_nil ⟨τ3,G3,H3,eH.trans e3,⟨σ3,I4,hs3,hg3⟩,fin τ3 G3 p3⟩
def iSeq (tl:TE3):TI3:=fun τ G R=>tl τ G fun x G1=>∃xs,seqT G1 x=some xs/\R xs (fun G'=>seqT G' x=some xs) G1
theorem jQw {l:Expr} {tl:TE3} (hl:PE3 X l tl):PI3 X tg l (iSeq tl):=by
 intro pins s τ G H R I h
 refine thn (hl pins s τ G H _ I h) fun v s1 w_=>w_.el fun x G1 H1 e1 i_ r_ ⟨xs,hx,q⟩=>i_.el fun σ I1 hs1 hg1=>r_.el fun a ra rv=> ?_
 obtain⟨p,vs,e,hq,r⟩:=jUs hg1 ra hx
 subst e
 cases rv
 have fpk:∀b∈[s1.heap.objs.size],FpOk X pins H1 b:=fun b hb=>by
  have e:b=s1.heap.objs.size:=by simpa using hb
  subst e
  exact I1.fpOk (lJh _) (I1.hok.fresh (lJh _))
 rcases hq with hq | hq
 ·obtain⟨its,rv,pl,hz⟩:=I1.list hq
  refine wpAny_pyIter_list pl.isList ?_
  refine⟨s1.heap.objs.size,[s1.heap.objs.size],_,_,xs,fun G'=>seqT G' x=some xs,G1,H1,rfl,e1,⟨σ,I1.kept (t':=s1.toks) fun b o e=>lJm _ e,hs1,hg1⟩,qKc p _,⟨_,lJ3 _ rfl,rfl,rfl⟩,fpk,?_,q⟩
  intro i H2 G2 e2 g2 st
  have ra2:=Rep.mono e2 _ ra
  have now:∃ws,SqL X.K H2 p ws/\Reps X.K H2 xs ws:=by
   cases x with
   | scr ys=>cases hx;obtain⟨p',ws,ep,h1,h2⟩:=(show ∃p' ws,V.ref p= .ref p'/\FrL X.K H2 p' ws/\Reps X.K H2 xs ws from ra2);cases ep;exact⟨ws,h1.sq,h2⟩
   | ref p'=>cases (show V.ref p= .ref p' from ra);obtain⟨ws,h1,h2⟩:=g2.lst (jVz st);exact⟨ws,.of h1,h2⟩
   | tup ys=>
    obtain⟨p',ws,ep,h1,h2⟩:=(show ∃p' ws,V.ref p= .ref p'/\H1 p'=some (.tup ws)/\Reps X.K H1 ys ws from ra)
    cases ep
    exfalso
    obtain⟨its',_,pl',_⟩:=I1.tuple (.of h1)
    obtain⟨o,n,ho,hc,_⟩:=pl
    obtain⟨o',ho',hc',_⟩:=pl'
    rw[ho] at ho';cases ho'
    rw[hc] at hc';exact absurd hc' (by decide)
   | non=>cases hx
   | bl _=>cases hx
   | int _=>cases hx
   | str _=>cases hx
   | ty _=>cases hx
  obtain⟨ws,h1,h2⟩:=now
  have hlen:=h2.length
  refine⟨fun hi=> ?_,fun hi=>⟨ws,h1,by omega⟩,fun _ y H' ⟨eH,hy⟩=> ?_⟩
  ·exact⟨ws,ws[i]'(by omega),h1,by simp[hlen▸hi]⟩
  ·subst eH
   obtain⟨t,ht,rt⟩:=h2.get' (hy ws h1)
   exact⟨.refl _,g2,t,ht,rt⟩
 ·obtain⟨its,rv,pl,hz⟩:=I1.tuple hq
  refine wpAny_pyIter_tuple (show s1.heap.IsTuple p its.toArray from pl) ?_
  refine⟨s1.heap.objs.size,[s1.heap.objs.size],_,_,xs,fun G'=>seqT G' x=some xs,G1,H1,rfl,e1,⟨σ,I1.kept (t':=s1.toks) fun b o e=>lJm _ e,hs1,hg1⟩,kZy p _,⟨_,lJ3 _ rfl,rfl,rfl⟩,fpk,?_,q⟩
  intro i H2 G2 e2 g2 st
  have ra2:=Rep.mono e2 _ ra
  have now:∃ws,H2 p=some (.tup ws)/\Reps X.K H2 xs ws:=by
   cases x with
   | tup ys=>cases hx;obtain⟨p',ws,ep,h1,h2⟩:=(show ∃p' ws,V.ref p= .ref p'/\H2 p'=some (.tup ws)/\Reps X.K H2 xs ws from ra2);cases ep;exact⟨ws,h1,h2⟩
   | scr ys=>
    obtain⟨p',ws,ep,h1,h2⟩:=(show ∃p' ws,V.ref p= .ref p'/\FrL X.K H1 p' ws/\Reps X.K H1 ys ws from ra)
    cases ep
    exfalso
    obtain⟨its',_,pl',_⟩:=I1.list h1.sq
    obtain⟨o,n,ho,hc,_⟩:=pl'
    obtain⟨o',ho',hc',_⟩:=pl
    rw[ho] at ho';cases ho'
    rw[hc] at hc';exact absurd hc' (by decide)
   | ref p'=>
    cases (show V.ref p= .ref p' from ra)
    obtain⟨ws,h1,h2⟩:=hg1.lst (jVz hx)
    exfalso
    obtain⟨its',_,pl',_⟩:=I1.list (.of h1)
    obtain⟨o,n,ho,hc,_⟩:=pl'
    obtain⟨o',ho',hc',_⟩:=pl
    rw[ho] at ho';cases ho'
    rw[hc] at hc';exact absurd hc' (by decide)
   | non=>cases hx
   | bl _=>cases hx
   | int _=>cases hx
   | str _=>cases hx
   | ty _=>cases hx
  obtain⟨ws,h1,h2⟩:=now
  have hlen:=h2.length
  refine⟨fun hi=> ?_,fun hi=>⟨ws,.of h1,by omega⟩,fun _ y H' ⟨eH,hy⟩=> ?_⟩
  ·exact⟨ws,ws[i]'(by omega),.of h1,by simp[hlen▸hi]⟩
  ·subst eH
   obtain⟨t,ht,rt⟩:=h2.get' (hy ws (.of h1))
   exact⟨.refl _,g2,t,ht,rt⟩
def rngT (lo:Int) (n:Nat):List T:=(List.range n).map fun (k:Nat)=>T.int (lo+k)
def jJ6 (ta:TA3):TI3:=fun τ G R=>ta τ G fun vs G1=>∃j:Int,vs=[.int j]/\ -(2^62)<=j/\j<2^62/\R (rngT 0 j.toNat) (fun _=>True) G1
def uKr (ta:TA3):TI3:=fun τ G R=>ta τ G fun vs G1=>∃i j:Int,vs=[.int i,.int j]/\(-(2^62)<=i/\i<2^62/\ -(2^62)<=j/\j<2^62)/\R (rngT i (j-i).toNat) (fun _=>True) G1
theorem kU8 {K:PySem.W.Frag} {H:Hp} (lo:Int) (n:Nat):uQj K H (Itr lo n) (rngT lo n) fun _=>True:=by
 intro i H' G e g _
 have hl:(rngT lo n).length=n:=by simp[rngT]
 refine⟨fun h=>by rw[hl] at h;exact h,fun h=>by rw[hl] at h;exact h,fun hi x H2 ⟨eH,ex⟩=> ?_⟩
 rw[hl] at hi
 subst eH;subst ex
 exact⟨.refl _,g,.int (lo+i),by simp[rngT,hi],rfl⟩
theorem jJ3 {a:Expr} {ta:TA3} {p:Pos} (hg:Gl X "range") (hm:X.mg "range"=none) (ha:PA3 X [a] ta) (hs:starEach [a] X.env=[(false,eval a X.env)]:=by rfl):PI3 X tg (.Call (.Name "range" p) [a] [] pos) (jJ6 ta):=by
 intro pins s τ G H R I h
 obtain⟨σ,I0,hs0,hg0⟩:=id I
 refine Call_ (jUu I0 hg hm boot_range (lQg (thn (ha pos pins s τ G H _ I h) fun us s1 w_=>w_.el fun xs G1 H1 e1 i_ r_ q1=>i_.el fun σ I1 hs1 hg1=>r_.el fun as ras rvs=> ?_) hs rfl))
 obtain⟨j,e,q1,q2,q⟩:=q1
 subst e
 obtain⟨v,rfl,rv⟩:=jVl ras
 cases (show v= .int j from rv)
 obtain⟨u,rfl,ru⟩:=rvs.one
 obtain⟨t,rfl⟩:=ru
 refine call_range_1 (thn (kYv (tg:=tg) (R:=fun J H'=>J=Itr 0 j.toNat/\H'=H1) I1 (by omega) (by omega) q1 q2 ⟨by simp,rfl⟩) fun itv s2 z=> ?_)
 obtain⟨it,fp,tn,J,H',ei,I2,T0,st,fk,eJ,eH⟩:=z
 subst eJ;subst eH
 exact⟨it,fp,tn,_,rngT 0 j.toNat,fun _=>True,G1,H',ei,e1,⟨σ,I2,hs1,hg1⟩,T0,st,fk,kU8 0 j.toNat,q⟩
theorem qYh {a b:Expr} {ta:TA3} {p:Pos} (hg:Gl X "range") (hm:X.mg "range"=none) (ha:PA3 X [a,b] ta) (hs:starEach [a,b] X.env=[(false,eval a X.env),(false,eval b X.env)]:=by rfl) (hs2:starEach [b] X.env=[(false,eval b X.env)]:=by rfl):
  PI3 X tg (.Call (.Name "range" p) [a,b] [] pos) (uKr ta):=by
 intro pins s τ G H R I h
 obtain⟨σ,I0,hs0,hg0⟩:=id I
 refine Call_ (jUu I0 hg hm boot_range (lQg (thn (ha pos pins s τ G H _ I h) fun us s1 w_=>w_.el fun xs G1 H1 e1 i_ r_ q1=>i_.el fun σ I1 hs1 hg1=>r_.el fun as ras rvs=> ?_) (by rw[hs,hs2]) (by rw[hs2];rfl)))
 obtain⟨i,j,e,⟨q1,q2,q3,q4⟩,q⟩:=q1
 subst e
 obtain⟨v,w,rfl,rv,rw'⟩:=kZ7 ras
 cases (show v= .int i from rv);cases (show w= .int j from rw')
 obtain⟨u,u',rfl,ru,ru'⟩:=rvs.two
 obtain⟨t,rfl⟩:=ru
 obtain⟨t',rfl⟩:=ru'
 refine call_range_2 (thn (kYv (tg:=tg) (R:=fun J H'=>J=Itr i (j-i).toNat/\H'=H1) I1 q1 q2 q3 q4 ⟨rfl,rfl⟩) fun itv s2 z=> ?_)
 obtain⟨it,fp,tn,J,H',ei,I2,T0,st,fk,eJ,eH⟩:=z
 subst eJ;subst eH
 exact⟨it,fp,tn,_,rngT i (j-i).toNat,fun _=>True,G1,H',ei,e1,⟨σ,I2,hs1,hg1⟩,T0,st,fk,kU8 i (j-i).toNat,q⟩
end
abbrev Sp3:=List T->Gp->VK3->Prop
def dn (K:PySem.W.Frag) (n:Nat) (sp:Sp3):Sp:=fun vs H Q _=>vs.length=n/\∃xs G,Reps K H xs vs/\GRel K H G/\sp xs G fun t G'=>∀v H',Ext H H'->GRel K H' G'->Rep K H' t v->Q v H'
def Fn3 (P:Program) (w:World) (K:PySem.W.Frag) (mg:Str->Option Value) (base:Heap) (k:Nat) (f:Addr) (fd:FuncData) (ps:List Str) (sp:Sp3):Prop:=FnOk P w K mg base CX0 k f fd ps (dn K ps.length sp)
def jJr (sp:Sp3) (t:TA3):TE3:=fun τ G Q=>t τ G fun xs G1=>sp xs G1 Q
def Mono (sp:Sp3):Prop:=∀xs G Q Q',(∀t G',Q t G'->Q' t G')->sp xs G Q->sp xs G Q'
def jXl (N:List Str) (xs:List T):St3:=xs.map some++List.replicate (N.length-xs.length) none
theorem qKk {K:PySem.W.Frag} {H:Hp} {N:List Str} {xs:List T} {vs:List V} (r:Reps K H xs vs):SRel K H (start N vs) (jXl N xs):=by
 have hl:=r.length
 refine⟨by simp[L2.start,jXl,hl],fun i t h=> ?_⟩
 unfold jXl at h
 unfold L2.start
 by_cases hi:i<xs.length
 ·rw[lKr (by simpa using hi),lJn] at h
  cases e:xs[i]? with
  | none=>rw[e] at h;cases h
  | some x=>
   rw[e] at h;cases h
   obtain⟨v,hv,rv⟩:=r.get e
   exact⟨v,by rw[lKr (by simp;omega),lJn,hv];rfl,rv⟩
 ·rw[lVf (by simpa using hi),lXn] at h
  split at h<;>cases h
theorem fn3 {P:Program} {w:World} {K:PySem.W.Frag} {mg:Str->Option Value} {base:Heap} {x qual:Str} {st:Stmt} {f:Addr} {fd:FuncData} {N ps:List Str} {k:Nat} {sp:Sp3} (F:Fun K x qual st f fd) (S:FnScope N ps (jJv st))
  (hbody:∀(cdv:Value) (A:Around) (outer:List Env) (s:Shared) (H:Hp) (E:XK),Room k (A.deeper (envOfC qual (jJv st) s.heap.objs.size f cdv))->
   ∃t,PSs3 (cxOf CX0 P w K mg base N qual (jJv st) f cdv A outer s H E).nox (jQc st) t/\∀xs G Q,sp xs G Q->t {nx:=fun _ G'=>Q .non G',rt:=Q} (jXl N xs) G):Fn3 P w K mg base (k+1) f fd ps sp:=by
 refine Fun.ok (sp:=dn K ps.length sp) F S (fun vs H Q E h=>h.1) fun cdv A outer s H vs Q E hr hsp=> ?_
 obtain⟨t,ht,hq⟩:=hbody cdv A outer s H E hr
 obtain⟨hl,xs,G,rs,hg,hsp⟩:=hsp
 refine⟨fun D σ H1=>D.nx=(fun _ H'=>Q .non H')/\D.rt=Q/\σ=L2.start N vs/\H1=H,?_,rfl,rfl,rfl,rfl⟩
 rintro pins s1 σ1 H1 D I ⟨e1,e2,e3,e4⟩
 subst e3;subst e4
 have I3:Inv3 (cxOf CX0 P w K mg base N qual (jJv st) f cdv A outer s H1 E).nox pins (jXl N xs) G H1 s1:=⟨_,I,qKk rs,hg⟩
 refine thn (ht pins s1 _ G H1 _ I3 (hq xs G _ hsp)) fun fl s2 z=> ?_
 cases fl with
 | next=>obtain⟨τ',G',H',e',⟨σ',I',a,b⟩,q⟩:=z;exact⟨σ',H',I',by rw[e1];exact q .non H' e' b rfl⟩
 | brk=>obtain⟨τ',G',H',e',_,q⟩:=z;exact q.elim
 | cont=>obtain⟨τ',G',H',e',_,q⟩:=z;exact q.elim
 | ret u=>obtain⟨x',τ',G',H',e',⟨σ',I',a,b⟩,⟨v,rv,ru⟩,q⟩:=z;exact⟨v,σ',H',I',ru,by rw[e2];exact q v H' e' b rv⟩
mutual
noncomputable def dep:T->Nat
 | .tup xs=>deps xs+1
 | _=>0
noncomputable def deps:List T->Nat
 | []=>0
 | x::xs=>max (dep x) (deps xs)
end
mutual
noncomputable def tree:T->Bool
 | .tup xs=>jQm xs
 | .ref _=>false
 | .scr _=>false
 | .ty _=>false
 | .non=>true
 | .bl _=>true
 | .int _=>true
 | .str _=>true
noncomputable def jQm:List T->Bool
 | []=>true
 | x::xs=>tree x&&jQm xs
end
mutual
noncomputable def eqT:T->T->Bool
 | .non,.non=>true
 | .bl a,.bl b=>a == b
 | .bl a,.int b=>(if a then 1 else 0) == b
 | .int a,.bl b=>a == (if b then 1 else 0)
 | .int a,.int b=>a == b
 | .str a,.str b=>a == b
 | .tup xs,.tup ys=>eqTs xs ys
 | _,_=>false
noncomputable def eqTs:List T->List T->Bool
 | [],[]=>true
 | x::xs,y::ys=>eqT x y&&eqTs xs ys
 | [],_::_=>false
 | _::_,[]=>false
end
mutual
theorem qYr {K:PySem.W.Frag} {H:Hp}:∀(x y:T) {a:V},tree x=true->tree y=true->Rep K H x a->Rep K H y a->eqT x y=true
 | .non,y,a,hx,hy,r,q=>by
  cases (show a= .non from r)
  cases y<;>first | rfl | (exact absurd (show false=true from hy) lJp) | (cases (show V.non=_ from q)) | (obtain⟨_,_,e,_⟩:=(show ∃c vs,V.non= .ref c/\_ from q);cases e)
 | .bl b,y,a,hx,hy,r,q=>by
  cases (show a= .bl b from r)
  cases y with
  | bl c=>cases (show V.bl b=V.bl c from q);simp[eqT]
  | tup ys=>obtain⟨_,_,e,_⟩:=(show ∃c vs,V.bl b= .ref c/\_ from q);cases e
  | non=>cases (show V.bl b= .non from q)
  | int c=>cases (show V.bl b= .int c from q)
  | str c=>cases (show V.bl b= .str c from q)
  | _=>exact absurd (show false=true from hy) lJp
 | .int b,y,a,hx,hy,r,q=>by
  cases (show a= .int b from r)
  cases y with
  | int c=>cases (show V.int b=V.int c from q);simp[eqT]
  | tup ys=>obtain⟨_,_,e,_⟩:=(show ∃c vs,V.int b= .ref c/\_ from q);cases e
  | non=>cases (show V.int b= .non from q)
  | bl c=>cases (show V.int b= .bl c from q)
  | str c=>cases (show V.int b= .str c from q)
  | _=>exact absurd (show false=true from hy) lJp
 | .str b,y,a,hx,hy,r,q=>by
  cases (show a= .str b from r)
  cases y with
  | str c=>cases (show V.str b=V.str c from q);simp[eqT]
  | tup ys=>obtain⟨_,_,e,_⟩:=(show ∃c vs,V.str b= .ref c/\_ from q);cases e
  | non=>cases (show V.str b= .non from q)
  | bl c=>cases (show V.str b= .bl c from q)
  | int c=>cases (show V.str b= .int c from q)
  | _=>exact absurd (show false=true from hy) lJp
 | .tup xs,y,a,hx,hy,r,q=>by
  obtain⟨p,vs,e,h1,h2⟩:=(show ∃p vs,a= .ref p/\H p=some (.tup vs)/\Reps K H xs vs from r)
  subst e
  cases y with
  | tup ys=>
   obtain⟨p',vs',e',h1',h2'⟩:=(show ∃p' vs',V.ref p= .ref p'/\H p'=some (.tup vs')/\Reps K H ys vs' from q)
   cases e'
   rw[h1] at h1';cases h1'
   exact kVh xs ys (show jQm xs=true from hx) (show jQm ys=true from hy) h2 h2'
  | non=>cases (show V.ref p= .non from q)
  | bl c=>cases (show V.ref p= .bl c from q)
  | int c=>cases (show V.ref p= .int c from q)
  | str c=>cases (show V.ref p= .str c from q)
  | _=>exact absurd (show false=true from hy) lJp
 | .ref _,_,_,hx,_,_,_=>absurd (show false=true from hx) lJp
 | .scr _,_,_,hx,_,_,_=>absurd (show false=true from hx) lJp
 | .ty _,_,_,hx,_,_,_=>absurd (show false=true from hx) lJp
theorem kVh {K:PySem.W.Frag} {H:Hp}:∀(xs ys:List T) {vs:List V},jQm xs=true->jQm ys=true->Reps K H xs vs->Reps K H ys vs->eqTs xs ys=true
 | [],ys,_,_,_,r,q=>by
  cases r
  cases ys with
  | nil=>rfl
  | cons y ys=>obtain⟨_,_,e,_⟩:=q;cases e
 | x::xs,ys,_,hx,hy,⟨v,ws,e,r1,r2⟩,q=>by
  subst e
  cases ys with
  | nil=>cases q
  | cons y ys=>
   obtain⟨v',ws',e',q1,q2⟩:=q
   cases e'
   have hx':tree x=true/\jQm xs=true:=by simpa[jQm] using hx
   have hy':tree y=true/\jQm ys=true:=by simpa[jQm] using hy
   show (eqT x y&&eqTs xs ys)=true
   rw[qYr x y hx'.1 hy'.1 r1 q1,kVh xs ys hx'.2 hy'.2 r2 q2]
   rfl
end
section
variable {X:Cx}
def rSub:R3:=rI0 fun i j=> .int (i-j)
def rMod:R3:=rI (fun _ j=>0<j) fun i j=> .int (i%j)
def rFdiv:R3:=rI CDiv fun i j=> .int (i / j)
def rPow:R3:=rI CPow fun i j=> .int (i^j.toNat)
def rLt:R3:=rI0 fun i j=> .bl (decide (i<j))
def rGt:R3:=rI0 fun i j=> .bl (decide (j<i))
def rGe:R3:=rI0 fun i j=> .bl (decide (j<=i))
def rIsN:R3:=fun x y G Q=>y= .non/\Q (.bl (kU9 x)) G
def uJo:R3:=fun x y G Q=>y= .non/\Q (.bl (!kU9 x)) G
def qXh:R3:=fun x y G Q=>∃xs ys,x= .tup xs/\y= .tup ys/\xs≠[]/\xs.length+ys.length<=sizeLine/\Q (.tup (xs++ys)) G
theorem o_catT:Op3 X (binaryOp .Add) qXh:=
 Op3.of uJy fun H G x y a b Q hg ra rb ⟨xs,ys,ex,ey,hx,hz,q⟩=>by
  subst ex;subst ey
  obtain⟨p,vs,e1,h1,h2⟩:=(show ∃p vs,a= .ref p/\H p=some (.tup vs)/\Reps X.K H xs vs from ra)
  obtain⟨p',ws,e2,h3,h4⟩:=(show ∃p vs,b= .ref p/\H p=some (.tup vs)/\Reps X.K H ys vs from rb)
  subst e1;subst e2
  have l1:=h2.length
  have l2:=h4.length
  refine⟨p,p',vs,ws,rfl,rfl,.of h1,.of h3,fun z=>hx ?_,by omega,fun z=> ?_,fun z l hl=> ?_⟩
  ·rw[z] at l1;exact lQh.mp l1
  ·rw[z] at l2
   have:ys=[]:=lQh.mp l2
   subst this
   exact⟨.tup (xs++[]),G,.refl H,hg,by rw[lQn];exact ra,q⟩
  ·exact⟨.tup (xs++ys),G,.upd (.none hl),hg.tupNew hl,Rep.tupNew (h2.append h4) hl,q⟩
def rAddI:R3:=rI0 fun i j=> .int (i+j)
def rAddA:R3:=fun x y G Q=>rAddI x y G Q\/rCat x y G Q\/qXh x y G Q
theorem o_addA:Op3 X (binaryOp .Add) rAddA:=o_add.or (o_cat.or o_catT)
def rMulI:R3:=rI CMul fun i j=> .int (i*j)
def rMulA:R3:=fun x y G Q=>rMulI x y G Q\/rRep x y G Q
theorem o_mulA:Op3 X (binaryOp .Mult) rMulA:=o_mul.or o_rep
def rNeg:T->Gp->VK3->Prop:=fun x G Q=>∃i,x= .int i/\Q (.int (-i)) G
theorem u_neg:Un3 X (unaryOp .USub) rNeg:=
 Un3.of un_neg fun H G x a Q hg ra ⟨i,e,q⟩=>by
  subst e;cases (show a= .int i from ra)
  exact⟨i,rfl,.int (-i),G,.refl H,hg,rfl,q⟩
theorem jJu (b:Expr) {op:CmpOp} (h:behindInMarks op b=false:=by first | exact nomark _ | with_unfolding_all rfl):behindInMarks op b=false:=h
variable {a b c:Expr} {ta tb tc:TE3} {pos:Pos}
theorem qKe {op op':CmpOp} {r r':R3} (ho:Op3 X (compareOp op) r) (ho':Op3 X (compareOp op') r') (ha:PE3 X a ta) (hb:PE3 X b tb) (hc:PE3 X c tc)
  (hm:lastMarks [op,op'] [b,c]=false:=by with_unfolding_all rfl):PT3 X (.Compare a [op,op'] [b,c] pos) (jJ1 (kUj r r' ta tb tc)):=by
 intro pins s τ G H Q I h
 refine isTrue_chain (thn (ha pins s τ G H _ I h) fun v s1 w_=>w_.el fun x G1 H1 e1 I1 r1 q1=>test_link (thn (hb pins s1 τ G1 H1 _ I1 q1) fun u s2 ⟨y,G2,H2,e2,I2,r2,q2⟩=>
  thn (ho pins s2 τ G2 H2 x y v u _ I2 (r1.mono e2) r2 q2) fun d s3 w_=>w_.el fun z G3 H3 e3 I3 r_ ⟨k,e,q3⟩=>r_.el fun v' rv' ru'=> ?_)) hm
 subst e
 cases (show v'= .bl k from rv');cases ru'
 refine lV3 ?_
 cases k with
 | false=>
  obtain⟨k',e',q'⟩:=q3
  cases e'
  exact ite_ff ⟨G3,H3,(e1.trans e2).trans e3,I3,q'⟩
 | true=>
  refine ite_tt (test_last (thn (hc pins s3 τ G3 H3 _ I3 q3) fun w' s4 w_=>w_.el fun z' G4 H4 e4 I4 r4 q4=>thn (ho' pins s4 τ G4 H4 y z' u w' _ I4 (r2.mono (e3.trans e4)) r4 q4) fun d' s5 w_=>w_.el fun z2 G5 H5 e5 I5 r_ ⟨k2,e2',q5⟩=>r_.el fun v2 rv2 ru2=> ?_))
  subst e2'
  cases (show v2= .bl k2 from rv2);cases ru2
  exact lV3 ⟨G5,H5,(((e1.trans e2).trans e3).trans e4).trans e5,I5,q5⟩
mutual
noncomputable def td:T->PyData
 | .tup xs=> .tuple (tds xs)
 | .int i=> .int i
 | .bl b=> .bool b
 | .str x=> .str x
 | .non=> .none
 | .ref _=> .none
 | .scr _=> .none
 | .ty _=> .none
noncomputable def tds:List T->List PyData
 | []=>[]
 | x::xs=>td x::tds xs
end
def eqOk (x:T):Bool:=tree x&&(td x).canLay0&&decide ((td x).depth<=50)
def kX1 (xs:List T):Bool:=jQm xs&&PyData.canLayAll0 (tds xs)&&decide ((PyData.list (tds xs)).depth<=50)
noncomputable def eqG (G:Gp) (x y:T):Option Bool:=match x,y with
 | .ref p,.ref q=>match G p,G q with
  | some (.lst xs),some (.lst ys)=>if kX1 xs=true/\kX1 ys=true then some (eqTs xs ys) else none
  | _,_=>none
 | _,_=>if eqOk x=true/\eqOk y=true then some (eqT x y) else none
def rEqA:R3:=fun x y G Q=>∃b,eqG G x y=some b/\Q (.bl b) G
def rNeA:R3:=fun x y G Q=>∃b,eqG G x y=some b/\Q (.bl (!b)) G
noncomputable def truT (G:Gp):T->Option Bool
 | .non=>some false
 | .bl b=>some b
 | .int i=>some (i != 0)
 | .tup xs=>some (!xs.isEmpty)
 | .ref p=>match G p with
  | some (.lst xs)=>some (!xs.isEmpty)
  | some (.dck kvs)=>some (!kvs.isEmpty)
  | _=>none
 | _=>none
def rTru:T->Gp->(Bool->Gp->Prop)->Prop:=fun x G Q=>∃b,truT G x=some b/\Q b G
theorem jYu {K:PySem.W.Frag} {H:Hp} {xs:List T} {vs:List V} (r:Reps K H xs vs):xs.isEmpty=vs.isEmpty:=by
 have:=r.length
 cases xs<;>cases vs<;>simp_all
theorem kVz:Tru3 X rTru:=
 Tru3.of tru_ok fun H G x a Q hg ra ⟨b,hb,q⟩=>by
  refine⟨b,?_,rfl,q⟩
  cases x with
  | non=>cases (show a= .non from ra);cases hb;rfl
  | bl k=>cases (show a= .bl k from ra);cases hb;rfl
  | int k=>cases (show a= .int k from ra);cases hb;rfl
  | tup xs=>
   obtain⟨p,vs,e1,h1,h2⟩:=(show ∃p vs,a= .ref p/\H p=some (.tup vs)/\Reps X.K H xs vs from ra)
   subst e1;cases hb
   exact .inr (.inl ⟨vs,.of h1,by rw[jYu h2]⟩)
  | ref p=>
   cases (show a= .ref p from ra)
   cases hG:G p with
   | none=>simp only[truT,hG] at hb;cases hb
   | some o=>
    simp only[truT,hG] at hb
    cases o with
    | lst xs=>cases hb;obtain⟨vs,h1,h2⟩:=hg.lst hG;exact .inl ⟨vs,.of h1,by rw[jYu h2]⟩
    | dct _=>cases hb
    | fdc _=>cases hb
    | ins _ _=>cases hb
    | dck kvs=>
     cases hb
     obtain⟨ws,h1,h2⟩:=hg p _ hG
     refine .inr (.inr ⟨ws,h1,?_⟩)
     cases h2<;>rfl
  | str _=>cases hb
  | scr _=>cases hb
  | ty _=>cases hb
end
section
variable {X:Cx} {pins:List (Addr×Obj)} {σ:L2.St} {H:Hp} {s:Shared} {h':Heap}
theorem qKb {t':Nat} {fp:List Addr} (I:Inv X pins σ H s) (k:∀b o,b∉fp->s.heap.get? b=some o->h'.get? b=some o) (hf:∀b∈fp,FpOk X pins H b):Inv X pins σ H {s with heap:=h',toks:=t'}:=by
 have nit:∀b u,H b=some u->b∉fp:=fun b u e z=>by rw[(hf b z).1] at e;cases e
 refine I.step (g':=s.gens) (d':=s.drawn) (ch:=fp) (fun b hb=>⟨(hf b hb).2.2.2.1,(hf b hb).2.1,(hf b hb).2.2.2.2.1,(hf b hb).2.2.2.2.2⟩) (fun b o _ _ hc e _=>k b o hc e) (fun b o _ _ hc e _=>⟨o.slots,k b o hc e⟩) (fun _ _ _ _ n=>n)
  (fun b o hc e=>⟨o,k b o hc e⟩) (fun _ _ e=>e) (fun _ _ _ e=>e) (fun b ps e=>⟨#[],by rw[e];simp⟩) (fun m hm=> ?_) (fun b u e=> ?_) I.bare
 ·obtain⟨o,es,ep,ho,r⟩:=hm
  exact⟨o,es,ep,k _ o (fun z=>(hf _ z).2.1 rfl) ho,r⟩
 ·refine (I.hok b u e).stay (fun c v hc q=>k c v ?_ q) (fun _ q=>q) fun _ _ q=>q
  rcases hc with z | z
  ·rw[z];exact nit b u e
  ·exact nit c _ z
theorem kUh {t':Nat} {fp:List Addr} {p:Addr} {vs:List V} {us:List Value} (I:Inv X pins σ H s) (k:∀b o,b∉fp->s.heap.get? b=some o->h'.get? b=some o) (hf:∀b∈fp,FpOk X pins H b)
  (hp:s.heap.objs.size<=p) (ht:TupD h' p us.toArray) (r:Vals vs us) (hz:vs.length<=sizeLine):Inv X pins σ (upd H p (.tup vs)) {s with heap:=h',toks:=t'}:=by
 have hn:H p=none:=I.hok.fresh hp
 have nit:∀b u,H b=some u->b∉fp:=fun b u e z=>by rw[(hf b z).1] at e;cases e
 have old:∀b o,s.heap.get? b=some o->b≠p:=fun b o e=>lJw (lKb (lJj e) hp)
 have tr:∀b u,H b=some u->b≠p:=fun b u e z=>by rw[z,hn] at e;cases e
 refine I.step (g':=s.gens) (d':=s.drawn) (ch:=fp) (fun b hb=>⟨(hf b hb).2.2.2.1,(hf b hb).2.1,(hf b hb).2.2.2.2.1,(hf b hb).2.2.2.2.2⟩) (fun b o _ _ hc e _=>k b o hc e) (fun b o _ _ hc e _=>⟨o.slots,k b o hc e⟩) (fun b o _ e n=>by rw[jJ5 (old b o e)];exact n)
  (fun b o hc e=>⟨o,k b o hc e⟩) (fun b _ e=>by rw[jJ5 (tr b _ e)];exact e) (fun b _ _ e=>by rw[jJ5 (tr b _ e)];exact e) (fun b ps e=>⟨#[],by rw[jJ5 (tr b _ e),e];simp⟩) (fun m hm=> ?_) (fun b u e=> ?_) I.bare
 ·obtain⟨o,es,ep,ho,r⟩:=hm
  exact⟨o,es,ep,k _ o (fun z=>(hf _ z).2.1 rfl) ho,r⟩
 ·by_cases hb:b=p
  ·subst hb
   rw[jKt] at e
   cases e
   exact⟨hz,us,r,ht⟩
  ·rw[jJ5 hb] at e
   refine (I.hok b u e).stay (fun c v hc q=>k c v ?_ q) (fun c q=>by rw[jJ5 (tr c _ q)];exact q) fun c _ q=>by rw[jJ5 (tr c _ q)];exact q
   rcases hc with z | z
   ·rw[z];exact nit b u e
   ·exact nit c _ z
end
noncomputable def Ite (K:PySem.W.Frag) (a:Addr):It:=
 ⟨fun i H=>∃xs x,SqL K H a xs/\xs[i]? =some x,fun i H x H'=>∃p y,H p=none/\x= .ref p/\(∀xs,SqL K H a xs->xs[i]? =some y)/\H'=upd H p (.tup [.int i,y]),fun i H=>∃xs,SqL K H a xs/\xs.length<=i⟩
theorem qKd {P:Program} {w:World} {K:PySem.W.Frag} {elts:List Expr} {k:Nat} {pos:Pos} (a e it:Addr) (hei:e≠it):
  Turn P w K (.Tuple elts k pos) (Ite K a) [e,it] e (fun i h=>(∃old,IsEnum h e it i old)/\h.IsListIter it a i) where
 mem:=by simp
 obj:=fun i h ⟨⟨old,h1⟩,h2⟩ b hb=>by
  have hb':b=e\/b=it:=by simpa using hb
  rcases hb' with z | z
  ·subst z;exact⟨_,h1,fun v z=>nomatch (show Data.fields _=Data.cell v from z)⟩
  ·subst z
   obtain⟨o,e2,c,d⟩:=h2
   exact⟨o,e2,fun v z=>by rw[d] at z;cases z⟩
 keep:=fun i h h' ⟨⟨old,h1⟩,h2⟩ kp=>⟨⟨old,kp e (by simp) _ h1⟩,h2.at fun o q=>kp it (by simp) o q⟩
 item:=by
  rintro X hP hw hK hc i pins s σ H E I hf ⟨⟨old,he⟩,hit⟩ hg
  subst hP hw hK
  obtain⟨xs,x,hq,hx⟩:=hg
  obtain⟨its,rv,p,hz⟩:=I.list hq
  obtain⟨u,hu,ru⟩:=rv.get hx
  refine wpAny_pyNext_enum_item he hit p.isList (x:=u) (by simpa using hu) hei fun h1 ho hit1 hT hsz hk=> ?_
  refine⟨_,rfl,wpAny_letOwnedTupleGo_enum ho fun h2 he2 hs2=> ?_⟩
  have hel:e<s.heap.objs.size:=lJj he
  have hp2:∀b o,b∉[e,it]->s.heap.get? b=some o->h2.get? b=some o:=fun b o hb q=>by
   have hb1:b≠e:=fun z=>hb (by simp[z])
   have hb2:b≠it:=fun z=>hb (by simp[z])
   exact (hs2.2 b hb1).trans (hk b o hb1 hb2 q)
  have hT2:h2.get? s.heap.objs.size=some {cls:= .type "tuple",data:= .seq #[.int i s.toks,u]}:=(hs2.2 _ (lVd hel)).trans hT
  have I2:=kUh (t':=s.toks+1) (h':=h2) (p:=s.heap.objs.size) (vs:=[.int i,x]) (us:=[.int i s.toks,u]) I hp2 hf (lJh _) ⟨_,hT2,rfl,_,rfl,rfl⟩ (.cons ⟨_,rfl⟩ (.cons ru .nil)) (by show 2<=sizeLine;decide)
  refine⟨.ref s.heap.objs.size,_,I2,rfl,⟨_,x,I.hok.fresh (lJh _),rfl,fun ys hy=>by rw[I.list_inj hy hq];exact hx,rfl⟩,⟨⟨u,by simpa using he2⟩,hit1.at fun o q=>(hs2.2 it hei.symm).trans q⟩,fun b hb=> ?_⟩
  have hbs:∃o,s.heap.get? b=some o:=by
   have hb':b=e\/b=it:=by simpa using hb
   rcases hb' with z | z
   ·subst z;exact⟨_,he⟩
   ·subst z;obtain⟨o,q,_⟩:=hit;exact⟨o,q⟩
  obtain⟨o,q⟩:=hbs
  rw[jJ5 (lJw (lJj q))]
  exact (hf b hb).1
 done:=by
  rintro X hP hw hK hc i pins s σ H E I hf ⟨⟨old,he⟩,hit⟩ hg
  subst hP hw hK
  obtain⟨xs,hq,hx⟩:=hg
  obtain⟨its,rv,p,hz⟩:=I.list hq
  have hl:=rv.length
  exact wpAny_pyNext_enum_end (I.ok.hd hc) he hit p.isList (by simp;omega) fun h1 hx1=>⟨rfl,qKb (t':=s.toks) I (fun b o hb q=>hx1 b o (fun z=>hb (by simp[z])) q) hf⟩
 self:=fun _ _ _ _ _ ⟨⟨old,he⟩,_⟩ h=>lXx he h
def numT (xs:List T):List T:=(List.range xs.length).map fun (i:Nat)=>T.tup [.int i,xs.getD i .non]
theorem jU5 {xs:List T} {i:Nat} {x:T} (h:xs[i]? =some x):(numT xs)[i]? =some (.tup [.int i,x]):=by
 have hi:i<xs.length:=by
  rcases lKk i xs.length with z | z
  ·exact z
  ·rw[lJ4 z] at h;cases h
 have hx:xs[i]=x:=(lJe.mp h).2
 simp[numT,hi,List.getD,hx]
theorem jKk {xs:List T}:(numT xs).length=xs.length:=by simp[numT]
def jQ8 (G:Gp):T->Option (List T)
 | .ref p=>asL (G p)
 | .scr xs=>some xs
 | _=>none
theorem jU6 {K:PySem.W.Frag} {H:Hp} {G:Gp} {x:T} {a:V} {xs:List T} (hg:GRel K H G) (r:Rep K H x a) (h:jQ8 G x=some xs):∃p vs,a= .ref p/\SqL K H p vs/\Reps K H xs vs:=by
 cases x with
 | scr ys=>cases h;obtain⟨p,vs,e,h1,h2⟩:=(show ∃p vs,a= .ref p/\FrL K H p vs/\Reps K H xs vs from r);exact⟨p,vs,e,h1.sq,h2⟩
 | ref p=>
  obtain⟨vs,h1,h2⟩:=hg.lst (jVz h)
  exact⟨p,vs,r,.of h1,h2⟩
 | tup _=>cases h
 | non=>cases h
 | bl _=>cases h
 | int _=>cases h
 | str _=>cases h
 | ty _=>cases h
def kQx (ta:TA3):TI3:=fun τ G R=>ta τ G fun vs G1=>∃x xs,vs=[x]/\jQ8 G1 x=some xs/\R (numT xs) (fun G'=>jQ8 G' x=some xs) G1
theorem kY8 {X:Cx} {elts:List Expr} {k:Nat} {tpos pos p:Pos} {a:Expr} {ta:TA3} (hg:Gl X "enumerate") (hm:X.mg "enumerate"=none) (hv:bootBuiltins "enumerate"=some (.type "enumerate")) (ha:PA3 X [a] ta) (hs:starEach [a] X.env=[(false,eval a X.env)]:=by rfl):
  PI3 X (.Tuple elts k tpos) (.Call (.Name "enumerate" p) [a] [] pos) (kQx ta):=by
 intro pins s τ G H R I h
 obtain⟨σ0,I0,hs0,hg0⟩:=id I
 refine Call_ (jUu I0 hg hm hv (lQg (thn (ha pos pins s τ G H _ I h) fun us s1 w_=>w_.el fun xs' G1 H1 e1 i_ r_ q1=>i_.el fun σ I1 hs1 hg1=>r_.el fun as ras rvs=> ?_) hs rfl))
 obtain⟨x,xs,e,hx,q⟩:=q1
 subst e
 obtain⟨v,rfl,rv⟩:=jVl ras
 obtain⟨u,rfl,ru⟩:=rvs.one
 obtain⟨pa,vs,rfl,hq,r⟩:=jU6 hg1 rv hx
 cases ru
 obtain⟨its,rvv,pl,hz⟩:=I1.list hq
 refine call_enumerate_list pl.isList fun h1 he hit hsz hk=> ?_
 have I2:Inv X pins σ H1 {s1 with heap:=h1}:=I1.kept (t':=s1.toks) hk
 refine lXx (Q:=PIE3 X pins τ H (.Tuple elts k tpos) R) he ?_
 have fr:∀b∈[s1.heap.objs.size+1,s1.heap.objs.size],FpOk X pins H1 b:=fun b hb=>by
  have hb':b=s1.heap.objs.size+1\/b=s1.heap.objs.size:=by simpa using hb
  have hle:s1.heap.objs.size<=b:=by omega
  exact I1.fpOk hle (I1.hok.fresh hle)
 refine⟨s1.heap.objs.size+1,[s1.heap.objs.size+1,s1.heap.objs.size],_,_,numT xs,fun G'=>jQ8 G' x=some xs,G1,H1,rfl,e1,⟨σ,I2,hs1,hg1⟩,qKd pa _ _ (Nat.succ_ne_self _),⟨⟨.none,he⟩,hit⟩,fr,?_,q⟩
 intro i H2 G2 e2 g2 st
 obtain⟨pb,ws,eb,h1,h2⟩:=jU6 g2 (Rep.mono e2 _ rv) st
 cases eb
 have hlen:=h2.length
 refine⟨fun hi=> ?_,fun hi=>⟨ws,h1,by rw[jKk] at hi;omega⟩,fun hi y H' ⟨pp,z,hn,ey,hy,eH⟩=> ?_⟩
 ·rw[jKk] at hi
  exact⟨ws,ws[i]'(by omega),h1,by simp[hlen▸hi]⟩
 ·subst ey;subst eH
  obtain⟨t,ht,rt⟩:=h2.get' (hy ws h1)
  exact⟨.upd (.none hn),g2.tupNew hn,_,jU5 ht,Rep.tupNew ⟨_,_,rfl,rfl,_,_,rfl,rt,rfl⟩ hn⟩
noncomputable def clGo (env:Env):List (Str×NameKind)->List (Str×Addr)->Option (List (Str×Addr))
 | [],cs=>some cs
 | (n,k)::r,cs=>if (k == .free)=true then (match env.cells.lookup n with | some c=>clGo env r ((n,c)::cs) | none=>none) else clGo env r cs
theorem kKx {scope:Scope} {env:Env} {cl:List (Str×Addr)} (h:clGo env scope.names []=some cl):closureFor scope env=pure cl:=by
 unfold closureFor
 have go:∀(names:List (Str×NameKind)) (cs:List (Str×Addr)),clGo env names cs=some cl->
   (forIn names cs fun (x:Str×NameKind) (r:List (Str×Addr))=>(match x with | (nm,kd)=>if (kd == .free)=true then cellOf env nm >>= fun a=>pure (ForInStep.yield ((nm,a)::r)) else pure (ForInStep.yield r):Sem (ForInStep (List (Str×Addr)))))=pure cl:=by
  intro names
  induction names with
  | nil=>intro cs e;cases e;rfl
  | cons x r ih=>
   obtain⟨n,k⟩:=x
   intro cs e
   unfold clGo at e
   rw[List.forIn_cons]
   by_cases hk:(k == NameKind.free)=true
   ·rw[lJc hk] at e
    cases hc:env.cells.lookup n with
    | none=>rw[hc] at e;cases e
    | some c=>
     rw[hc] at e
     have hco:cellOf env n=pure c:=by unfold cellOf;rw[hc]
     simp only[hk,lJ2,hco,pure_bind]
     exact ih _ e
   ·rw[lJb hk] at e
    simp only[hk,pure_bind,lJt,lKq]
    exact ih _ e
 have:=go scope.names [] h
 simpa using this
theorem jZk {env:Env} {cl:List (Str×Addr)}:∀ {names:List (Str×NameKind)} {cs:List (Str×Addr)},clGo env names cs=some cl->(∀n c,cs.lookup n=some c->env.cells.lookup n=some c)->∀n c,cl.lookup n=some c->env.cells.lookup n=some c
 | [],cs,e,h=>by cases e;exact h
 | (n,k)::r,cs,e,h=>by
  unfold clGo at e
  by_cases hk:(k == NameKind.free)=true
  ·rw[lJc hk] at e
   cases hc:env.cells.lookup n with
   | none=>rw[hc] at e;cases e
   | some c=>
    rw[hc] at e
    refine jZk e fun m d q=> ?_
    rw[lK0] at q
    by_cases hm:(m == n)=true
    ·rw[hm] at q;cases q;rw[eq_of_beq hm];exact hc
    ·simp only[hm] at q;exact h m d q
  ·rw[lJb hk] at e
   exact jZk e h
theorem kJw {env:Env} {cl:List (Str×Addr)} {m:Str}:∀ {names:List (Str×NameKind)} {cs:List (Str×Addr)},clGo env names cs=some cl->(∃c,cs.lookup m=some c)->∃c,cl.lookup m=some c
 | [],cs,e,h=>by cases e;exact h
 | (n,k)::r,cs,e,h=>by
  unfold clGo at e
  by_cases hk:(k == NameKind.free)=true
  ·rw[lJc hk] at e
   cases hc:env.cells.lookup n with
   | none=>rw[hc] at e;cases e
   | some c=>
    rw[hc] at e
    refine kJw e ?_
    rw[lK0]
    by_cases hm:(m == n)=true
    ·rw[hm];exact⟨_,rfl⟩
    ·simp only[hm];exact h
  ·rw[lJb hk] at e
   exact kJw e h
theorem jZl {env:Env} {cl:List (Str×Addr)} {m:Str}:∀ {names:List (Str×NameKind)} {cs:List (Str×Addr)},clGo env names cs=some cl->names.lookup m=some .free->∃c,cl.lookup m=some c
 | [],cs,e,h=>by simp at h
 | (n,k)::r,cs,e,h=>by
  unfold clGo at e
  rw[lK0] at h
  by_cases hm:(m == n)=true
  ·rw[hm] at h
   cases h
   rw[lJc (show (NameKind.free == NameKind.free)=true from rfl)] at e
   cases hc:env.cells.lookup n with
   | none=>rw[hc] at e;cases e
   | some c=>
    rw[hc] at e
    refine kJw e ?_
    rw[lK0,hm];exact⟨_,rfl⟩
  ·simp only[hm] at h
   by_cases hk:(k == NameKind.free)=true
   ·rw[lJc hk] at e
    cases hc:env.cells.lookup n with
    | none=>rw[hc] at e;cases e
    | some c=>rw[hc] at e;exact jZl e h
   ·rw[lJb hk] at e
    exact jZl e h
theorem jUb {env:Env} {x:Str}:∀ {names:List (Str×NameKind)},(∀y∈names,y.2≠ .cell)->
  ((names.map fun (n,k)=>if (k == NameKind.free&&env.scope.kind == .function&&env.kindOf n == some .cell) then (n,NameKind.cell) else (n,k)).lookup x=some .cell\/
    (names.map fun (n,k)=>if (k == NameKind.free&&env.scope.kind == .function&&env.kindOf n == some .cell) then (n,NameKind.cell) else (n,k)).lookup x=some .free)->names.lookup x=some .free
 | [],_,h=>by simp at h
 | (n,k)::r,hc,h=>by
  have ih:= @jUb env x r (fun y hy=>hc y (lJx _ hy))
  have hk:=hc (n,k) lJu
  rw[lJq] at h
  rw[lK0]
  by_cases hx:(x == n)=true
  ·rw[hx]
   by_cases hf:(k == NameKind.free&&env.scope.kind == .function&&env.kindOf n == some .cell)=true
   ·have:(k == NameKind.free)=true:=by
     rw[lKn,lKn] at hf;exact hf.1.1
    rw[eq_of_beq this]
   ·simp only[hf,lJt,lKq,lK0,hx] at h
    rcases h with h | h
    ·cases h;exact absurd rfl hk
    ·cases h;rfl
  ·simp only[hx]
   refine ih ?_
   by_cases hf:(k == NameKind.free&&env.scope.kind == .function&&env.kindOf n == some .cell)=true
   ·simpa only[hf,lJ2,lK0,hx] using h
   ·simpa only[hf,lJt,lKq,lK0,hx] using h
theorem jU2 {env:Env} {x:Str}:∀ {names:List (Str×NameKind)},
  (names.map fun (n,k)=>if (k == NameKind.free&&env.scope.kind == .function&&env.kindOf n == some .cell) then (n,NameKind.cell) else (n,k)).lookup x=some .local->names.lookup x=some .local
 | [],h=>by simp at h
 | (n,k)::r,h=>by
  have ih:= @jU2 env x r
  rw[lJq] at h
  rw[lK0]
  by_cases hx:(x == n)=true
  ·rw[hx]
   by_cases hf:(k == NameKind.free&&env.scope.kind == .function&&env.kindOf n == some .cell)=true
   ·simp only[hf,lJ2,lK0,hx] at h;cases h
   ·simp only[hf,lJt,lKq,lK0,hx] at h;exact h
  ·simp only[hx]
   refine ih ?_
   by_cases hf:(k == NameKind.free&&env.scope.kind == .function&&env.kindOf n == some .cell)=true
   ·simpa only[hf,lJ2,lK0,hx] using h
   ·simpa only[hf,lJt,lKq,lK0,hx] using h
noncomputable def jUx (X:Cx) (scope:Scope) (cl:List (Str×Addr)) (C:Addr) (fp:List Addr) (s:Shared) (H:Hp):Cx:=
 {X with env:=compEnvC scope cl C X.env,s₀:=s,H₀:=H,outer:=X.stack,stack:=X.stack,ex:=fp,fn:=fun _=>false,pn:=[],xe:=fun _ _=>False}
structure CmpOk (X:Cx) (scope:Scope) (cl:List (Str×Addr)) (mask:List Bool):Prop where
 cl:clGo X.env scope.names []=some cl
 kind:scope.kind= .function
 nocell:(scope.names.all fun y=>y.2 != .cell)=true
 names:(scope.names.all fun y=>y.2 != .local||scope.names.lookup y.1 == some .local)=true
 vis:(scope.names.all fun y=>y.2 != .free||X.env.kindOf y.1 == some .cell||X.env.kindOf y.1 == some .free)=true
 len:mask.length=X.N.length
 mask:((X.N.zip mask).all fun p=>p.2||scope.names.lookup p.1 != some .local)=true
def msk {α:Type} (mask:List Bool) (τ:List (Option α)):List (Option α):=List.zipWith (fun b o=>if b=true then none else o) mask τ
theorem kXr {α:Type} {mask:List Bool} {τ:List (Option α)} {i:Nat} {t:α} (h:(msk mask τ)[i]? =some (some t)):mask[i]? =some false/\τ[i]? =some (some t):=by
 unfold msk at h
 rw[lV9] at h
 cases hm:mask[i]? with
 | none=>exact absurd (hm▸h) (by simp)
 | some b=>
  cases ht:τ[i]? with
  | none=>rw[hm,ht] at h;cases h
  | some o=>
   rw[hm,ht] at h
   cases b with
   | true=>simp at h
   | false=>simp at h;exact⟨rfl,by rw[h]⟩
theorem jYk {α:Type} {mask:List Bool} {τ:List (Option α)} (h:mask.length=τ.length):(msk mask τ).length=τ.length:=by
 unfold msk;rw[List.length_zipWith,h,Nat.min_self]
theorem qQz {K:PySem.W.Frag} {H:Hp} {σ:L2.St} {τ:St3} {mask:List Bool} (h:SRel K H σ τ) (hl:mask.length=τ.length):SRel K H (msk mask σ) (msk mask τ):=by
 refine⟨by rw[jYk hl,jYk (hl.trans h.1.symm),h.1],fun i t q=> ?_⟩
 obtain⟨h1,h2⟩:=kXr q
 obtain⟨v,h3,h4⟩:=h.2 i t h2
 refine⟨v,?_,h4⟩
 unfold msk
 rw[lV9,h1,h3]
 simp
section
variable {X:Cx} {scope:Scope} {cl:List (Str×Addr)} {mask:List Bool}
theorem CmpOk.local (c:CmpOk X scope cl mask) {i:Nat} {x:Str} (h1:X.N[i]? =some x) (h2:mask[i]? =some false):scope.names.lookup x≠some .local:=by
 have h:=c.mask
 rw[lQ0] at h
 have hz:(X.N.zip mask)[i]? =some (x,false):=by rw[lXa];exact⟨h1,h2⟩
 have:=h _ (lJi hz)
 simpa using this
theorem CmpOk.free (c:CmpOk X scope cl mask) {x:Str} (h:scope.names.lookup x=some .free):X.env.kindOf x=some .cell\/X.env.kindOf x=some .free:=by
 have hv:=c.vis
 rw[lQ0] at hv
 have:=hv (x,.free) (lVo h)
 simpa using this
theorem CmpOk.nc (c:CmpOk X scope cl mask):∀y∈scope.names,y.2≠ .cell:=by
 have hv:=c.nocell
 rw[lQ0] at hv
 intro y hy
 simpa using hv y hy
theorem CmpOk.nm (c:CmpOk X scope cl mask):∀y∈scope.names,y.2= .local->scope.names.lookup y.1=some .local:=by
 have hv:=c.names
 rw[lQ0] at hv
 intro y hy e
 have:=hv y hy
 rw[e] at this
 simpa using this
theorem qVa (c:CmpOk X scope cl mask) {pins:List (Addr×Obj)} {σ:L2.St} {H:Hp} {s:Shared} {fp:List Addr} {h4:Heap} {tk:Nat} (I:Inv X pins σ H s) (hf:∀b∈fp,FpOk X pins H b) (ho:∀b∈fp,∃o,s.heap.get? b=some o)
  (hns:h4.Ns s.heap.objs.size fun _=>none) (hk:∀b o,s.heap.get? b=some o->h4.get? b=some o):
  Inv (jUx X scope cl s.heap.objs.size fp s H) [] (msk mask σ) H {s with heap:=h4,toks:=tk}:=by
 have sub:=jZk c.cl (by simp)
 have ok:(jUx X scope cl s.heap.objs.size fp s H).Ok:=by
  refine⟨I.ok.mod,c.kind,I.ok.glob,I.ok.blt,lJh _,fun x y d h1 h2=>I.ok.inj x y d (sub _ _ h1) (sub _ _ h2),fun x hx=>jZl c.cl (jUb (env:=X.env) c.nc hx),fun x d hx=>absurd (show false=true from hx) lJp,I.ok.hd,I.ok.gd,I.ok.frames,.inl rfl,
   fun b hb=> ?_,I.bs,lJ8 I.ok.bsz I.sz,fun b o e hb=> ?_,fun b hb hz=> ?_,I.stack,I.stkFree⟩
  ·obtain⟨o,e⟩:=ho b hb
   exact⟨lJw (lJj e),fun x d hd=>(hf b hb).2.2.2.2.1 x d (sub _ _ hd)⟩
  ·rcases (hf b hb).2.2.2.1 with z | z
   ·exact I.ok.noex b o e z
   ·exact absurd (lKb (lJj e) I.ok.bsz) (Nat.not_lt.mpr z)
  ·rcases lJl.mp (I.stkSub b hz) with z | z
   ·exact (hf b hb).2.1 z
   ·exact (hf b hb).2.2.1 z
 refine⟨ok,rfl,I.bare,Un.kept hk,⟨_,hns,fun i x v h1 h2 h3=> ?_⟩,fun x d hd=> ?_,I.hok.fresh (lJh _),fun x d hd=>I.freeC x d (sub _ _ hd),fun p hp=>absurd (show p∈([]:List (Addr×Obj)) from hp) (by simp),I.hok.kept hk,?_⟩
 ·obtain⟨m1,m2⟩:=kXr h2
  have nl:=c.local h1 m1
  have fr:scope.names.lookup x=some .free:=by
   rcases h3 with z | z | z
   ·exact absurd (jU2 (env:=X.env) z) nl
   ·exact jUb (env:=X.env) c.nc (.inl z)
   ·exact jUb (env:=X.env) c.nc (.inr z)
  have hkk:=c.free fr
  obtain⟨m,hn,hl⟩:=I.loc
  have vis:Vis X.env.scope x:=by rcases hkk with z | z;exact .inr (.inl z);exact .inr (.inr z)
  obtain⟨u,ru,lk⟩:=hl i x v h1 m2 vis
  refine⟨u,ru,?_⟩
  rcases lk with ⟨z,_⟩ | ⟨_,d,hd,cd⟩
  ·exfalso;rcases hkk with q | q<;>(rw[z] at q;cases q)
  ·obtain⟨d',hd'⟩:=jZl c.cl fr
   have:d'=d:=by have:=sub _ _ hd';rw[hd] at this;exact (lJ7 this).symm
   subst this
   refine .inr ⟨?_,d',hd',cd.keeps hk⟩
   rcases h3 with z | z | z
   ·exact absurd (jU2 (env:=X.env) z) nl
   ·exact .inl z
   ·exact .inr z
 ·obtain⟨v,hv⟩:=I.cell x d (sub _ _ hd)
  exact⟨v,hv.keeps hk⟩
 ·exact (jYk (c.len.trans I.len.symm)).trans I.len
theorem uK7 {pins:List (Addr×Obj)} {σ σ':L2.St} {H H':Hp} {s s':Shared} {fp:List Addr} {pl:List (Addr×Obj)} {C:Addr} (I:Inv X pins σ H s) (hf:∀b∈fp,FpOk X pins H b) (hC:s.heap.objs.size<=C)
  (J:Inv (jUx X scope cl C fp s H) pl σ' H' s') {h':Heap} (hb:Heap.SameBut C s'.heap h'):Inv X pins σ H' {s' with heap:=h'}:=by
 have ne:∀b o,s.heap.get? b=some o->b≠C:=fun b o e=>lJw (lKb (lJj e) hC)
 have u:=J.base
 have hfree:H' C=none:=J.free
 have u':Un (frs X.stack) fp H H' s.heap h':=⟨fun b o e n hb' hx=>(hb.2 b (ne b o e)).trans (u.keep b o e n hb' hx),fun b o e n hb' hx=>let ⟨sl,z⟩:=u.slot b o e n hb' hx;⟨sl,(hb.2 b (ne b o e)).trans z⟩,
  u.free,fun b o e hx=>let ⟨o',z⟩:=u.there b o e hx;⟨o',(hb.2 b (ne b o e)).trans z⟩,u.tups,u.frzs,u.tbls⟩
 have hok:HOk X.prog X.w H' h':=fun b ob e=>(J.hok b ob e).stay (fun c w' hc q=>(hb.2 c (by
  rintro rfl
  rcases hc with rfl | hc
  ·rw[hfree] at e;cases e
  ·rw[hfree] at hc;cases hc)).trans q) (fun _ q=>q) fun _ _ q=>q
 exact I.call' (s':={s' with heap:=h'}) J.os u' hok J.bare fun b hb=>⟨(hf b hb).2.2.2.1,(hf b hb).2.1,(hf b hb).2.2.2.2.1,(hf b hb).2.2.2.2.2⟩
end
abbrev qU8 (ifs:List Expr) (env:Env):Sem Bool:=forIn ifs true fun c b=>if b=true then isTrue c env (eval c env) >>= fun d=>pure (ForInStep.yield d) else pure (ForInStep.yield b)
noncomputable def qZg (M:Model) (A:Around) (elt tg:Expr) (ifs:List Expr) (it acc:Value) (env:Env) (stop more:Shared->Prop):Option Value->Shared->Prop
 | none=>stop
 | some v=>fun z=>wpAny M A (letOwnedTupleGo tg it v) (fun _ z1=>wpAny M A (assign tg env v) (fun _ z2=>wpAny M A (qU8 ifs env) (fun ok z3=>if ok=true then wpAny M A (eval elt env) (fun x z4=>wpAny M A (call (.builtin "list.append") [acc,x]) (fun _=>more) (fun _ _=>False) z4) (fun _ _=>False) z3 else more z3) (fun _ _=>False) z2) (fun _ _=>False) z1) (fun _ _=>False) z
theorem qU9 {P:Program} {w:World} {A:Around} {R:Result->Shared->Prop} {s:Shared} {elt tg iter:Expr} {ifs:List Expr} {scope:Scope} {pos:Pos} {it acc:Value} {env:Env} (I:Nat->Shared->Prop)
  (turn:∀k z,I k z->wpAny (model P w) A (pyNext it) (qZg (model P w) A elt tg ifs it acc env (R (.ok .next)) fun z'=>∃m,m<k/\I m z') (fun _ _=>False) z) (n:Nat) (h:I n s):codeAny (model P w) A (.compLoop (.ListComp elt [⟨tg,iter,ifs,0⟩] scope pos) 0 it acc env) R s:=by
 refine codeAny_loop rfl I (fun k z hz=>(show wpAny _ A ((compTurn (.ListComp elt [⟨tg,iter,ifs,0⟩] scope pos) 0 it acc env).onRaise _) _ _ z from wpAny_noted ?_)) n h
 rw[compTurn_list]
 refine lJa (wpAny_standAt (lJa (lQb (turn k z hz) (fun r z1 h1=> ?_) fun _ _ e=>e.elim)))
 cases r with
 | none=>exact lJd h1
 | some v=>
  refine lJa (lQb h1 (fun _ z2 h2=>lJa (lQb h2 (fun _ z3 h3=>lJa (lQb h3 (fun ok z4 h4=> ?_) fun _ _ e=>e.elim)) fun _ _ e=>e.elim)) fun _ _ e=>e.elim)
  by_cases hok:ok=true
  ·subst hok
   exact lJa (lJa (lQb h4 (fun x z5 h5=>lJa (lQb h5 (fun _ z6 h6=>lJd (lJd ⟨rfl,h6⟩)) fun _ _ e=>e.elim)) fun _ _ e=>e.elim))
  ·obtain rfl:ok=false:=by simpa using hok
   exact lJd ⟨rfl,h4⟩
def PIf3 (X:Cx) (ifs:List Expr) (t:TT3):Prop:=∀(pins:List (Addr×Obj)) (s:Shared) (τ:St3) (G:Gp) (H:Hp) (Q:Bool->Gp->Prop),Inv3 X pins τ G H s->t τ G Q->
 wpAny (model X.prog X.w) X.A (forIn ifs true fun c r=>if r=true then do let ok <-isTrue c X.env (eval c X.env);pure (ForInStep.yield ok) else pure (ForInStep.yield r)) (TP3 X pins τ H Q) X.xe s
def jV0:TT3:=fun _ G Q=>Q true G
theorem jUd {X:Cx}:PIf3 X [] jV0:=fun _ _ _ G H _ I q=>wpAny_tests_nil ⟨G,H,.refl H,I,q⟩
theorem kKq {X:Cx} {c:Expr} {t:TT3} (h:PT3 X c t):PIf3 X [c] t:=fun pins s τ G H Q I q=>wpAny_tests_one (h pins s τ G H Q I q)
def qJ7 (mask:List Bool) (g:TG3):Prop:=∀v τ G Q,g v τ G Q->g v τ G fun τ2 G2=>Q τ2 G2/\τ2.length=τ.length/\∀i:Nat,mask[i]? ≠some true->τ2[i]? =τ[i]?
def kZu (mask:List Bool) (g:TGs3):Prop:=∀v τ G Q,g v τ G Q->g v τ G fun τ2 G2=>Q τ2 G2/\τ2.length=τ.length/\∀i:Nat,mask[i]? ≠some true->τ2[i]? =τ[i]?
theorem jJ9 {mask:List Bool} {i:Nat} (h:mask[i]? =some true:=by rfl):qJ7 mask (jJi i):=fun v τ G Q q=>
 ⟨q,lQq ..,fun j hj=>lKl (by rintro rfl;exact hj h)⟩
theorem kZb {mask:List Bool}:kZu mask gNil:=fun v τ G Q ⟨e,q⟩=>⟨e,q,rfl,fun _ _=>rfl⟩
theorem jVu {mask:List Bool} {t:TG3} {u:TGs3} (h1:qJ7 mask t) (mono:∀v τ G Q Q',(∀a b,Q a b->Q' a b)->t v τ G Q->t v τ G Q') (h2:kZu mask u) (mono2:∀v τ G Q Q',(∀a b,Q a b->Q' a b)->u v τ G Q->u v τ G Q'):kZu mask (jKl t u):=fun vs τ G Q ⟨v,r,e,q⟩=>by
 refine⟨v,r,e,mono _ _ _ _ _ (fun τ2 G2 ⟨z,l1,k1⟩=> ?_) (h1 _ _ _ _ q)⟩
 exact mono2 _ _ _ _ _ (fun τ3 G3 ⟨z3,l3,k3⟩=>⟨z3,l3.trans l1,fun i hi=>(k3 i hi).trans (k1 i hi)⟩) (h2 _ _ _ _ z)
theorem jQx {i:Nat}:∀v τ G (Q Q':St3->Gp->Prop),(∀a b,Q a b->Q' a b)->jJi i v τ G Q->jJi i v τ G Q':=fun _ _ _ _ _ h q=>h _ _ q
theorem jYv:∀v τ G (Q Q':St3->Gp->Prop),(∀a b,Q a b->Q' a b)->gNil v τ G Q->gNil v τ G Q':=fun _ _ _ _ _ h q=>⟨q.1,h _ _ q.2⟩
theorem kQz {t:TG3} {u:TGs3} (m1:∀v τ G (Q Q':St3->Gp->Prop),(∀a b,Q a b->Q' a b)->t v τ G Q->t v τ G Q') (m2:∀v τ G (Q Q':St3->Gp->Prop),(∀a b,Q a b->Q' a b)->u v τ G Q->u v τ G Q'):
  ∀v τ G (Q Q':St3->Gp->Prop),(∀a b,Q a b->Q' a b)->jKl t u v τ G Q->jKl t u v τ G Q':=fun _ _ _ _ _ h ⟨v,r,e,q⟩=>⟨v,r,e,m1 _ _ _ _ _ (fun _ _ z=>m2 _ _ _ _ _ h z) q⟩
theorem kZa {mask:List Bool} {n:Nat} {u:TGs3} (h:kZu mask u):qJ7 mask (gTup n u):=fun v τ G Q ⟨xs,e,l,q⟩=>⟨xs,e,l,h _ _ _ _ q⟩
theorem qX3 {mask:List Bool} {τ τ2:St3} (hl:mask.length=τ.length) (l:τ2.length=(msk mask τ).length) (h:∀i:Nat,mask[i]? ≠some true->τ2[i]? =(msk mask τ)[i]?):msk mask τ2=msk mask τ:=by
 have ll:=jYk hl
 apply lK1
 intro i
 unfold msk at h ⊢
 rw[lV9,lV9]
 cases hm:mask[i]? with
 | none=>rfl
 | some b=>
  cases b with
  | true=>
   have h1:i<mask.length:=by
    rcases lKk i mask.length with z | z
    ·exact z
    ·rw[lJ4 z] at hm;cases hm
   have h2:i<τ2.length:=by omega
   have h3:i<τ.length:=by omega
   rw[lJg h2,lJg h3]
   simp
  | false=>
   have:=h i (by rw[hm];simp)
   rw[lV9,hm] at this
   rw[this]
   cases τ[i]? with
   | none=>rfl
   | some o=>simp
def kV3 (mask:List Bool) (g:TG3) (tif:TT3) (te:TE3) (τ:St3) (xs:List T) (stay:Gp->Prop) (G:Gp) (Q:VK3):Prop:=
 ∀D,G D=none->∃P:Nat->List T->Gp->Prop,P 0 [] (gup G D (.lst []))/\(∀i acc G,i<=xs.length->P i acc G->stay G/\G D=some (.lst acc))/\
  (∀i x acc G,xs[i]? =some x->P i acc G->g x (msk mask τ) G fun τ2 G2=>tif τ2 G2 fun b G3=>if b=true then te τ2 G3 fun y G4=>G4 D=some (.lst acc)/\acc.length<sizeLine/\P (i+1) (acc++[y]) (gup G4 D (.lst (acc++[y]))) else P (i+1) acc G3)/\
  ∀acc G,P xs.length acc G->Q (.ref D) G
def jQu (mask:List Bool) (wi:TI3) (g:TG3) (tif:TT3) (te:TE3):TE3:=fun τ G Q=>wi τ G fun xs stay G1=>kV3 mask g tif te τ xs stay G1 Q
section
variable {X:Cx} {scope:Scope} {cl:List (Str×Addr)} {mask:List Bool} {elt iter tg:Expr} {ifs:List Expr} {pos:Pos} {wi:TI3} {g:TG3} {tif:TT3} {te:TE3}
theorem kKw (hc:X.calm=true) (ok:CmpOk X scope cl mask)
  (hgk:qJ7 mask g) (hg:∀C fp s H,PG3 (jUx X scope cl C fp s H) tg g) (hif:∀C fp s H,PIf3 (jUx X scope cl C fp s H) ifs tif) (he:∀C fp s H,PE3 (jUx X scope cl C fp s H) elt te)
  {pins:List (Addr×Obj)} {τ:St3} {H:Hp} {Q:VK3} {itv:Value} {s2:Shared} {E:Value->Shared->Prop} {RR:Value->Addr->Result->Shared->Prop}
  (h2:PIE3 X pins τ H tg (fun xs stay G=>kV3 mask g tif te τ xs stay G Q) itv s2)
  (hRR:∀D C s' m,s'.heap.Ns C m->(∃G1 H1,Ext H H1/\H1 C=none/\Q (.ref D) G1/\∀h',Heap.SameBut C s'.heap h'->Inv3 X pins τ G1 H1 {s' with heap:=h'})->(∃oC,s'.heap.get? C=some oC/\C≠X.env.locals/\C∉X.fs/\∀v,oC.data≠ .cell v)->(∀x c,X.env.cells.lookup x=some c->c≠C)->(∀p∈X.pn++pins,p.1≠C)->X.s₀.heap.objs.size<=C->RR (.ref D) C (.ok .next) s'):
  wpAny (model X.prog X.w) X.A (newList []) (fun acc s₃=>wpAny (model X.prog X.w) X.A (newFunctionEnv scope X.env.globals cl [] X.env.qual none .none (some X.env)) (fun cenv s₄=>
   codeAny (model X.prog X.w) X.A (.compStart (.ListComp elt [⟨tg,iter,ifs,0⟩] scope pos) 0 itv acc {cenv with scope:=relabel scope X.env}) (RR acc cenv.locals) s₄) E s₃) E s2:=by
 obtain⟨it,fp,tn,J,xs,stay,G2,H2,e,eH,⟨σ,I2,hs2,hg2⟩,T0,st2,f2,IT,hq⟩:=h2
 subst e
 refine lQc (wpAny_newFunctionEnv ok.nc (by intro y hy;simp at hy) (fun h4 hns hsb=> ?_) ok.kind)
 dsimp only at hns hsb ⊢
 have hD:H2 s2.heap.objs.size=none:=I2.hok.fresh (lJh _)
 generalize hs3:({s2 with heap:=s2.heap.push {cls:= .type "list",dict:=none,data:= .seq ([]:List Value).toArray} }:Shared)=s3
 have eh3:s2.heap.push {cls:= .type "list",dict:=none,data:= .seq ([]:List Value).toArray}=s3.heap:=by rw[<-hs3]
 have I3:Inv X pins σ (upd H2 s2.heap.objs.size (.lst [])) s3:=by
  rw[<-hs3]
  exact I2.laid (t':=s2.toks) (fun b u e=>lJm _ e) (lJh _) ⟨lJs _,[],0,.nil,lJ3 _ rfl⟩
 rw[eh3] at hns hsb ⊢
 generalize hDd:s2.heap.objs.size=D at *
 have e3:Ext H2 (upd H2 D (.lst [])):= .upd (.none hD)
 have hg3:GRel X.K (upd H2 D (.lst [])) (gup G2 D (.lst [])):=hg2.lstNew (show Reps X.K H2 [] [] from rfl) (.none hD)
 have obj2:∀b∈fp,∃o,s2.heap.get? b=some o:=fun b hb=>let ⟨o,e,_⟩:=T0.obj 0 _ st2 b hb;⟨o,e⟩
 have fD:∀b∈fp,b≠D:=fun b hb=>by obtain⟨o,e⟩:=obj2 b hb;rw[<-hDd];exact lJw (lJj e)
 have f3:∀b∈fp,FpOk X pins (upd H2 D (.lst [])) b:=fun b hb=>⟨by rw[jJ5 (fD b hb)];exact (f2 b hb).1,(f2 b hb).2⟩
 have k3:∀b o,s2.heap.get? b=some o->s3.heap.get? b=some o:=fun b o e=>by rw[<-eh3];exact lJm _ e
 have obj3:∀b∈fp,∃o,s3.heap.get? b=some o:=fun b hb=>let ⟨o,e⟩:=obj2 b hb;⟨o,k3 b o e⟩
 have k4:∀b o,s3.heap.get? b=some o->h4.get? b=some o:=fun b o e=>hsb.extBut b o (lJw (lJj e)) (lJm _ e)
 have Ic:Inv (jUx X scope cl s3.heap.objs.size fp s3 (upd H2 D (.lst []))) [] (msk mask σ) (upd H2 D (.lst [])) {s3 with heap:=h4,toks:=s3.toks+([]:List (Str×Value)).length}:=qVa ok I3 f3 obj3 hns k4
 have st4:tn 0 h4:=T0.keep _ _ _ st2 fun b _ o e=>k4 b o (k3 b o e)
 have hl3:mask.length=τ.length:=ok.len.trans (I3.len.symm.trans hs2.1)
 obtain⟨P,p0,hst,turn,fin⟩:=hq D (hg2.fresh hD)
 have fpc:∀ {H':Hp} {pl:List (Addr×Obj)},(∀b∈fp,H' b=none)->(∀p∈pl,p.1∉fp)->∀b∈fp,FpOk (jUx X scope cl s3.heap.objs.size fp s3 (upd H2 D (.lst []))) pl H' b:=fun {H' pl} hn hp b hb=>by
  obtain⟨o,e⟩:=obj3 b hb
  refine⟨hn b hb,lJw (lJj e),?_,.inl hb,fun x d hd=>(f3 b hb).2.2.2.2.1 x d (jZk ok.cl (by simp) _ _ hd),fun p hpp z=> ?_⟩
  ·intro z
   rcases lJl.mp (I3.stkSub b z) with q | q
   ·exact (f3 b hb).2.1 q
   ·exact (f3 b hb).2.2.1 q
  ·have hpp':p∈pl:=by simpa[jUx] using hpp
   exact hp p hpp' (z▸hb)
 have loop:∀s4:Shared,s4={s3 with heap:=h4,toks:=s3.toks+([]:List (Str×Value)).length}->
   codeAny (model X.prog X.w) X.A (.compLoop (.ListComp elt [⟨tg,iter,ifs,0⟩] scope pos) 0 (.ref it) (.ref D) (compEnvC scope cl s3.heap.objs.size X.env)) (RR (.ref D) s3.heap.objs.size) s4:=by
  rintro s4 rfl
  refine qU9 (fun n s'=>∃i acc G' H',n=xs.length-i/\i<=xs.length/\Ext H2 H'/\Inv3 (jUx X scope cl s3.heap.objs.size fp s3 (upd H2 D (.lst []))) [] (msk mask τ) G' H' s'/\tn i s'.heap/\(∀b∈fp,H' b=none)/\P i acc G') ?_ xs.length
   ⟨0,[],_,_,rfl,lJs _,e3,⟨_,Ic,qQz (hs2.mono e3) hl3,hg3⟩,st4,fun b hb=>(f3 b hb).1,p0⟩
  rintro n s5 ⟨i,acc,G5,H5,en,hi5,e5,⟨σ5,I5,hs5,hg5⟩,st5,fr5,p5⟩
  obtain⟨hstay,hacc⟩:=hst i acc G5 hi5 p5
  obtain⟨go,stop,yl⟩:=IT i H5 G5 e5 hg5 hstay
  by_cases hlt:i<xs.length
  ·refine thn (T0.item (jUx X scope cl s3.heap.objs.size fp s3 (upd H2 D (.lst []))) rfl rfl rfl hc i [] s5 σ5 H5 (fun _ _=>False) I5 (fpc fr5 (by simp)) st5 (go hlt)) fun r s6 ⟨u,hr,h6⟩=> ?_
   subst hr
   refine thn h6 fun _ s7 ⟨x,H7,I7,r7,y7,st7,fr7⟩=> ?_
   obtain⟨e7,g7,t,ht,rt⟩:=yl hlt x H7 y7
   have I7':=I7.pinned (fpc fr7 (by simp)) (T0.obj _ _ st7)
   refine thn (hg _ _ _ _ ([]++jV4 fp s7.heap) s7 (msk mask τ) G5 H7 t u _ ⟨σ5,I7',hs5.mono e7,g7⟩ ⟨x,rt,r7⟩ (hgk _ _ _ _ (turn i t acc G5 ht p5))) fun _ s8 ⟨τ8,G8,H8,e8,I8,q8,ql8,qk8⟩=> ?_
   refine thn (hif _ _ _ _ ([]++jV4 fp s7.heap) s8 τ8 G8 H8 _ I8 q8) fun b s9 ⟨G9,H9,e9,I9,q9⟩=> ?_
   have back:∀ {Ga:Gp} {Ha:Hp} {sa:Shared} {acc':List T},Ext H7 Ha->Inv3 (jUx X scope cl s3.heap.objs.size fp s3 (upd H2 D (.lst []))) ([]++jV4 fp s7.heap) τ8 Ga Ha sa->P (i+1) acc' Ga->
     ∃m,m<n/\∃i acc G' H',m=xs.length-i/\i<=xs.length/\Ext H2 H'/\Inv3 (jUx X scope cl s3.heap.objs.size fp s3 (upd H2 D (.lst []))) [] (msk mask τ) G' H' sa/\tn i sa.heap/\(∀b∈fp,H' b=none)/\P i acc G':=by
    rintro Ga Ha sa acc' ea ⟨σa,Ia,hsa,hga⟩ pa
    have e2a:Ext H5 Ha:=e7.trans ea
    have hla:mask.length=τ8.length:=by rw[ql8,jYk hl3];exact hl3
    have hsm:=qQz (mask:=mask) hsa hla
    rw[qX3 hl3 ql8 qk8] at hsm
    refine⟨xs.length-(i+1),by omega,i+1,acc',Ga,Ha,rfl,hlt,e5.trans e2a,⟨msk mask σa,(Ia.weak (jYk (hla.trans hsa.1.symm)) fun j v hv=>(kXr hv).2).pins_of (fun p hp=>absurd hp (by simp)),hsm,hga⟩,?_,fun b hb=> ?_,pa⟩
    ·exact T0.keep _ _ _ st7 fun b hb o e=>(Ia.pin (b,o) (lKm _ (lKm _ (jVv hb e)))).1
    ·obtain⟨o,e,d⟩:=T0.obj _ _ st7 b hb
     exact (Ia.pin (b,o) (lKm _ (lKm _ (jVv hb e)))).2.1
   cases b with
   | false=>
    rw[lJb lJp] at q9 ⊢
    exact back (e8.trans e9) I9 q9
   | true=>
    rw[lJc rfl] at q9 ⊢
    refine thn (he _ _ _ _ ([]++jV4 fp s7.heap) s9 τ8 G9 H9 _ I9 q9) fun y s10 w_=>w_.el fun ty G10 H10 e10 I10 r10 ⟨hD10,hz10,q10⟩=> ?_
    obtain⟨vy,rvy,ruy⟩:=r10
    refine thn (jKj ([]++jV4 fp s7.heap) s10 τ8 G10 H10 (.ref D) [ty] (.ref D) [y] (fun _ G'=>P (i+1) (acc++[ty]) G') I10 ⟨.ref D,rfl,rfl⟩ ⟨[vy],.one rvy,.cons ruy .nil⟩ ⟨D,acc,ty,rfl,rfl,hD10,hz10,q10⟩) fun _ s11 w_=>w_.el fun _ G11 H11 e11 I11 _ q11=> ?_
    exact back (((e8.trans e9).trans e10).trans e11) I11 q11
  ·have ei:i=xs.length:=by omega
   refine thn (T0.done (jUx X scope cl s3.heap.objs.size fp s3 (upd H2 D (.lst []))) rfl rfl rfl hc i [] s5 σ5 H5 (fun _ _=>False) I5 (fpc fr5 (by simp)) st5 (stop (by omega))) fun r s6 ⟨hr,I6⟩=> ?_
   subst hr;subst ei
   obtain⟨m,hn,_⟩:=I6.loc
   obtain⟨oC,es,ep,hoC,hdC,_⟩:=id hn
   refine hRR D s3.heap.objs.size s6 m hn ⟨G5,H5,eH.trans e5,I6.free,fin acc G5 p5,fun h' hb=>⟨σ,uK7 I3 f3 (lJh _) I6 hb,hs2.mono e5,hg5⟩⟩
    ⟨oC,hoC,lVd I3.lt,I3.nofs (lJh _),fun v z=>by rw[hdC] at z;cases z⟩ (fun x d hd=> ?_) (fun p hp=> ?_) I3.sz
   ·obtain⟨v,q⟩:=I3.cell x d hd
    exact lJw q.lt
   ·exact lJw (lJj (I3.pin p hp).1)
 exact codeAny_compStart_list (loop _ (by rw[<-hs3])) (T0.self _ 0 _ _ _ st4 (loop _ (by rw[<-hs3])))
theorem jUf (hc:X.calm=true) (ok:CmpOk X scope cl mask) (hi:PI3 X tg iter wi) (hgk:qJ7 mask g) (hg:∀C fp s H,PG3 (jUx X scope cl C fp s H) tg g) (hif:∀C fp s H,PIf3 (jUx X scope cl C fp s H) ifs tif) (he:∀C fp s H,PE3 (jUx X scope cl C fp s H) elt te)
  (hs:∀x,foldedSetIterable iter X.env x=pure x:=by intro _;rfl):PE3 X (.ListComp elt [⟨tg,iter,ifs,0⟩] scope pos) (jQu mask wi g tif te):=by
 intro pins s τ G H Q I h
 rw[eval_ListComp]
 refine wpAny_comprehension_free (use:=none) rfl hs (kKx ok.cl) ok.kind ok.nm (thn (hi pins s τ G H _ I h) fun xv s1 h1=>thn h1 fun itv s2 h2=> ?_)
 refine kKw (RR:=fun acc C=>compPost (model X.prog X.w) X.A X.xe none (EP3 X pins τ H Q) acc C) hc ok hgk hg hif he h2 ?_
 rintro D C s' m hn ⟨G1,H1,e1,_,q1,hI⟩ _ _ _ _
 exact⟨m,hn,fun h' hb=>⟨.ref D,G1,H1,e1,hI h' hb,⟨.ref D,rfl,rfl⟩,q1⟩⟩
theorem kKk {i:Nat} {y:Str} {py spos:Pos} (hc:X.calm=true) (hN:X.N.Nodup) (ok:CmpOk X scope cl mask) (hi:PI3 X tg iter wi) (hgk:qJ7 mask g) (hg:∀C fp s H,PG3 (jUx X scope cl C fp s H) tg g) (hif:∀C fp s H,PIf3 (jUx X scope cl C fp s H) ifs tif) (he:∀C fp s H,PE3 (jUx X scope cl C fp s H) elt te)
  (hy:X.N[i]? =some y:=by rfl) (hx:X.env.scope.names.lookup y=some .local:=by rfl)
  (hsw:swapsWith (.ListComp elt [⟨tg,iter,ifs,0⟩] scope pos) (some (.Name y py)) spos.line X.env=pure true:=by rfl)
  (hs:∀x,foldedSetIterable iter X.env x=pure x:=by intro _;rfl):PS3 X (.Assign [.Name y py] (.ListComp elt [⟨tg,iter,ifs,0⟩] scope pos) spos) (tAsg (jQu mask wi g tif te) (jJi i)):=by
 intro pins s τ G H D I h
 rw[exec_Assign_Name_used _ _ _ _ hsw];refine lJa (wpAny_standAt (lJa ?_))
 show wpAny _ X.A (do let _ <-comprehension (.ListComp elt [⟨tg,iter,ifs,0⟩] scope pos) scope X.env _ (newList []) false (eval iter X.env) (some (assign (.Name y py) X.env))) _ _ s
 refine lJa (lQb (wpAny_comprehension_free (use:=some (assign (.Name y py) X.env)) (Q:=fun _ s'=>SP3 X pins H D .next s') rfl hs (kKx ok.cl) ok.kind ok.nm
  (thn (hi pins s τ G H _ I h) fun xv s1 h1=>thn h1 fun itv s2 h2=> ?_)) (fun _ s' hq=>lJd (lJd hq)) fun _ _ e=>e)
 refine kKw (RR:=fun acc C=>compPost (model X.prog X.w) X.A X.xe (some (assign (.Name y py) X.env)) (fun _ s'=>SP3 X pins H D .next s') acc C) hc ok hgk hg hif he h2 ?_
 rintro Dd C s' m hn ⟨G1,H1,e1,hH1C,q1,hI⟩ ⟨oC,hoC,c1,c2,c3⟩ c4 c5 c6
 show wpAny _ X.A (assign (.Name y py) X.env (.ref Dd)) _ _ _
 obtain⟨σ1,I1,hs1,hg1⟩:=hI s'.heap (.refl ..)
 have I1':Inv X (pins++[(C,oC)]) σ1 H1 s':=I1.pins_of fun p hp=>(lKh.mp hp).elim (fun z=>I1.pin p (lKm _ z)) fun z=>by
  obtain rfl:p=(C,oC):=by simpa using z
  exact⟨hoC,hH1C,c1,c2,c3⟩
 refine wpAny_assign_Name (kK6 I1' hN hy (.inl hx) (v:= .ref Dd) rfl (fun s2 I2=> ?_) (.inr hx))
 have hC2:s2.heap.get? C=some oC:=(I2.pin (C,oC) (lKm _ (lKm _ (by simp)))).1
 obtain⟨oC',es,ep,hoC',r⟩:=hn
 have eo:oC'=oC:=by rw[hoC] at hoC';exact (lJ7 hoC').symm
 subst eo
 refine⟨m,⟨oC',es,ep,hC2,r⟩,fun h' hb=>⟨_,G1,H1,e1,⟨_,?_,hs1.set i (show Rep X.K H1 (.ref Dd) (.ref Dd) from rfl),hg1⟩,q1⟩⟩
 exact I2.unpinned.turned (t':=s2.toks) (fun b o hb' e=>(hb.2 b hb').trans e) hH1C c1 (.inr c6) c4 c5
end
end L3
namespace HT
open PySem PyProof.Rows
def lexLe:(xs ys:List Int)->Bool
 | [],_=>true
 | _::_,[]=>false
 | x::xs,y::ys=>if x=y then lexLe xs ys else decide (x<=y)
theorem lexLe_cons (x y:Int) (xs ys:List Int):lexLe (x::xs) (y::ys)=if x=y then lexLe xs ys else decide (x<=y):=rfl
theorem lexLe_nil (ys:List Int):lexLe [] ys=true:=by cases ys<;>rfl
theorem kKc (x:Int) (xs:List Int):lexLe (x::xs) []=false:=rfl
theorem qXf (A:Around) (s:Shared) (a:Int) (t:Tok) (c:Int) (u:Tok) (prog:Program) (w:World) (E:Value->Shared->Prop) (Q:Value->Shared->Prop) (h:Q (.bool (decide (a<=c))) s):
  wpAny (model prog w) A (richCompare .LtE (.int a t) (.int c u)) Q E s:=
 (PyProof.Rows.le_int h:wpAny (model prog w) A (compareOp .LtE (.int a t) (.int c u)) Q E s)
section
open PySem.SeqAt
open PySem.AutoSeq1 (wpAny_loadPart')
open PySem.MeetsSeq PySem.MeetsSeq2 PySem.MeetsSeq3
theorem kK1 (l b:Addr) (items items2:Array Value) (n n2:Nat) (dd dd2:Option Addr) (sl sl2:Array (Option Value)) (ns ms:List Int) (hi:IntsAre items.toList ns) (hj:IntsAre items2.toList ms):
  Meets (Builtin.«tuple.__le__» ⟨[.ref l,.ref b],[]⟩)
   (fun _ R s=>s.heap.get? l=some {cls:= .type "tuple",dict:=dd,data:= .seq items n,slots:=sl}/\s.heap.get? b=some {cls:= .type "tuple",dict:=dd2,data:= .seq items2 n2,slots:=sl2}/\
    R (.ok (.ret (.bool (lexLe ns ms)))) s):=
 .of_wp fun prog w A R s h=>by
  obtain⟨hp,g,d,tk,os⟩:=s;obtain⟨hl,hb,h⟩:=h
  have f2:=AutoSeq1.sub_tuple_tuple
  have z1:items.size=ns.length:=by rw[<-hi.length];simp
  have z2:items2.size=ms.length:=by rw[<-hj.length];simp
  wp_walk using wpAny_loadPart' hl,wpAny_loadPart' hb,wpAny_forIn_list _ (fun rest b s'=>b.1=none/\s'=⟨hp,g,d,tk,os⟩/\∃(vs ws:List Value) (ns' ms':List Int),rest=vs.zip ws/\
   IntsAre vs ns'/\IntsAre ws ms'/\ns'.length+items2.size=ms'.length+items.size/\R (.ok (.ret (.bool (lexLe ns' ms')))) ⟨hp,g,d,tk,os⟩) _
  case turn=>
   rintro⟨y,x⟩ rest b s' ⟨hb',rfl,vs,ws,ns',ms',hz,hvi,hwi,hlen,hR⟩
   cases hvi with
   | nil=>rw[List.zip_nil_left] at hz;cases hz
   | cons a t hvi'=>
    cases hwi with
    | nil=>rw[List.zip_nil_right] at hz;cases hz
    | cons c u hwi'=>
     rw[lVr] at hz
     injection hz with hyx hrest
     injection hyx with hy hx
     subst hy hx
     rw[lexLe_cons] at hR
     simp only[lJz] at hlen
     obtain⟨e,he,hiff⟩:=qYu A.in1 ⟨hp,g,d,tk,os⟩ a t c u
     refine lJa (he prog w _ _ ?_)
     cases e with
     | true=>
      rw[lJc (hiff.mp rfl)] at hR
      wp_walk
      exact⟨rfl,rfl,_,_,_,_,hrest,hvi',hwi',by omega,hR⟩
     | false=>
      rw[lJb (fun q=>absurd (hiff.mpr q) lJp)] at hR
      have hri:=qXf A.in1 ⟨hp,g,d,tk,os⟩ a t c u prog w
      wp_walk using hri
      exact⟨_,rfl,by simpa using hR⟩
  case fin=>
   rintro⟨b1,b2⟩ s' ⟨hb',rfl,vs,ws,ns',ms',hz,hvi,hwi,hlen,hR⟩
   simp only at hb'
   subst hb'
   have hv:lexLe ns' ms'=decide (items.size<=items2.size):=by
    cases hvi with
    | nil=>
     simp only[lK3] at hlen
     rw[lexLe_nil]
     exact (lKa (by omega)).symm
    | cons a t hv=>
     cases hwi with
     | nil=>
      simp only[lK3,lJz] at hlen
      rw[kKc]
      exact (lJ0 (by omega)).symm
     | cons c u hw=>
      rw[lVr] at hz
      cases hz
   rw[hv] at hR
   wp_walk
   exact⟨_,rfl,by simpa[Builtin.Tuple.tupleCompareSizes] using hR⟩
  case h=>
   exact⟨rfl,rfl,items.toList,items2.toList,ns,ms,rfl,hi,hj,by omega,h⟩
end
theorem le_tupInts {prog:Program} {w:World} {A:Around} {E:Value->Shared->Prop} {s:Shared} {l b:Addr} {items items2:Array Value} {ns ms:List Int} {Q:Value->Shared->Prop} (hl:IsTup s.heap l items) (hb:IsTup s.heap b items2) (hi:IntsAre items.toList ns) (hj:IntsAre items2.toList ms)
  (hu:A.units<cLine) (h:Q (.bool (lexLe ns ms)) s):wpAny (model prog w) A (compareOp .LtE (.ref l) (.ref b)) Q E s:=by
 obtain⟨⟨cls,dd,data,sl⟩,ho,hc,n,hd⟩:=id hl
 obtain⟨⟨cls2,dd2,data2,sl2⟩,ho2,hc2,n2,hd2⟩:=id hb
 simp only at hc hd hc2 hd2
 subst hc hd hc2 hd2
 exact richCompare_meets_room (op:= .LtE) ⟨_,ho,rfl⟩ ⟨_,ho2,rfl⟩ PySem.F.slot_tuple_le PySem.F.entry_tuple_le (PySem.F.args_tuple_le_2 _ _) (kK1 l b items items2 n n2 dd dd2 sl sl2 ns ms hi hj)
  ⟨ho,ho2,show Value.bool (lexLe ns ms)≠Value.notImplemented/\Q (.bool (lexLe ns ms)) s from⟨(fun x=>nomatch x),h⟩⟩ hu
end HT
namespace L3
open PySem PySem.Spec PyProof.Rows L2
section
variable {X:Cx}
theorem jQ5 {K:PySem.W.Frag} {H:Hp}:∀ {ns:List Int} {vs:List V},Reps K H (ns.map T.int) vs->vs=ns.map V.int
 | [],_,h=>h
 | n::ns,_,⟨v,ws,e,r,rs⟩=>by
  subst e;cases (show v= .int n from r)
  rw[jQ5 rs];rfl
def rLeT:R3:=fun x y G Q=>∃ns ms,x= .tup (ns.map T.int)/\y= .tup (ms.map T.int)/\Q (.bl (HT.lexLe ns ms)) G
theorem o_leT (hu:X.A.units<cLine):Op3 X (compareOp .LtE) rLeT:=by
 rintro pins s τ G H x y v u Q ⟨σ,I,hs,hg⟩ ⟨a,ra,rv⟩ ⟨b,rb,ru⟩ ⟨ns,ms,ex,ey,q⟩
 subst ex;subst ey
 obtain⟨p,vs,e1,h1,h2⟩:=(show ∃p vs,a= .ref p/\H p=some (.tup vs)/\Reps X.K H (ns.map T.int) vs from ra)
 obtain⟨p',ws,e2,h3,h4⟩:=(show ∃p vs,b= .ref p/\H p=some (.tup vs)/\Reps X.K H (ms.map T.int) vs from rb)
 subst e1;subst e2
 cases rv;cases ru
 rw[jQ5 h2] at h1
 rw[jQ5 h4] at h3
 obtain⟨its,r1,p1,_⟩:=I.tuple (.of h1)
 obtain⟨its2,r2,p2,_⟩:=I.tuple (.of h3)
 exact HT.le_tupInts p1 p2 (show IntsAre its.toArray.toList ns from kKp r1) (show IntsAre its2.toArray.toList ms from kKp r2) hu ⟨.bl _,G,H,.refl H,⟨σ,I,hs,hg⟩,⟨.bl _,rfl,rfl⟩,q⟩
def rLeI:R3:=rI0 fun i j=> .bl (decide (i<=j))
def rLeA:R3:=fun x y G Q=>rLeI x y G Q\/rLeT x y G Q
theorem o_leA (hu:X.A.units+20<cLine):Op3 X (compareOp .LtE) rLeA:=o_le.or (o_leT (by omega))
theorem qUx {G:Gp} {x y:T} {b:Bool} (h:eqG G x y=some b):
  (∃p q xs ys,x= .ref p/\y= .ref q/\G p=some (.lst xs)/\G q=some (.lst ys)/\kX1 xs=true/\kX1 ys=true/\b=eqTs xs ys)\/(eqOk x=true/\eqOk y=true/\b=eqT x y):=by
 by_cases hr:∃p q,x= .ref p/\y= .ref q
 ·obtain⟨p,q,ex,ey⟩:=hr
  subst ex;subst ey
  refine .inl ?_
  simp only[eqG] at h
  split at h
  ·rename_i xs ys h1 h2
   split at h
   ·rename_i hc
    cases h
    exact⟨p,q,xs,ys,rfl,rfl,h1,h2,hc.1,hc.2,rfl⟩
   ·cases h
  ·cases h
 ·refine .inr ?_
  have e:eqG G x y=if eqOk x=true/\eqOk y=true then some (eqT x y) else none:=by
   cases x with
   | ref p=>cases y with
    | ref q=>exact absurd ⟨p,q,rfl,rfl⟩ hr
    | _=>rfl
   | _=>rfl
  rw[e] at h
  split at h
  ·rename_i hc
   cases h
   exact⟨hc.1,hc.2,rfl⟩
  ·cases h
mutual
theorem kV9 {X:Cx} {pins:List (Addr×Obj)} {σ:L2.St} {H:Hp} {s:Shared} (I:Inv X pins σ H s):∀(x:T) {a:V} {u:Value},tree x=true->Rep X.K H x a->RelV a u->∃as,Reads s.heap u (td x) as
 | .non,a,u,_,r,q=>by cases (show a= .non from r);cases q;exact⟨_,.none⟩
 | .bl b,a,u,_,r,q=>by cases (show a= .bl b from r);cases q;exact⟨_,.bool b⟩
 | .int b,a,u,_,r,q=>by cases (show a= .int b from r);obtain⟨t,rfl⟩:=q;exact⟨_,.int b t⟩
 | .str b,a,u,_,r,q=>by cases (show a= .str b from r);obtain⟨t,rfl⟩:=q;exact⟨_,.str b t⟩
 | .tup xs,a,u,ht,r,q=>by
  obtain⟨p,vs,e1,h1,h2⟩:=(show ∃p vs,a= .ref p/\H p=some (.tup vs)/\Reps X.K H xs vs from r)
  subst e1;cases q
  obtain⟨its,rv,⟨o,ho,hc,n,hd⟩,_⟩:=I.tuple (.of h1)
  obtain⟨as,ra⟩:=jZc I xs (show jQm xs=true from ht) h2 rv
  exact⟨_,.tuple ho hc hd (by simpa using ra)⟩
 | .ref _,_,_,ht,_,_=>absurd (show false=true from ht) lJp
 | .scr _,_,_,ht,_,_=>absurd (show false=true from ht) lJp
 | .ty _,_,_,ht,_,_=>absurd (show false=true from ht) lJp
theorem jZc {X:Cx} {pins:List (Addr×Obj)} {σ:L2.St} {H:Hp} {s:Shared} (I:Inv X pins σ H s):∀(xs:List T) {vs:List V} {us:List Value},jQm xs=true->Reps X.K H xs vs->Vals vs us->∃as,ReadsAll s.heap us (tds xs) as
 | [],_,_,_,r,q=>by cases r;cases q;exact⟨_,.nil⟩
 | x::xs,_,_,ht,⟨v,ws,e,r1,r2⟩,q=>by
  subst e
  cases q with
  | cons q1 q2=>
   have hx:tree x=true/\jQm xs=true:=by simpa[jQm] using ht
   obtain⟨as,ra⟩:=kV9 I x hx.1 r1 q1
   obtain⟨bs,rb⟩:=jZc I xs hx.2 r2 q2
   exact⟨_,.cons ra rb⟩
end
mutual
theorem eqv_T:∀(x y:T),tree x=true->tree y=true->PyData.eqv (td x) (td y)=eqT x y
 | .non,y,_,hy=>by cases y<;>first | rfl | exact absurd (show false=true from hy) lJp
 | .bl b,y,_,hy=>by cases y<;>first | rfl | exact absurd (show false=true from hy) lJp
 | .int b,y,_,hy=>by cases y<;>first | rfl | exact absurd (show false=true from hy) lJp
 | .str b,y,_,hy=>by cases y<;>first | rfl | exact absurd (show false=true from hy) lJp
 | .tup xs,y,hx,hy=>by
  cases y with
  | tup ys=>exact qUu xs ys (show jQm xs=true from hx) (show jQm ys=true from hy)
  | _=>first | rfl | exact absurd (show false=true from hy) lJp
 | .ref _,_,ht,_=>absurd (show false=true from ht) lJp
 | .scr _,_,ht,_=>absurd (show false=true from ht) lJp
 | .ty _,_,ht,_=>absurd (show false=true from ht) lJp
theorem qUu:∀(xs ys:List T),jQm xs=true->jQm ys=true->PyData.eqvAll (tds xs) (tds ys)=eqTs xs ys
 | [],[],_,_=>rfl
 | [],_::_,_,_=>rfl
 | _::_,[],_,_=>rfl
 | x::xs,y::ys,hx,hy=>by
  have hx':tree x=true/\jQm xs=true:=by simpa[jQm] using hx
  have hy':tree y=true/\jQm ys=true:=by simpa[jQm] using hy
  show (PyData.eqv (td x) (td y)&&PyData.eqvAll (tds xs) (tds ys))=(eqT x y&&eqTs xs ys)
  rw[eqv_T x y hx'.1 hy'.1,qUu xs ys hx'.2 hy'.2]
end
theorem kZf {pins:List (Addr×Obj)} {σ:L2.St} {H:Hp} {s:Shared} {G:Gp} {x y:T} {a b:V} {u v:Value} {k:Bool} (I:Inv X pins σ H s) (hg:GRel X.K H G) (ra:Rep X.K H x a) (rb:Rep X.K H y b) (ru:RelV a u) (rv:RelV b v) (h:eqG G x y=some k):
  ∃da db as bs,Reads s.heap u da as/\Reads s.heap v db bs/\da.canLay0=true/\db.canLay0=true/\da.depth<=50/\PyData.eqv da db=k:=by
 rcases qUx h with ⟨p,q,xs,ys,ex,ey,hp,hq,ox,oy,e⟩ | ⟨ox,oy,e⟩
 ·subst ex;subst ey
  cases (show a= .ref p from ra);cases (show b= .ref q from rb)
  cases ru;cases rv
  obtain⟨vs,h1,h2⟩:=hg.lst hp
  obtain⟨ws,h3,h4⟩:=hg.lst hq
  obtain⟨its,r1,⟨o,n,ho,hc,_,hd⟩,_⟩:=I.list (.of h1)
  obtain⟨its',r2,⟨o',n',ho',hc',_,hd'⟩,_⟩:=I.list (.of h3)
  simp only[kX1,lKn,lVa] at ox oy
  obtain⟨as,r3⟩:=jZc I xs ox.1.1 h2 r1
  obtain⟨bs,r4⟩:=jZc I ys oy.1.1 h4 r2
  exact⟨.list (tds xs),.list (tds ys),_,_,.list ho hc hd (by simpa using r3),.list ho' hc' hd' (by simpa using r4),ox.1.2,oy.1.2,ox.2,by rw[e];exact qUu xs ys ox.1.1 oy.1.1⟩
 ·simp only[eqOk,lKn,lVa] at ox oy
  obtain⟨as,r3⟩:=kV9 I x ox.1.1 ra ru
  obtain⟨bs,r4⟩:=kV9 I y oy.1.1 rb rv
  exact⟨td x,td y,_,_,r3,r4,ox.1.2,oy.1.2,ox.2,by rw[e];exact eqv_T x y ox.1.1 oy.1.1⟩
theorem jYi (hu:X.A.units+64<cLine):Op3 X (compareOp .Eq) rEqA:=by
 rintro pins s τ G H x y v u Q ⟨σ,I,hs,hg⟩ ⟨a,ra,rv⟩ ⟨b,rb,ru⟩ ⟨k,hk,q⟩
 obtain⟨da,db,as,bs,r1,r2,c1,c2,d,e⟩:=kZf I hg ra rb rv ru hk
 exact SeqAt.compareEq_reads r1 r2 c1 c2 (by omega) ⟨.bl k,G,H,.refl H,⟨σ,I,hs,hg⟩,⟨.bl k,rfl,by rw[e];rfl⟩,q⟩
theorem qJk (hu:X.A.units+64<cLine):Op3 X (compareOp .NotEq) rNeA:=by
 rintro pins s τ G H x y v u Q ⟨σ,I,hs,hg⟩ ⟨a,ra,rv⟩ ⟨b,rb,ru⟩ ⟨k,hk,q⟩
 obtain⟨da,db,as,bs,r1,r2,c1,c2,d,e⟩:=kZf I hg ra rb rv ru hk
 exact SeqAt.compareNe_reads r1 r2 c1 c2 (by omega) ⟨.bl (!k),G,H,.refl H,⟨σ,I,hs,hg⟩,⟨.bl (!k),rfl,by rw[e];rfl⟩,q⟩
end
section
variable {X:Cx}
def jXi:T->Bool
 | .non=>true
 | .bl _=>true
 | .int _=>true
 | .str _=>true
 | _=>false
theorem jZi {K:PySem.W.Frag} {H:Hp} {x:T} {a:V} (r:Rep K H x a) (f:jXi x=true):kKd a=true:=by
 cases x with
 | non=>cases (show a= .non from r);rfl
 | bl _=>cases (show a= .bl _ from r);rfl
 | int _=>cases (show a= .int _ from r);rfl
 | str _=>cases (show a= .str _ from r);rfl
 | _=>exact absurd (show false=true from f) lJp
theorem qUq {K:PySem.W.Frag} {H:Hp} {x y:T} {a b:V} (r:Rep K H x a) (q:Rep K H y b) (f:jXi x=true) (g:jXi y=true):eqV a b=eqT x y:=by
 cases x with
 | non=>cases (show a= .non from r);cases y with
  | non=>cases (show b= .non from q);rfl
  | bl _=>cases (show b= .bl _ from q);rfl
  | int _=>cases (show b= .int _ from q);rfl
  | str _=>cases (show b= .str _ from q);rfl
  | _=>exact absurd (show false=true from g) lJp
 | bl _=>cases (show a= .bl _ from r);cases y with
  | non=>cases (show b= .non from q);rfl
  | bl _=>cases (show b= .bl _ from q);rfl
  | int _=>cases (show b= .int _ from q);rfl
  | str _=>cases (show b= .str _ from q);rfl
  | _=>exact absurd (show false=true from g) lJp
 | int _=>cases (show a= .int _ from r);cases y with
  | non=>cases (show b= .non from q);rfl
  | bl _=>cases (show b= .bl _ from q);rfl
  | int _=>cases (show b= .int _ from q);rfl
  | str _=>cases (show b= .str _ from q);rfl
  | _=>exact absurd (show false=true from g) lJp
 | str _=>cases (show a= .str _ from r);cases y with
  | non=>cases (show b= .non from q);rfl
  | bl _=>cases (show b= .bl _ from q);rfl
  | int _=>cases (show b= .int _ from q);rfl
  | str _=>cases (show b= .str _ from q);rfl
  | _=>exact absurd (show false=true from g) lJp
 | _=>exact absurd (show false=true from f) lJp
def inT (x:T) (xs:List T):Bool:=xs.any fun y=>eqT y x
theorem kQ0 {K:PySem.W.Frag} {H:Hp} {x:T} {a:V} (r:Rep K H x a) (f:jXi x=true):∀ {xs:List T} {vs:List V},Reps K H xs vs->xs.all jXi=true->vs.all kKd=true/\inV a vs=inT x xs
 | [],_,h,_=>by cases h;exact⟨rfl,rfl⟩
 | y::ys,_,⟨v,ws,e,r1,r2⟩,g=>by
  subst e
  rw[lQr,lKn] at g
  obtain⟨h1,h2⟩:=kQ0 r f r2 g.2
  refine⟨by rw[lQr,jZi r1 g.1,h1];rfl,?_⟩
  unfold inV inT at h2 ⊢
  rw[lQe,lQe,qUq r1 r g.1 f,h2]
def rInF (neg:Bool):R3:=fun x y G Q=>∃xs,seqT G y=some xs/\jXi x=true/\xs.all jXi=true/\Q (.bl (if neg then !inT x xs else inT x xs)) G
theorem uKq {neg:Bool} {op:CmpOp} (h:OpR X (compareOp op) (L2.rIn X.K neg)):Op3 X (compareOp op) (rInF neg):=
 Op3.of h fun H G x y a b Q hg ra rb ⟨xs,hx,fx,fs,q⟩=>by
  obtain⟨p,vs,e,hq,r⟩:=jUs hg rb hx
  obtain⟨h1,h2⟩:=kQ0 ra fx r fs
  exact⟨p,vs,e,hq,jZi ra fx,h1,.bl _,G,.refl H,hg,by rw[h2];rfl,q⟩
theorem o_notInF:Op3 X (compareOp .NotIn) (rInF true):=uKq kUv
def jXg:T->Option Key
 | .int i=>some (.inl i)
 | .str x=>some (.inr x)
 | _=>none
def allK {K:Type} (f:T->Option K):List T->Option (List K)
 | []=>some []
 | x::xs=>match f x,allK f xs with
  | some k,some ks=>some (k::ks)
  | _,_=>none
def key1:T->Option K1
 | .tup ts=>(allK jXg ts).map .inr
 | x=>(jXg x).map .inl
def key2:T->Option K2
 | .tup ts=>(allK key1 ts).map .inr
 | x=>(jXg x).map .inl
def jQe:List T->Option TKey:=allK key2
theorem kJg {K:PySem.W.Frag} {H:Hp} {x:T} {a:V} {k:Key} (h:jXg x=some k) (r:Rep K H x a):a=kV k:=by
 cases x with
 | int i=>cases h;exact r
 | str i=>cases h;exact r
 | non=>cases h
 | bl _=>cases h
 | tup _=>cases h
 | scr _=>cases h
 | ref _=>cases h
 | ty _=>cases h
theorem jZn {K:PySem.W.Frag} {H:Hp} {κ:Type} {f:T->Option κ} {R:κ->V->Prop} (hf:∀x k a,f x=some k->Rep K H x a->R k a):∀ {xs:List T} {vs:List V} {ks:List κ},allK f xs=some ks->Reps K H xs vs->Paired R ks vs
 | [],_,_,h,r=>by cases h;cases (show _=[] from r);exact .nil
 | x::xs,_,ks,h,⟨v,ws,e,r1,r2⟩=>by
  subst e
  unfold allK at h
  cases e1:f x with
  | none=>rw[e1] at h;cases h
  | some k=>
   cases e2:allK f xs with
   | none=>rw[e1,e2] at h;cases h
   | some ks'=>
    rw[e1,e2] at h;cases h
    exact .cons (hf _ _ _ e1 r1) (jZn hf e2 r2)
theorem qYa {K:PySem.W.Frag} {H:Hp} (x:T) (k:K1) (a:V) (h:key1 x=some k) (r:Rep K H x a):Rk1 H k a:=by
 cases x with
 | tup ts=>
  obtain⟨ks,h1,rfl⟩:=lKg.mp (show (allK jXg ts).map Sum.inr=some k from h)
  obtain⟨p,vs,e,h3,h4⟩:=(show ∃p vs,a= .ref p/\H p=some (.tup vs)/\Reps K H ts vs from r)
  exact⟨p,vs,e,h3,jZn (fun x k a h r=>kJg h r) h1 h4⟩
 | int i=>cases h;exact r
 | str i=>cases h;exact r
 | non=>cases h
 | bl _=>cases h
 | scr _=>cases h
 | ref _=>cases h
 | ty _=>cases h
theorem qX8 {K:PySem.W.Frag} {H:Hp} (x:T) (k:K2) (a:V) (h:key2 x=some k) (r:Rep K H x a):Rk2 H k a:=by
 cases x with
 | tup ts=>
  obtain⟨ks,h1,rfl⟩:=lKg.mp (show (allK key1 ts).map Sum.inr=some k from h)
  obtain⟨p,vs,e,h3,h4⟩:=(show ∃p vs,a= .ref p/\H p=some (.tup vs)/\Reps K H ts vs from r)
  exact⟨p,vs,e,h3,jZn qYa h1 h4⟩
 | int i=>cases h;exact r
 | str i=>cases h;exact r
 | non=>cases h
 | bl _=>cases h
 | scr _=>cases h
 | ref _=>cases h
 | ty _=>cases h
theorem jQq {K:PySem.W.Frag} {H:Hp} {xs:List T} {vs:List V} {ks:TKey} {p:Addr} (h:jQe xs=some ks) (e:H p=some (.tup vs)) (r:Reps K H xs vs):TKeyAt H ks p:=⟨vs,e,jZn qX8 h r⟩
def valT {κ:Type} [DecidableEq κ] (kvs:List (κ×T)) (k:κ):Option T:=(kvs.find? fun kv=>decide (kv.1=k)).map (·.2)
noncomputable def putT {κ:Type} [DecidableEq κ] (kvs:List (κ×T)) (k:κ) (v:T):List (κ×T):=
 if (kvs.any fun kv=>decide (kv.1=k))=true then kvs.map (fun kv=>if kv.1=k then (kv.1,v) else kv) else kvs++[(k,v)]
theorem PKV.val {κ:Type} [DecidableEq κ] {K:PySem.W.Frag} {H:Hp} {kvs:List (κ×T)} {ws:List (κ×V)} (r:PKV K H kvs ws) (k:κ):(∀t,valT kvs k=some t->∃v,valV ws k=some v/\Rep K H t v)/\(valT kvs k).isSome=(valV ws k).isSome:=by
 unfold PKV at r
 induction r with
 | nil=>exact⟨fun t h=>by simp[valT] at h,rfl⟩
 | @cons p q ps qs h t ih=>
  by_cases e:p.1=k
  ·have e':q.1=k:=h.1.symm.trans e
   have b:valT (p::ps) k=some p.2:=by simp[valT,lQf,e]
   rw[b,jY7 e']
   exact⟨fun t ht=>by cases ht;exact⟨q.2,rfl,h.2⟩,rfl⟩
  ·have e':¬ q.1=k:=fun z=>e (h.1.trans z)
   have b:valT (p::ps) k=valT ps k:=by simp[valT,lQf,e]
   rw[b,jY8 e']
   exact ih
theorem PKV.any {κ:Type} [DecidableEq κ] {K:PySem.W.Frag} {H:Hp} {kvs:List (κ×T)} {ws:List (κ×V)} (r:PKV K H kvs ws) (k:κ):(kvs.any fun kv=>decide (kv.1=k))=ws.any fun kv=>decide (kv.1=k):=by
 unfold PKV at r
 induction r with
 | nil=>rfl
 | cons h t ih=>rw[lQe,lQe,ih,h.1]
theorem PKV.put {κ:Type} [DecidableEq κ] {K:PySem.W.Frag} {H:Hp} {kvs:List (κ×T)} {ws:List (κ×V)} (r:PKV K H kvs ws) (k:κ) {t:T} {v:V} (rt:Rep K H t v):PKV K H (putT kvs k t) (putK ws k v):=by
 unfold putT putK
 rw[r.any k]
 by_cases e:(ws.any fun kv=>decide (kv.1=k))=true
 ·rw[lJc e,lJc e]
  unfold PKV at r ⊢
  clear e
  induction r with
  | nil=>exact .nil
  | @cons p q ps qs h t' ih=>
   rw[lJq,lJq]
   refine .cons ?_ ih
   obtain⟨h1,h2⟩:=h
   by_cases e:p.1=k
   ·rw[lJc e,lJc (h1.symm.trans e)];exact⟨h1,rt⟩
   ·rw[lJb e,lJb (fun z=>e (h1.trans z))];exact⟨h1,h2⟩
 ·rw[lJb e,lJb e];exact Paired.snoc r ⟨rfl,rt⟩
theorem PKV.length {κ:Type} {K:PySem.W.Frag} {H:Hp} {kvs:List (κ×T)} {ws:List (κ×V)} (r:PKV K H kvs ws):kvs.length=ws.length:=lVb r
noncomputable def dAt (G:Gp) (x y:T):Option (Option T):=match x with
 | .ref p=>match G p with
  | some (.dct kvs)=>match y with
   | .tup ys=>match jQe ys with
    | some ks=>some (valT kvs ks)
    | none=>none
   | _=>none
  | some (.dck kvs)=>match jXg y with
   | some k=>some (valT kvs k)
   | none=>none
  | some (.fdc kvs)=>match y with
   | .tup ys=>match jQe ys with
    | some ks=>some (valT kvs ks)
    | none=>none
   | _=>none
  | _=>none
 | _=>none
theorem qU5 {K:PySem.W.Frag} {H:Hp} {G:Gp} {x y:T} {a b:V} {o:Option T} (hg:GRel K H G) (ra:Rep K H x a) (rb:Rep K H y b) (h:dAt G x y=some o):
  ∃p ov,a= .ref p/\DGet H p b ov/\o.isSome=ov.isSome/\∀t,o=some t->∃v,ov=some v/\Rep K H t v:=by
 unfold dAt at h
 split at h
 ·rename_i p
  cases (show a= .ref p from ra)
  split at h
  ·rename_i kvs hG
   split at h
   ·rename_i ys
    split at h
    ·rename_i ks hk
     cases h
     obtain⟨ws,h1,h2⟩:=hg p _ hG
     obtain⟨q,vs,e,h3,h4⟩:=(show ∃q vs,b= .ref q/\H q=some (.tup vs)/\Reps K H ys vs from rb)
     subst e
     exact⟨p,_,rfl,DGet.t h1 (jQq hk h3 h4),(h2.val ks).2,(h2.val ks).1⟩
    ·cases h
   ·cases h
  ·rename_i kvs hG
   split at h
   ·rename_i k hk
    cases h
    obtain⟨ws,h1,h2⟩:=hg p _ hG
    rw[kJg hk rb]
    exact⟨p,_,rfl,DGet.k h1,(h2.val k).2,(h2.val k).1⟩
   ·cases h
  ·rename_i kvs hG
   split at h
   ·rename_i ys
    split at h
    ·rename_i ks hk
     cases h
     obtain⟨ob,ws,h1,h2⟩:=(show ∃ob ws,H p=some (.frz ob (.dT ws))/\PKV K H kvs ws from hg p _ hG)
     obtain⟨q,vs,e,h3,h4⟩:=(show ∃q vs,b= .ref q/\H q=some (.tup vs)/\Reps K H ys vs from rb)
     subst e
     exact⟨p,_,rfl,.inr ⟨ws,ks,q,.inr ⟨ob,h1⟩,rfl,jQq hk h3 h4,rfl⟩,(h2.val ks).2,(h2.val ks).1⟩
    ·cases h
   ·cases h
  ·cases h
 ·cases h
def rDGet:R3:=fun x y G Q=>∃t,dAt G x y=some (some t)/\Q t G
theorem uKj (hu:X.A.units+20<cLine):Ix3 X rDGet:=by
 rintro value slice pins s τ G H x y v u Q ⟨σ,I,hs,hg⟩ ⟨a,ra,rv⟩ ⟨b,rb,ru⟩ ⟨t,hd,q⟩ hsl
 obtain⟨p,ov,e,g,_,hh⟩:=qU5 hg ra rb hd
 obtain⟨w,ew,rw'⟩:=hh t rfl
 subst e;subst ew
 cases rv
 have hT:s.TypeIs (.ref p) "dict":=kX5 I g
 unfold subscriptTail
 refine lJa ?_
 rw[getitemInPython_of_ne hT.not_modules]
 refine lJa (wpAny_specialOf hT PySem.F.slot_dict_getitem.lookup ?_)
 have fin:wpAny (model X.prog X.w) X.A (subscripted slice false (.ref p) u) (fun r s₃=>wpAny (model X.prog X.w) X.A (letTemporaryGo value (.ref p) r >>= fun _=>pure r) (EP3 X pins τ H Q) X.xe s₃) X.xe s:=by
  rw[hsl]
  exact wpAny_operating (qU4 hu I g ru fun w' s' I' r'=>lJa (wpAny_letTemporaryGo (lJd ⟨t,G,H,.refl H,⟨σ,I',hs,hg⟩,⟨w,rw',r'⟩,q⟩)))
 first
  | exact lJd (lJa fin)
  | exact lJa (lJd (lJa fin))
  | exact lJa fin
theorem Ix3.or {r r':R3} (h:Ix3 X r) (h':Ix3 X r'):Ix3 X (fun x y G Q=>r x y G Q\/r' x y G Q):=by
 intro value slice pins s τ G H x y v u Q I rx ry q hs
 rcases q with q | q
 ·exact h value slice pins s τ G H x y v u Q I rx ry q hs
 ·exact h' value slice pins s τ G H x y v u Q I rx ry q hs
def rIxA:R3:=fun x y G Q=>rIx x y G Q\/rDGet x y G Q
theorem uKk (hu:X.A.units+20<cLine):Ix3 X rIxA:=ix_any.or (uKj hu)
def qQe:R3:=fun x y G Q=>∃o,dAt G y x=some o/\Q (.bl (!o.isSome)) G
theorem qXv (hu:X.A.units+20<cLine):Op3 X (compareOp .NotIn) qQe:=by
 rintro pins s τ G H x y v u Q ⟨σ,I,hs,hg⟩ ⟨a,ra,rv⟩ ⟨b,rb,ru⟩ ⟨o,hd,q⟩
 obtain⟨p,ov,e,g,e2,_⟩:=qU5 hg rb ra hd
 subst e;cases ru
 exact uK4 hu I g rv fun s' I'=>⟨.bl _,G,H,.refl H,⟨σ,I',hs,hg⟩,⟨.bl _,rfl,by rw[<-e2];rfl⟩,q⟩
def qQb:R3:=fun x y G Q=>rInF true x y G Q\/qQe x y G Q
theorem uJ1 (hu:X.A.units+20<cLine):Op3 X (compareOp .NotIn) qQb:=o_notInF.or (qXv hu)
def kV2:TE3:=fun _ G Q=>(∀p,G p=none->Q (.ref p) (gup G p (.dct [])))\/∀p,G p=none->Q (.ref p) (gup G p (.dck []))
theorem e_dct {pos:Pos}:PE3 X (.Dict [] [] pos) kV2:=by
 rintro pins s τ G H Q ⟨σ,I,hs,hg⟩ h
 rcases h with h | h
 ·exact thn (qXn pins s σ H (up X.K H Q) I fun p hp=>⟨.ref p,_,.upd (.none hp),hg.upd (.none hp) (go:= .dct []) ⟨[],jKt,.nil⟩,rfl,h p (hg.fresh hp)⟩) fun u s' z=>jVf hs z
 ·exact thn (qXo pins s σ H (up X.K H Q) I fun p hp=>⟨.ref p,_,.upd (.none hp),hg.upd (.none hp) (go:= .dck []) ⟨[],jKt,.nil⟩,rfl,h p (hg.fresh hp)⟩) fun u s' z=>jVf hs z
noncomputable def qZj:T->T->T->Gp->(Gp->Prop)->Prop:=fun o i v G Q=>∃p ys ks kvs,o= .ref p/\i= .tup ys/\jQe ys=some ks/\G p=some (.dct kvs)/\kvs.length<sizeLine/\Q (gup G p (.dct (putT kvs ks v)))
def qZk:T->T->T->Gp->(Gp->Prop)->Prop:=fun o i v G Q=>∃p k kvs,o= .ref p/\jXg i=some k/\G p=some (.dck kvs)/\kvs.length<sizeLine/\Q (gup G p (.dck (putT kvs k v)))
theorem uJg (hu:X.A.units+20<cLine):Set3 X qZj:=by
 rintro pins s τ G H o i v ov iv u Q ⟨σ,I,hs,hg⟩ ⟨a,ra,rv⟩ ⟨b,rb,ru⟩ ⟨c,rc,rw'⟩ ⟨p,ys,ks,kvs,eo,ei,hk,hG,hz,q⟩
 subst eo;subst ei
 cases (show a= .ref p from ra);cases rv
 obtain⟨ws,h1,h2⟩:=hg p _ hG
 obtain⟨b',vs,e,h3,h4⟩:=(show ∃q vs,b= .ref q/\H q=some (.tup vs)/\Reps X.K H ys vs from rb)
 subst e
 have h3:=jQq hk h3 h4
 have e:Ext H (upd H p (.dT (putK ws ks c))):= .upd (.dT h1)
 exact kVi hu I (DPut.t h1 h3 (by rw[<-h2.length];exact hz)) ru rw' fun s' I'=>⟨_,_,e,⟨σ,I',hs.mono e,hg.upd (.dT h1) (go:= .dct (putT kvs ks v)) ⟨_,jKt,(h2.put ks rc).mono e⟩⟩,q⟩
theorem uJh (hu:X.A.units+20<cLine):Set3 X qZk:=by
 rintro pins s τ G H o i v ov iv u Q ⟨σ,I,hs,hg⟩ ⟨a,ra,rv⟩ ⟨b,rb,ru⟩ ⟨c,rc,rw'⟩ ⟨p,k,kvs,eo,hk,hG,hz,q⟩
 subst eo
 cases (show a= .ref p from ra);cases rv
 obtain⟨ws,h1,h2⟩:=hg p _ hG
 have eb:=kJg hk rb
 subst eb
 have e:Ext H (upd H p (.dK (putK ws k c))):= .upd (.dK h1)
 exact kVi hu I (DPut.k h1 (by rw[<-h2.length];exact hz)) ru rw' fun s' I'=>⟨_,_,e,⟨σ,I',hs.mono e,hg.upd (.dK h1) (go:= .dck (putT kvs k v)) ⟨_,jKt,(h2.put k rc).mono e⟩⟩,q⟩
theorem Set3.or {r r':T->T->T->Gp->(Gp->Prop)->Prop} (h:Set3 X r) (h':Set3 X r'):Set3 X (fun o i v G Q=>r o i v G Q\/r' o i v G Q):=by
 intro pins s τ G H o i v ov iv u Q I ro ri rv q
 rcases q with q | q
 ·exact h pins s τ G H o i v ov iv u Q I ro ri rv q
 ·exact h' pins s τ G H o i v ov iv u Q I ro ri rv q
def rSetA:T->T->T->Gp->(Gp->Prop)->Prop:=fun o i v G Q=>qXg o i v G Q\/qZj o i v G Q\/qZk o i v G Q
theorem s_any (hu:X.A.units+20<cLine):Set3 X rSetA:=s_list.or ((uJg hu).or (uJh hu))
end
noncomputable def kUg (G:Gp):T->Option String
 | .non=>some "NoneType"
 | .bl _=>some "bool"
 | .int _=>some "int"
 | .str _=>some "str"
 | .tup _=>some "tuple"
 | .scr _=>some "list"
 | .ref p=>match G p with
  | some (.lst _)=>some "list"
  | some (.dct _)=>some "dict"
  | some (.dck _)=>some "dict"
  | some (.fdc _)=>none
  | some (.ins _ _)=>none
  | none=>none
 | .ty _=>none
def subT (t n:String):Option Bool:=
 if n="bool"\/n="int"\/n="str"\/n="list"\/n="tuple" then some (t == n||(t == "bool"&&n == "int")) else none
theorem qX7 (K:PySem.W.Frag) {n:String} {b:Bool} (h:subT "bool" n=some b):PySem.W.kitOne K (.type "bool") (.type n)=some b:=by
 unfold subT at h
 split at h
 ·rename_i hn
  rcases hn with rfl | rfl | rfl | rfl | rfl<;>(cases h;kernel_rfl)
 ·cases h
theorem qX6 (K:PySem.W.Frag) {n:String} {b:Bool} (h:subT "NoneType" n=some b):PySem.W.kitOne K (.type "NoneType") (.type n)=some b:=by
 unfold subT at h
 split at h
 ·rename_i hn
  rcases hn with rfl | rfl | rfl | rfl | rfl<;>(cases h;kernel_rfl)
 ·cases h
theorem uKh (K:PySem.W.Frag) {n:String} {b:Bool} (h:subT "int" n=some b):PySem.W.kitOne K (.type "int") (.type n)=some b:=by
 unfold subT at h
 split at h
 ·rename_i hn
  rcases hn with rfl | rfl | rfl | rfl | rfl<;>(cases h;kernel_rfl)
 ·cases h
theorem uKg (K:PySem.W.Frag) {n:String} {b:Bool} (h:subT "str" n=some b):PySem.W.kitOne K (.type "str") (.type n)=some b:=by
 unfold subT at h
 split at h
 ·rename_i hn
  rcases hn with rfl | rfl | rfl | rfl | rfl<;>(cases h;kernel_rfl)
 ·cases h
theorem qQ5 (K:PySem.W.Frag) {n:String} {b:Bool} (h:subT "tuple" n=some b):PySem.W.kitOne K (.type "tuple") (.type n)=some b:=by
 unfold subT at h
 split at h
 ·rename_i hn
  rcases hn with rfl | rfl | rfl | rfl | rfl<;>(cases h;kernel_rfl)
 ·cases h
theorem kY4 (K:PySem.W.Frag) {n:String} {b:Bool} (h:subT "list" n=some b):PySem.W.kitOne K (.type "list") (.type n)=some b:=by
 unfold subT at h
 split at h
 ·rename_i hn
  rcases hn with rfl | rfl | rfl | rfl | rfl<;>(cases h;kernel_rfl)
 ·cases h
theorem kY5 (K:PySem.W.Frag) {n:String} {b:Bool} (h:subT "dict" n=some b):PySem.W.kitOne K (.type "dict") (.type n)=some b:=by
 unfold subT at h
 split at h
 ·rename_i hn
  rcases hn with rfl | rfl | rfl | rfl | rfl<;>(cases h;kernel_rfl)
 ·cases h
section
variable {X:Cx}
theorem e_ty {x:Str} {n:String} {pos:Pos} (hg:Gl X x) (hm:X.mg x=none) (hv:bootBuiltins x=some (.type n)) (hn:x≠"__name__":=by decide) (hd:(x == ("__debug__":Str))=false:=by decide):PE3 X (.Name x pos) (tC (.ty n)):=
 fun pins s τ G H Q ⟨σ,I,hs,hg'⟩ q=>thn (uJu (v:= .ty n) hg hm hv rfl hn hd pins s σ H (up X.K H Q) I ⟨.ty n,G,.refl H,hg',rfl,q⟩) fun u s' h=>jVf hs h
def kitT (t:String):List T->Option Bool
 | []=>some false
 | .ty n::r=>match subT t n with
  | some true=>some true
  | some false=>kitT t r
  | none=>none
 | _::_=>none
def isiC:Option String->T->Option Bool
 | some t,.ty n=>subT t n
 | some t,.tup cs=>kitT t cs
 | _,_=>none
def isiT (G:Gp) (x c:T):Option Bool:=isiC (kUg G x) c
def rIsi:List T->Gp->VK3->Prop:=fun xs G Q=>∃x c b,xs=[x,c]/\isiT G x c=some b/\Q (.bl b) G
theorem qQ6 {K:PySem.W.Frag} {H:Hp} {t:String} (ok:∀n b,subT t n=some b->PySem.W.kitOne K (.type t) (.type n)=some b):∀ {cs:List T} {vs:List V} {us:List Value} {b:Bool},Reps K H cs vs->Vals vs us->kitT t cs=some b->PySem.W.kitAny K (.type t) us=some b
 | [],_,_,_,r,q,h=>by cases r;cases q;exact h
 | c::cs,_,_,b,⟨v,ws,e,r1,r2⟩,q,h=>by
  subst e
  cases q with
  | cons q1 q2=>
   cases c with
   | ty n=>
    cases (show v= .ty n from r1)
    cases q1
    unfold kitT at h
    unfold PySem.W.kitAny
    cases e:subT t n with
    | none=>rw[e] at h;cases h
    | some k=>
     rw[e] at h
     rw[ok n k e]
     cases k with
     | true=>exact h
     | false=>exact qQ6 ok r2 q2 h
   | _=>cases h
theorem jQ1 {pins:List (Addr×Obj)} {τ:St3} {G:Gp} {H:Hp} {s:Shared} {σ:L2.St} {c:T} {cv:V} {u cu:Value} {t:String} {b:Bool} {Q:VK3} {Hh:Heap->Prop} (I:Inv X pins σ H s) (hs:SRel X.K H σ τ) (hg:GRel X.K H G)
  (Z:PySem.W.KitX X.K u (.type t) Hh) (p:Hh s.heap) (hx:u≠ .builtin "__main__.__loader__#opaque") (ok:∀n b,subT t n=some b->PySem.W.kitOne X.K (.type t) (.type n)=some b)
  (rc:Rep X.K H c cv) (ru:RelV cv cu) (h:isiC (some t) c=some b) (q:Q (.bl b) G):
  wpAny (model X.prog X.w) X.A (call (.builtin "isinstance") [u,cu]) (EP3 X pins τ H Q) X.xe s:=by
 have fin:∀tk,EP3 X pins τ H Q (.bool b) {s with toks:=tk}:=fun tk=>⟨.bl b,G,H,.refl H,⟨σ,I.tok tk,hs,hg⟩,⟨.bl b,rfl,rfl⟩,q⟩
 cases c with
 | ty n=>
  cases (show cv= .ty n from rc);cases ru
  exact PySem.W.kia_one Z I.kIn p (ok n b h) hx fin
 | tup cs=>
  obtain⟨pp,vs,e,h1,h2⟩:=(show ∃p vs,cv= .ref p/\H p=some (.tup vs)/\Reps X.K H cs vs from rc)
  subst e;cases ru
  obtain⟨its,rv,⟨⟨cls,dd,data,sl⟩,ho,hc,n,hd⟩,_⟩:=I.tuple (.of h1)
  simp only at hc hd
  subst hc hd
  exact PySem.W.kia_tup Z I.kIn p ho (qQ6 ok h2 rv h) hx fin
 | _=>cases h
theorem c_isi:Call3 X (.builtin "isinstance") rIsi:=by
 rintro pins s τ G H xs us Q ⟨σ,I,hs,hg⟩ ⟨as,ras,rvs⟩ ⟨x,c,b,e,h,q⟩
 subst e
 obtain⟨a,cv,rfl,ra,rc⟩:=kZ7 ras
 obtain⟨u,cu,rfl,ru,rcu⟩:=rvs.two
 unfold isiT at h
 cases x with
 | non=>cases (show a= .non from ra);cases ru;exact jQ1 I hs hg PySem.W.kitx_none True.intro (fun z=>nomatch z) (fun n b=>qX6 _) rc rcu h q
 | bl k=>cases (show a= .bl k from ra);cases ru;exact jQ1 I hs hg PySem.W.kitx_bool True.intro (fun z=>nomatch z) (fun n b=>qX7 _) rc rcu h q
 | int k=>cases (show a= .int k from ra);obtain⟨t,rfl⟩:=ru;exact jQ1 I hs hg PySem.W.kitx_int True.intro (fun z=>nomatch z) (fun n b=>uKh _) rc rcu h q
 | str k=>cases (show a= .str k from ra);obtain⟨t,rfl⟩:=ru;exact jQ1 I hs hg PySem.W.kitx_str True.intro (fun z=>nomatch z) (fun n b=>uKg _) rc rcu h q
 | tup ys=>
  obtain⟨p,vs,e,h1,h2⟩:=(show ∃p vs,a= .ref p/\H p=some (.tup vs)/\Reps X.K H ys vs from ra)
  subst e;cases ru
  obtain⟨its,rv,⟨o,ho,hc,_⟩,_⟩:=I.tuple (.of h1)
  exact jQ1 I hs hg PySem.W.kitx_tuple ⟨o,ho,hc⟩ (fun z=>nomatch z) (fun n b=>qQ5 _) rc rcu h q
 | scr ys=>
  obtain⟨p,vs,e,h1,h2⟩:=(show ∃p vs,a= .ref p/\FrL X.K H p vs/\Reps X.K H ys vs from ra)
  subst e;cases ru
  obtain⟨its,rv,⟨o,n,ho,hc,_⟩,_⟩:=I.list h1.sq
  exact jQ1 I hs hg PySem.W.kitx_list ⟨o,ho,hc⟩ (fun z=>nomatch z) (fun n b=>kY4 _) rc rcu h q
 | ref p=>
  cases (show a= .ref p from ra);cases ru
  cases hG:G p with
  | none=>simp only[kUg,hG] at h;cases h
  | some g=>
   cases g with
   | lst ys=>
    simp only[kUg,hG] at h
    obtain⟨vs,h1,h2⟩:=hg.lst hG
    obtain⟨its,rv,⟨o,n,ho,hc,_⟩,_⟩:=I.list (.of h1)
    exact jQ1 I hs hg PySem.W.kitx_list ⟨o,ho,hc⟩ (fun z=>nomatch z) (fun n b=>kY4 _) rc rcu h q
   | fdc kvs=>simp only[kUg,hG] at h;cases h
   | ins _ _=>simp only[kUg,hG] at h;cases h
   | dct kvs=>
    simp only[kUg,hG] at h
    obtain⟨ws,h1,_⟩:=hg p _ hG
    obtain⟨_,_,xs,_,o,es,ep,h3,h4,_⟩:=(show ObjOk X.prog X.w H s.heap p (.dT ws) from I.hok p _ h1)
    exact jQ1 I hs hg PySem.W.kitx_dict ⟨o,h3,h4.1⟩ (fun z=>nomatch z) (fun n b=>kY5 _) rc rcu h q
   | dck kvs=>
    simp only[kUg,hG] at h
    obtain⟨ws,h1,_⟩:=hg p _ hG
    obtain⟨_,_,vs,_,pp⟩:=(show ObjOk X.prog X.w H s.heap p (.dK ws) from I.hok p _ h1)
    obtain⟨o,es,ep,h3,h4,_⟩:=pp
    exact jQ1 I hs hg PySem.W.kitx_dict ⟨o,h3,h4.1⟩ (fun z=>nomatch z) (fun n b=>kY5 _) rc rcu h q
 | ty _=>cases h
abbrev TO3:=St3->Gp->(Option Int->Gp->Prop)->Prop
def PO3 (X:Cx) (e:Option Expr) (t:TO3):Prop:=
 ∀(pins:List (Addr×Obj)) (s:Shared) (τ:St3) (G:Gp) (H:Hp) (Q:Option Int->Gp->Prop),Inv3 X pins τ G H s->t τ G Q->
  wpAny (model X.prog X.w) X.A (evalPart e X.env) (fun u s'=>∃o G' H',Ext H H'/\Inv3 X pins τ G' H' s'/\IsPart u o/\Q o G') X.xe s
def kV0:TO3:=fun _ G Q=>Q none G
def qKg (t:TE3):TO3:=fun τ G Q=>t τ G fun x G1=>∃i,x= .int i/\Q (some i) G1
theorem p_none:PO3 X none kV0:=by
 intro pins s τ G H Q I h
 rw[evalPart_none]
 exact lJd ⟨none,G,H,.refl H,I,.none,h⟩
theorem qQn {e:Expr} {te:TE3} (h:PE3 X e te):PO3 X (some e) (qKg te):=by
 intro pins s τ G H Q I hw
 rw[evalPart_some]
 refine thn (h pins s τ G H _ I hw) fun u s1 w_=>w_.el fun x G1 H1 e1 I1 r_ ⟨i,ex,q⟩=>r_.el fun v rv ru=> ?_
 subst ex
 cases (show v= .int i from rv)
 obtain⟨t,rfl⟩:=ru
 exact⟨some i,G1,H1,e1,I1,.int i t,q⟩
def Sl3 (X:Cx) (r:T->Option Int->Option Int->Gp->VK3->Prop):Prop:=
 ∀(pins:List (Addr×Obj)) (s:Shared) (τ:St3) (G:Gp) (H:Hp) (x:T) (v vl vu:Value) (lo hi:Option Int) (sl:Addr) (Q:VK3),Inv3 X pins τ G H s->RU X.K H x v->s.heap.IsSliceOf sl vl vu .none->IsPart vl lo->IsPart vu hi->r x lo hi G Q->
  ∃T id,typeLookup (.type T) "__getitem__"=pure (some (.builtin id))/\s.TypeIs v T/\wpAny (model X.prog X.w) X.A (getItem v (.ref sl)) (EP3 X pins τ H Q) X.xe s
def tSl (r:T->Option Int->Option Int->Gp->VK3->Prop) (te:TE3) (tl th:TO3):TE3:=fun τ G Q=>te τ G fun x G1=>tl τ G1 fun l G2=>th τ G2 fun u G3=>r x l u G3 Q
theorem qUz {r:T->Option Int->Option Int->Gp->VK3->Prop} {e:Expr} {te:TE3} {lo hi:Option Expr} {tl th:TO3} {pos p2:Pos} (hr:Sl3 X r) (he:PE3 X e te) (hl:PO3 X lo tl) (hu:PO3 X hi th):PE3 X (.Subscript e (.Slice lo hi none p2) pos) (tSl r te tl th):=by
 intro pins s τ G H Q I h
 refine Subscript_ (thn (he pins s τ G H _ I h) fun v s1 w_=>w_.el fun x G1 H1 e1 I1 r1 q1=> ?_)
 refine wpAny_Slice (thn (hl pins s1 τ G1 H1 _ I1 q1) fun vl s2 ⟨l,G2,H2,e2,I2,pl,q2⟩=>thn (hu pins s2 τ G2 H2 _ I2 q2) fun vu s3 ⟨u,G3,H3,e3,⟨σ,I3,hs3,hg3⟩,pu,q3⟩=> ?_)
 rw[evalPart_none]
 refine lJd ?_
 have I4:Inv X pins σ H3 {s3 with heap:=s3.heap.push {cls:= .type "slice",data:= .fields #[vl,vu,.none]} }:=I3.kept (t':=s3.toks) fun b ob q=>lJm _ q
 obtain⟨T0,id,hT,ht,hg⟩:=hr pins {s3 with heap:=s3.heap.push {cls:= .type "slice",data:= .fields #[vl,vu,.none]} } τ G3 H3 x v vl vu l u s3.heap.objs.size Q ⟨σ,I4,hs3,hg3⟩ ((r1.mono e2).mono e3) (Heap.IsSliceOf.new ..) pl pu q3
 show wpAny (model X.prog X.w) X.A (subscriptTail e (.Slice lo hi none p2) v (.ref s3.heap.objs.size)) (EP3 X pins τ H Q) X.xe {s3 with heap:=s3.heap.push {cls:= .type "slice",data:= .fields #[vl,vu,.none]} }
 exact thn (tail_any (ops:=[.ref s3.heap.objs.size,v]) ht hT hg (by with_unfolding_all rfl)) fun _ _ z=>z.ext ((e1.trans e2).trans e3)
def cutT (xs:List T) (lo hi:Option Int):List T:=(xs.drop (HT.sIx xs.length 0 lo)).take (HT.sIx xs.length xs.length hi-HT.sIx xs.length 0 lo)
noncomputable def rSlA:T->Option Int->Option Int->Gp->VK3->Prop:=fun x lo hi G Q=>
 (∃xs,jQ8 G x=some xs/\∀p,G p=none->Q (.ref p) (gup G p (.lst (cutT xs lo hi))))\/∃xs,x= .tup xs/\Q (.tup (cutT xs lo hi)) G
end
end L3
namespace HT
open PySem PyProof.Rows
theorem getItem_tuple_whole {prog:Program} {w:World} {A:Around} {E:Value->Shared->Prop} {s:Shared} {t sl:Addr} {items:Array Value} {vl vu:Value} {lo hi:Option Int} {Q:Value->Shared->Prop} (ht:IsTup s.heap t items) (hs:s.heap.IsSliceOf sl vl vu .none) (pl:IsPart vl lo) (pu:IsPart vu hi)
  (hw:sIx items.size 0 lo=0/\sIx items.size items.size hi=items.size) (h:Q (.ref t) s):wpAny (model prog w) A (getItem (.ref t) (.ref sl)) Q E s:=by
 obtain⟨os,hos,hcs,hds⟩:=id hs
 have hTs:s.TypeIs (.ref sl) "slice":=⟨os,hos,hcs⟩
 unfold getItem
 try with_reducible refine lK4 ?_
 first | refine lJa (lJd ?_) | skip
 refine lJa (wpAny_sequenceKey ht.typeIs (by decide) ?_)
 refine lJa (lV5 (name:=Str.ofString "__getitem__") ht.typeIs lVp
  (lQm lVp ht.typeIs entry_tuple_getitem ?_ (args_tuple_getitem _ _)))
 show wpAny _ _ (Builtin.Tuple.tupleItemsOf (.ref t) >>= _) _ _ s
 refine lJa (tupleItemsOf_ ht ?_)
 refine lJa (lV6 hTs ?_)
 rw[lJc (by decide)]
 refine lJa (jVa hs pl pu ?_)
 have hyes:(((sIx items.size 0 lo:Nat):Int) == 0&&(1:Int) == 1&&(sIx items.size items.size hi-sIx items.size 0 lo) == items.size)=true:=by
  rw[hw.1,hw.2];simp
 show wpAny _ _ (if (((sIx items.size 0 lo:Nat):Int) == 0&&(1:Int) == 1&&(sIx items.size items.size hi-sIx items.size 0 lo) == items.size)=true then _ else _) _ _ s
 rw[lJc hyes]
 refine lJa ?_
 unfold Builtin.Tuple.tupleIsExact
 refine lJa (lV6 ht.typeIs (lJd ?_))
 rw[lJc (by decide)]
 exact lJa (wpAny_rule (lJd ⟨_,rfl,lJd h⟩))
end HT
namespace L3
open PySem PySem.Spec PyProof.Rows L2
section
variable {X:Cx}
theorem Reps.cut {K:PySem.W.Frag} {H:Hp} {xs:List T} {vs:List V} (r:Reps K H xs vs) (lo hi:Option Int):Reps K H (cutT xs lo hi) (cutV vs lo hi):=by
 unfold cutT cutV
 rw[<-r.length]
 exact (r.drop _).take _
theorem qJz {xs:List T} {lo hi:Option Int} (h:HT.sIx xs.length 0 lo=0/\HT.sIx xs.length xs.length hi=xs.length):cutT xs lo hi=xs:=by
 unfold cutT
 rw[h.1,h.2]
 simp
theorem sl_any:Sl3 X rSlA:=by
 rintro pins s τ G H x v vl vu lo hi sl Q ⟨σ,I,hs,hg⟩ ⟨a,ra,rv⟩ hsl pl pu h
 rcases h with ⟨xs,hx,q⟩ | ⟨xs,ex,q⟩
 ·obtain⟨p,vs,e,hq,r⟩:=jU6 hg ra hx
  subst e
  obtain⟨T0,id,h1,h2,h3⟩:=uJd pins s σ H (.ref p) v vl vu lo hi sl (up X.K H Q) I rv hsl pl pu ⟨p,vs,rfl,hq,fun l hl=>⟨.ref l,_,.upd (.none hl),hg.lstNew (r.cut lo hi) (.none hl),rfl,q l (hg.fresh hl)⟩⟩
  exact⟨T0,id,h1,h2,thn h3 fun _ _ z=>jVf hs z⟩
 ·subst ex
  obtain⟨p,vs,e,h1,h2⟩:=(show ∃p vs,a= .ref p/\H p=some (.tup vs)/\Reps X.K H xs vs from ra)
  subst e
  by_cases hw:HT.sIx xs.length 0 lo=0/\HT.sIx xs.length xs.length hi=xs.length
  ·cases rv
   obtain⟨its,rv',ht,hz⟩:=I.tuple (.of h1)
   have hlen:its.toArray.size=xs.length:=by rw[lJv,<-rv'.length,h2.length]
   refine⟨"tuple",_,lVp.lookup,ht.typeIs,HT.getItem_tuple_whole ht hsl pl pu (by rw[hlen];exact hw) ?_⟩
   rw[qJz hw] at q
   exact⟨.tup xs,G,H,.refl H,⟨σ,I,hs,hg⟩,⟨.ref p,ra,rfl⟩,q⟩
  ·obtain⟨T0,id,h3,h4,h5⟩:=sl_tup pins s σ H (.ref p) v vl vu lo hi sl (up X.K H Q) I rv hsl pl pu ⟨p,vs,rfl,.of h1,by rw[<-h2.length];exact hw,fun l hl=>⟨.tup (cutT xs lo hi),G,.upd (.none hl),hg.tupNew hl,Rep.tupNew (h2.cut lo hi) hl,q⟩⟩
   exact⟨T0,id,h3,h4,thn h5 fun _ _ z=>jVf hs z⟩
def jQ2 (ta:TA3):TE3:=fun τ G Q=>ta τ G fun vs G1=>∃j:Int,vs=[.int j]/\ -(2^62)<=j/\j<=2^20/\∀p,G1 p=none->Q (.ref p) (gup G1 p (.lst (rngT 0 j.toNat)))
theorem qXb {K:PySem.W.Frag} {H:Hp} {n:Nat} {vs:List V} (hl:vs.length=n) (h:∀(i:Nat) v,vs[i]? =some v->v= .int (0+i)):Reps K H (rngT 0 n) vs:=by
 have e:vs=(List.range n).map fun (k:Nat)=>V.int (0+k):=by
  apply lK1
  intro i
  cases hv:vs[i]? with
  | none=>
   have:n<=i:=by rw[<-hl];exact lX0.mp hv
   simp[this]
  | some v=>
   have hi:i<n:=by rw[<-hl];exact (lJe.mp hv).1
   rw[h i v hv];simp[hi]
 rw[e]
 unfold rngT
 generalize List.range n=l
 induction l with
 | nil=>rfl
 | cons k ks ih=>exact⟨_,_,rfl,rfl,ih⟩
end
section
variable {X:Cx}
theorem kJr {a:Expr} {ta:TA3} {pos p p2 p3:Pos} (hgl:Gl X "list") (hml:X.mg "list"=none) (hgr:Gl X "range") (hmr:X.mg "range"=none) (hc:X.calm=true) (ha:PA3 X [a] ta) (hs:starEach [a] X.env=[(false,eval a X.env)]:=by rfl)
  (ho:starEach [Expr.Call (.Name "range" p2) [a] [] p3] X.env=[(false,eval (.Call (.Name "range" p2) [a] [] p3) X.env)]:=by rfl):
  PE3 X (.Call (.Name "list" p) [.Call (.Name "range" p2) [a] [] p3] [] pos) (jQ2 ta):=by
 intro pins s τ G H Q I h
 obtain⟨σ0,I0,hs0,hg0⟩:=id I
 refine lXj (jUu I0 hgl hml (u:= .type "list") (by rfl) ?_)
 refine lQg (T:="list") ?_ ho rfl
 rw[ho]
 show wpAny _ _ (spliced ((false,eval (.Call (.Name "range" p2) [a] [] p3) X.env)::backTo pos [])) _ _ s
 refine Calls.spliced_cons ?_
 refine Call_ (jUu I0 hgr hmr boot_range (lQg (thn (ha p3 pins s τ G H _ I h) fun us s1 w_=>w_.el fun xs G1 H1 e1 i_ r_ ⟨j,e,q1,q2,q⟩=>i_.el fun σ I1 hs1 hg1=>r_.el fun as ras rvs=> ?_) hs rfl))
 subst e
 obtain⟨v,rfl,rv⟩:=jVl ras
 cases (show v= .int j from rv)
 obtain⟨u,rfl,ru⟩:=rvs.one
 obtain⟨t,rfl⟩:=ru
 refine call_range_1 ?_
 refine Calls.spliced_nil ?_
 have I2:Inv X pins σ H1 {s1 with heap:=s1.heap.push {cls:= .type "range",data:= .fields #[.int 0 s1.toks,.int j t,.int 1 (s1.toks+1)]},toks:=s1.toks+1+1}:=I1.kept fun b o e=>lJm _ e
 refine call_list_range (n:=j.toNat) (I1.ok.hd hc) (IsRange.new ..) (small_one (by omega) (by omega) q1 (by omega)) (by rw[rangeSize_one];split<;>omega) (by omega) fun h' tk acc' c' hk hobj hit=> ?_
 have hf:H1 (s1.heap.push {cls:= .type "range",data:= .fields #[.int 0 s1.toks,.int j t,.int 1 (s1.toks+1)]}).objs.size=none:=I2.hok.fresh (lJh _)
 have hz:acc'.size<=sizeLine:=by rw[hit.1,lKe];omega
 obtain⟨vs,hvs,rr⟩:∃vs:List V,Vals vs acc'.toList/\Reps X.K H1 (rngT 0 j.toNat) vs:=by
  refine⟨(List.range j.toNat).map fun (k:Nat)=>V.int (0+k),?_,qXb (by simp) (fun i v hv=> ?_)⟩
  ·have all:∀(l:List Value) (n0:Nat),(∀(i:Nat) v,l[i]? =some v->∃t,v= .int ((0:Int)+((n0+i:Nat):Int)*1) t)->Vals ((List.range' n0 l.length).map fun (k:Nat)=>V.int (0+k)) l:=by
    intro l
    induction l with
    | nil=>intro n0 _;exact .nil
    | cons v l ih=>
     intro n0 hh
     obtain⟨t,ht⟩:=hh 0 v rfl
     rw[lJz,List.range'_succ,lJq]
     refine .cons ⟨t,by rw[ht];simp⟩ (ih (n0+1) fun i w hw=> ?_)
     obtain⟨t',ht'⟩:=hh (i+1) w (by simpa using hw)
     exact⟨t',by rw[ht'];congr 1;omega⟩
   have:=all acc'.toList 0 (fun i v hv=>by
    obtain⟨t,ht⟩:=hit.2 i v (by simpa using hv)
    exact⟨t,by rw[ht];simp⟩)
   rw[List.range_eq_range']
   rw[show acc'.toList.length=j.toNat by simpa using hit.1] at this
   exact this
  ·rw[lJn] at hv
   cases e:(List.range j.toNat)[i]? with
   | none=>rw[e] at hv;cases hv
   | some k=>
    rw[e] at hv;cases hv
    have:=lJe.mp e
    obtain⟨h1,h2⟩:=this
    simp at h2;rw[<-h2]
 refine⟨.ref _,_,_,e1.trans (.upd (.none hf)),⟨σ,I2.laid (t':=tk) (o:= .lst vs) hk (lJh _) ⟨by rw[hvs.length];simpa using hz,acc'.toList,c',hvs,by simpa using hobj⟩,hs1.mono (.upd (.none hf)),hg1.lstNew rr (.none hf)⟩,⟨.ref _,rfl,rfl⟩,q _ (hg1.fresh hf)⟩
def insT (xs:List T) (k:Nat) (y:T):List T:=xs.take k++y::xs.drop k
noncomputable def jZ2:T->List T->Gp->VK3->Prop:=fun x as G Q=>∃p xs k y,x= .ref p/\as=[.int k,y]/\G p=some (.lst xs)/\0<=k/\k<=xs.length/\xs.length<sizeLine/\Q .non (gup G p (.lst (insT xs k.toNat y)))
theorem kYy:Mt3 X "list.insert" jZ2:=by
 rintro pins s τ G H x as v us Q ⟨σ,I,hs,hg⟩ ⟨a,ra,rv⟩ ⟨bs,rbs,rus⟩ ⟨p,xs,k,y,ex,ea,hp,k0,k1,hz,q⟩
 subst ex;subst ea
 cases (show a= .ref p from ra);cases rv
 obtain⟨b1,b2,rfl,r1,r2⟩:=kZ7 rbs
 cases (show b1= .int k from r1)
 obtain⟨u1,u2,rfl,ru1,ru2⟩:=rus.two
 obtain⟨t,rfl⟩:=ru1
 obtain⟨vs,h1,h2⟩:=hg.lst hp
 obtain⟨z,its,n,r,hl,e⟩:=I.lstM h1
 have hlen:=h2.length
 have hfit:¬ (!Builtin.List.listFitsIndex k)=true:=by
  have h63:=kJc
  rw[fitsIndex_both (by omega) (by omega)]
  exact lJp
 refine call_meets F.slot_list_insert ⟨_,e,rfl⟩ F.entry_list_insert (F.args_list_insert_3 _ _ _) (AutoSeq1.list_insert_list_int_val_1 p its.toArray n k t u2 hfit (by rw[lJv];omega)) ⟨e,?_⟩
 have e2:Ext H (upd H p (.lst (vs.take k.toNat++b2::vs.drop k.toNat))):= .upd (.lst h1)
 refine⟨.non,_,_,e2,⟨σ,I.lset (its':=its.take k.toNat++u2::its.drop k.toNat) h1 e ?_ ((r.take _).append (.cons ru2 (r.drop _))) ?_,hs.mono e2,hg.lstNew (xs:=insT xs k.toNat y) ((h2.take _).append ⟨b2,_,rfl,r2,h2.drop _⟩) (.lst h1)⟩,⟨.non,rfl,rfl⟩,q⟩
 ·have hk:¬ k<0:=by omega
  have hm:min k.toNat its.toArray.size=k.toNat:=by rw[lJv];omega
  simp only[hk,lJt,hm]
  apply Array.ext'
  simp[Array.toList_extract]
  rw[List.take_of_length_le (lVn (by simp))]
 ·simp only[lKf,lJz,lQd,List.length_drop]
  omega
def kUs:T->List T->Gp->VK3->Prop:=fun x as G Q=>∃p xs y,x= .ref p/\as=[y]/\G p=some (.lst xs)/\jXi y=true/\xs.all jXi=true/\Q (.int (xs.countP fun z=>eqT z y)) G
theorem kVj {K:PySem.W.Frag} {H:Hp} {y:T} {b:V} (ry:Rep K H y b) (fy:jXi y=true):∀ {xs:List T} {vs:List V} {us:List Value},Reps K H xs vs->Vals vs us->xs.all jXi=true->us.countP (eqU b)=xs.countP fun z=>eqT z y
 | [],_,_,r,q,_=>by cases r;cases q;rfl
 | x::xs,_,_,⟨v,ws,e,r1,r2⟩,q,f=>by
  subst e
  cases q with
  | cons q1 q2=>
   rw[lQr,lKn] at f
   rw[lXb,lXb,kVj ry fy r2 q2 f.2,qUv q1 (jZi r1 f.1),qUq r1 ry f.1 fy]
theorem qQ0:Mt3 X "list.count" kUs:=by
 rintro pins s τ G H x as v us Q ⟨σ,I,hs,hg⟩ ⟨a,ra,rv⟩ ⟨bs,rbs,rus⟩ ⟨p,xs,y,ex,ea,hp,fy,fs,q⟩
 subst ex;subst ea
 cases (show a= .ref p from ra);cases rv
 obtain⟨b,rfl,rb⟩:=jVl rbs
 obtain⟨u,rfl,ru⟩:=rus.one
 obtain⟨vs,h1,h2⟩:=hg.lst hp
 obtain⟨z,its,n,r,hl,e⟩:=I.lstM h1
 have fl:=(kQ0 rb fy h2 fs).1
 refine call_meets F.slot_list_count ⟨_,e,rfl⟩ F.entry_list_count (F.args_list_count_2 _ _) (SeqAt.list_countAt p its.toArray n none #[] u (eqU b)) ⟨e,fun w hw=>jZe ru (jZi rb fy) r fl w (by simpa using hw),?_⟩
 refine⟨.int _,G,H,.refl H,⟨σ,I.tok _,hs,hg⟩,⟨.int _,rfl,s.toks,?_⟩,q⟩
 rw[<-kVj rb fy h2 r fs]
def kYa:List T->Option Bool
 | []=>some true
 | .bl b::r=>match kYa r with
  | some c=>some (b&&c)
  | none=>none
 | _::_=>none
def rAll:List T->Gp->VK3->Prop:=fun as G Q=>∃p xs b,as=[.ref p]/\G p=some (.lst xs)/\kYa xs=some b/\Q (.bl b) G
theorem kVt:∀ {xs:List T} {b:Bool},kYa xs=some b->∃bs:List Bool,xs=bs.map T.bl/\b=bs.all (fun x=>x)
 | [],b,h=>by cases h;exact⟨[],rfl,rfl⟩
 | .bl c::r,b,h=>by
  unfold kYa at h
  cases e:kYa r with
  | none=>rw[e] at h;cases h
  | some d=>
   rw[e] at h;cases h
   obtain⟨bs,h1,h2⟩:=kVt e
   exact⟨c::bs,by rw[h1];rfl,by rw[h2];rfl⟩
 | .non::_,_,h=>by cases h
 | .int _::_,_,h=>by cases h
 | .str _::_,_,h=>by cases h
 | .tup _::_,_,h=>by cases h
 | .scr _::_,_,h=>by cases h
 | .ref _::_,_,h=>by cases h
 | .ty _::_,_,h=>by cases h
theorem kYs {K:PySem.W.Frag} {H:Hp}:∀ {bs:List Bool} {vs:List V} {us:List Value},Reps K H (bs.map T.bl) vs->Vals vs us->us=bs.map Value.bool
 | [],_,_,h,q=>by cases h;cases q;rfl
 | n::ns,_,_,⟨v,ws,e,r,rs⟩,q=>by
  subst e;cases (show v= .bl n from r)
  cases q with
  | cons q1 q2=>cases q1;rw[kYs rs q2];rfl
theorem kVs:∀(bs:List Bool),bs.all (fun x=>x)=(List.range bs.length).all fun i=>bs.getD i true
 | []=>rfl
 | b::bs=>by
  rw[lQr,kVs bs,lJz,List.range_succ_eq_map,lQr,List.all_map]
  simp[Function.comp_def,List.getD]
theorem c_all (hc:X.calm=true):Call3 X (.builtin "all") rAll:=by
 rintro pins s τ G H as us Q ⟨σ,I,hs,hg⟩ ⟨bs',rbs,rus⟩ ⟨p,xs,b,e,hp,hb,q⟩
 subst e
 obtain⟨a,rfl,ra⟩:=jVl rbs
 cases (show a= .ref p from ra)
 obtain⟨u,rfl,ru⟩:=rus.one
 cases ru
 obtain⟨vs,h1,h2⟩:=hg.lst hp
 obtain⟨bs,ex,eb⟩:=kVt hb
 subst ex
 obtain⟨its,rv,pl,hz⟩:=I.list (.of h1)
 have eit:=kYs h2 rv
 subst eit
 refine call_all_walk (wpAny_pyIter_list pl.isList ?_)
 have hne:p≠s.heap.objs.size:=by obtain⟨o,n,ho,_⟩:=pl;exact lJw (lJj ho)
 refine⟨s.heap.objs.size,[s.heap.objs.size,p],[s.heap.objs.size],(bs.map Value.bool).toArray.size,_,_,fun i=>bs.getD i true,rfl,Walks.list (A:=X.A.in1) (show X.A.in1.handled=none from I.ok.hd hc) s.heap.objs.size p hne (bs.map Value.bool).toArray,⟨⟨_,lJ3 _ rfl,rfl,rfl⟩,pl.isList.push _⟩,?_,?_⟩
 ·intro i v s' Q' E' hP hQ
  have hP':(bs.map Value.bool)[i]? =some v:=by simpa using hP
  rw[lJn] at hP'
  cases e:bs[i]? with
  | none=>rw[e] at hP';cases hP'
  | some c=>
   rw[e] at hP';cases hP'
   have:bs.getD i true=c:=by simp[List.getD,e]
   have hQ':Q' (bs.getD i true) s':=hQ
   rw[this] at hQ'
   exact lV3 hQ'
 ·intro h' tk hk
  have hk2:∀b o,s.heap.get? b=some o->h'.get? b=some o:=fun b o e=>hk b o (by simpa using lJw (lJj e)) (lJm _ e)
  refine⟨.bl b,G,H,.refl H,⟨σ,I.kept hk2,hs,hg⟩,⟨.bl b,rfl,?_⟩,q⟩
  rw[eb,kVs]
  simp
  rfl
end
structure Cal (P:Program) (w:World) (K:PySem.W.Frag) (mg:Str->Option Value) (base:Heap) (k:Nat) (x:Str) (ps:List Str) (sp:Sp3):Prop where
 ex:∃f fd,Fn3 P w K mg base k f fd ps sp/\mg x=some (.ref f)/\PySem.W.keepIn K (.ref f)=true/\Binds K fd ps []
 mono:Mono sp
 len:∀xs G Q,sp xs G Q->xs.length=ps.length
theorem jJ2 {X:Cx} {k:Nat} {ps:List Str} {sp:Sp3} {x:Str} {p pos:Pos} {e:Expr} {es:List Expr} {t:TA3} (C:Cal X.prog X.w X.K X.mg X.base k x ps sp) (hr:Room k X.A) (ha:PA3 X (e::es) t) (hg:Gl X x:=by rfl)
  (hdb:(x == ("__debug__":Str))=false:=by decide) (he:starEach (e::es) X.env=(false,eval e X.env)::starEach es X.env:=by rfl) (hpl:(backTo pos (starEach es X.env)).any (·.1)=false:=by rfl):
  PE3 X (.Call (.Name x p) (e::es) [] pos) (jJr sp t):=by
 intro pins s τ G H Q I h
 obtain⟨f,fd,F,hm,hk,hb⟩:=C.ex
 obtain⟨σ0,I0,hs0,hg0⟩:=id I
 refine lXj (qQ4 I0 hg hm ?_ hdb)
 refine PySem.W.callWith_K (h₀:=X.base) I0.ok.mod.kin hk (thn (ha pos pins s τ G H _ I h) fun us s1 w_=>w_.el fun xs G1 H1 e1 i_ r_ q=>i_.el fun σ I1 hs1 hg1=>r_.el fun as ras rvs=>⟨I1.kIn,?_⟩) he hpl
 refine thn (qKv (dvs:=[]) (ds:=[]) (E:=E0) (Q:=up X.K H1 Q) F hr hb .nil qXp I1 rvs ?_) fun u s' z=>(jVf hs1 z).ext e1
 rw[lQn]
 exact⟨by rw[<-ras.length];exact C.len _ _ _ q,xs,G1,ras,hg1,C.mono _ _ _ _ (fun t G' hq v H' e g r=>⟨t,G',e,g,r,hq⟩) q⟩
def qQc:=kXi
theorem uK9 {X:Cx}:Call3 X (.type "list") qQc:=c_list
end L3
namespace L3
open PySem PySem.Spec PyProof.Rows
inductive Res where
 | val (t:T) | newL (xs:List T)
def fin3:Res->Gp->VK3->Prop
 | .val t,G,Q=>Q t G
 | .newL xs,G,Q=>∀p,G p=none->Q (.ref p) (gup G p (.lst xs))
theorem Op3.imp {X:L2.Cx} {f:Value->Value->Sem Value} {r r':R3} (h:Op3 X f r) (i:∀x y G Q,r' x y G Q->r x y G Q):Op3 X f r':=fun pins s τ G H x y v u Q I rx ry q=>h pins s τ G H x y v u Q I rx ry (i x y G Q q)
theorem Ix3.imp {X:L2.Cx} {r r':R3} (h:Ix3 X r) (i:∀x y G Q,r' x y G Q->r x y G Q):Ix3 X r':=fun a b pins s τ G H x y v u Q I rx ry q hs=>h a b pins s τ G H x y v u Q I rx ry (i x y G Q q) hs
theorem Set3.imp {X:L2.Cx} {r r':T->T->T->Gp->(Gp->Prop)->Prop} (h:Set3 X r) (i:∀o j v G Q,r' o j v G Q->r o j v G Q):Set3 X r':=fun pins s τ G H o j v a b c Q I ro rj rv q=>h pins s τ G H o j v a b c Q I ro rj rv (i o j v G Q q)
theorem Sl3.imp {X:L2.Cx} {r r':T->Option Int->Option Int->Gp->VK3->Prop} (h:Sl3 X r) (i:∀x l u G Q,r' x l u G Q->r x l u G Q):Sl3 X r':=fun pins s τ G H x v vl vu lo hi sl Q I rx hs pl pu q=>h pins s τ G H x v vl vu lo hi sl Q I rx hs pl pu (i x lo hi G Q q)
noncomputable def addR (G:Gp):T->T->Option Res
 | .int i,.int j=>some (.val (.int (i+j)))
 | .ref p,.ref q=>match G p,G q with
  | some (.lst xs),some (.lst ys)=>if xs.length+ys.length<=sizeLine then some (.newL (xs++ys)) else none
  | _,_=>none
 | .tup xs,.tup ys=>if xs.length≠0/\xs.length+ys.length<=sizeLine then some (.val (.tup (xs++ys))) else none
 | _,_=>none
def jKh:R3:=fun x y G Q=>∃r,addR G x y=some r/\fin3 r G Q
theorem add_F {x y:T} {G:Gp} {Q:VK3} (h:jKh x y G Q):rAddA x y G Q:=by
 obtain⟨r,hr,q⟩:=h
 unfold addR at hr
 split at hr
 ·cases hr;exact .inl ⟨_,_,rfl,rfl,q⟩
 ·rename_i p q'
  split at hr
  ·rename_i xs ys h1 h2
   split at hr
   ·rename_i hz;cases hr;exact .inr (.inl ⟨p,q',xs,ys,rfl,rfl,h1,h2,hz,q⟩)
   ·cases hr
  ·cases hr
 ·rename_i xs ys
  split at hr
  ·rename_i hz;cases hr;exact .inr (.inr ⟨xs,ys,rfl,rfl,fun z=>hz.1 (by rw[z];rfl),hz.2,q⟩)
  ·cases hr
 ·cases hr
theorem o_addF {X:L2.Cx}:Op3 X (binaryOp .Add) jKh:=o_addA.imp fun _ _ _ _=>add_F
noncomputable def mulR (G:Gp):T->T->Option Res
 | .int i,.int j=>some (.val (.int (i*j)))
 | .ref p,.int n=>match G p with
  | some (.lst xs)=>if n.toNat * xs.length<=sizeLine/\n<2^62/\ -(2^62)<n then some (.newL (List.replicate n.toNat xs).flatten) else none
  | _=>none
 | _,_=>none
def mulC:T->T->Prop
 | .int i,.int j=>L2.CMul i j
 | _,_=>True
def jVd:R3:=fun x y G Q=>∃r,mulR G x y=some r/\mulC x y/\fin3 r G Q
theorem mul_F {x y:T} {G:Gp} {Q:VK3} (h:jVd x y G Q):rMulA x y G Q:=by
 obtain⟨r,hr,c,q⟩:=h
 unfold mulR at hr
 split at hr
 ·cases hr;exact .inl ⟨_,_,rfl,rfl,c,q⟩
 ·rename_i p n
  split at hr
  ·rename_i xs h1
   split at hr
   ·rename_i hz;cases hr;exact .inr ⟨p,xs,n,rfl,rfl,h1,hz.1,hz.2.1,hz.2.2,q⟩
   ·cases hr
  ·cases hr
 ·cases hr
theorem jQ7 {X:L2.Cx}:Op3 X (binaryOp .Mult) jVd:=o_mulA.imp fun _ _ _ _=>mul_F
def ixR (G:Gp) (x y:T):Option T:=match seqT G x with
 | some xs=>match y with
  | .int i=>L2.atI xs i
  | _=>none
 | none=>match dAt G x y with
  | some o=>o
  | none=>none
def rIxF:R3:=fun x y G Q=>∃t,ixR G x y=some t/\Q t G
theorem ix_F' {x y:T} {G:Gp} {Q:VK3} (h:rIxF x y G Q):rIxA x y G Q:=by
 obtain⟨t,ht,q⟩:=h
 unfold ixR at ht
 split at ht
 ·rename_i xs hx
  split at ht
  ·rename_i i;exact .inl ⟨xs,i,t,hx,rfl,ht,q⟩
  ·cases ht
 ·split at ht
  ·rename_i o ho;subst ht;exact .inr ⟨t,ho,q⟩
  ·cases ht
theorem ix_F {X:L2.Cx} (hu:X.A.units+20<cLine):Ix3 X rIxF:=(uKk hu).imp fun _ _ _ _=>ix_F'
noncomputable def setR (G:Gp) (o i v:T):Option Gp:=match o with
 | .ref p=>match G p with
  | some (.lst xs)=>match i with
   | .int k=>match L2.ixN xs.length k with
    | some j=>some (gup G p (.lst (xs.set j v)))
    | none=>none
   | _=>none
  | some (.dct kvs)=>match i with
   | .tup ys=>match jQe ys with
    | some ks=>if kvs.length<sizeLine then some (gup G p (.dct (putT kvs ks v))) else none
    | none=>none
   | _=>none
  | some (.dck kvs)=>match jXg i with
   | some k=>if kvs.length<sizeLine then some (gup G p (.dck (putT kvs k v))) else none
   | none=>none
  | some (.fdc _)=>none
  | some (.ins _ _)=>none
  | none=>none
 | _=>none
def jVs:T->T->T->Gp->(Gp->Prop)->Prop:=fun o i v G Q=>∃G',setR G o i v=some G'/\Q G'
theorem set_F' {o i v:T} {G:Gp} {Q:Gp->Prop} (h:jVs o i v G Q):rSetA o i v G Q:=by
 obtain⟨G',hr,q⟩:=h
 unfold setR at hr
 split at hr
 ·rename_i p
  split at hr
  ·rename_i xs h1
   split at hr
   ·rename_i k
    split at hr
    ·rename_i j hj;cases hr;exact .inl ⟨p,xs,k,j,rfl,rfl,h1,hj,q⟩
    ·cases hr
   ·cases hr
  ·rename_i kvs h1
   split at hr
   ·rename_i ys
    split at hr
    ·rename_i ks hk
     split at hr
     ·rename_i hz;cases hr;exact .inr (.inl ⟨p,ys,ks,kvs,rfl,rfl,hk,h1,hz,q⟩)
     ·cases hr
    ·cases hr
   ·cases hr
  ·rename_i kvs h1
   split at hr
   ·rename_i k hk
    split at hr
    ·rename_i hz;cases hr;exact .inr (.inr ⟨p,k,kvs,rfl,hk,h1,hz,q⟩)
    ·cases hr
   ·cases hr
  ·cases hr
  ·cases hr
  ·cases hr
 ·cases hr
theorem s_F {X:L2.Cx} (hu:X.A.units+20<cLine):Set3 X jVs:=(s_any hu).imp fun _ _ _ _ _=>set_F'
noncomputable def rLeF:R3:=fun x y G Q=>∃b,(match x,y with
 | .int i,.int j=>some (decide (i<=j))
 | .tup [.int a,.int b],.tup [.int c,.int d]=>some (HT.lexLe [a,b] [c,d])
 | _,_=>none)=some b/\Q (.bl b) G
theorem le_F' {x y:T} {G:Gp} {Q:VK3} (h:rLeF x y G Q):rLeA x y G Q:=by
 obtain⟨b,hb,q⟩:=h
 split at hb
 ·cases hb;exact .inl ⟨_,_,rfl,rfl,q⟩
 ·cases hb;exact .inr ⟨_,_,rfl,rfl,q⟩
 ·cases hb
theorem qXu {X:L2.Cx} (hu:X.A.units+20<cLine):Op3 X (compareOp .LtE) rLeF:=(o_leA hu).imp fun _ _ _ _=>le_F'
noncomputable def inR (G:Gp) (x y:T):Option Bool:=match seqT G y with
 | some xs=>if jXi x=true/\xs.all jXi=true then some (inT x xs) else none
 | none=>match dAt G y x with
  | some o=>some o.isSome
  | none=>none
def jXx:R3:=fun x y G Q=>∃b,inR G x y=some b/\Q (.bl (!b)) G
theorem qXy {x y:T} {G:Gp} {Q:VK3} (h:jXx x y G Q):qQb x y G Q:=by
 obtain⟨b,hb,q⟩:=h
 unfold inR at hb
 split at hb
 ·rename_i xs hx
  split at hb
  ·rename_i hc;cases hb;exact .inl ⟨xs,hx,hc.1,hc.2,q⟩
  ·cases hb
 ·split at hb
  ·rename_i o ho;cases hb;exact .inr ⟨o,ho,q⟩
  ·cases hb
theorem kU4 {X:L2.Cx} (hu:X.A.units+20<cLine):Op3 X (compareOp .NotIn) jXx:=(uJ1 hu).imp fun _ _ _ _=>qXy
noncomputable def slR (G:Gp) (x:T) (lo hi:Option Int):Option Res:=match x with
 | .tup xs=>some (.val (.tup (cutT xs lo hi)))
 | .scr xs=>some (.newL (cutT xs lo hi))
 | .ref p=>match G p with
  | some (.lst xs)=>some (.newL (cutT xs lo hi))
  | _=>none
 | _=>none
def rSlF:T->Option Int->Option Int->Gp->VK3->Prop:=fun x lo hi G Q=>∃r,slR G x lo hi=some r/\fin3 r G Q
theorem sl_F' {x:T} {lo hi:Option Int} {G:Gp} {Q:VK3} (h:rSlF x lo hi G Q):rSlA x lo hi G Q:=by
 obtain⟨r,hr,q⟩:=h
 unfold slR at hr
 split at hr
 ·cases hr;exact .inr ⟨_,rfl,q⟩
 ·cases hr;exact .inl ⟨_,rfl,q⟩
 ·split at hr
  ·rename_i xs h1;cases hr;exact .inl ⟨xs,by simp only[jQ8,h1,asL],q⟩
  ·cases hr
 ·cases hr
theorem sl_F {X:L2.Cx}:Sl3 X rSlF:=sl_any.imp fun _ _ _ _ _=>sl_F'
end L3
namespace L2
open PySem PySem.Spec PyProof.Rows
def Its (lo c:Int) (n:Nat):It:=⟨fun i _=>i<n,fun i H x H'=>H'=H/\x= .int (lo+i*c),fun i _=>n<=i⟩
theorem kVx {P:Program} {w:World} {K:PySem.W.Frag} {tg:Expr} (it:Addr) (lo c:Int) (n:Nat):Turn P w K tg (Its lo c n) [it] it (fun i h=>IsRangeIter h it (lo+(i:Nat)*c) ((n:Int)-(i:Nat)) c) where
 mem:=by simp
 obj:=fun i h st b hb=>by
  have e:b=it:=by simpa using hb
  subst e
  exact⟨_,st,fun v z=>by
   have z':Data.fields _=Data.cell v:=z
   cases z'⟩
 keep:=fun i h h' st k=>k it (by simp) _ st
 item:=by
  intro X hP hw hK hc i pins s σ H E I hf st hg
  subst hP hw hK
  obtain⟨f0,f1,f2,f3,f4,f5⟩:=hf it (by simp)
  have W:=Walks.range (prog:=X.prog) (w:=X.w) (I.ok.hd hc) it lo c n
  refine W.item i s _ _ hg st fun v h' tk hv st' kk=> ?_
  obtain⟨t,rfl⟩:=hv
  have I1:Inv X pins σ H {s with heap:=h',toks:=tk}:=I.turned (fun b o hb e=>kk b o (by simpa using hb) e) f0 f1 f3 f4 f5
  exact⟨_,rfl,qUi (s:={s with heap:=h',toks:=tk}) (n:="range_iterator") st' rfl rfl (by decide) ⟨.int (lo+i*c),H,I1,⟨t,rfl⟩,⟨rfl,rfl⟩,st',fun b hb=>(hf b hb).1⟩⟩
 done:=by
  intro X hP hw hK hc i pins s σ H E I hf st hg
  subst hP hw hK
  obtain⟨f0,f1,f2,f3,f4,f5⟩:=hf it (by simp)
  exact wpAny_pyNext_range_end (I.ok.hd hc) st (by have:n<=i:=hg;omega) fun h' eb=>⟨rfl,I.turned (t':=s.toks) (fun b o hb e=>eb b o hb e) f0 f1 f3 f4 f5⟩
 self:=fun _ _ _ _ _ st h=>wpAny_pyIter_rangeiter st h
section
variable {X:Cx} {tg:Expr}
theorem qK9 {pins:List (Addr×Obj)} {σ:St} {H:Hp} {s:Shared} {R:It->Hp->Prop} {E:Value->Shared->Prop} {lo hi c:Int} {t u v:Tok} {tk:Nat} (I:Inv X pins σ H s) (hsm:Builtin.Range.small lo hi c=true)
  (q:R (Its lo c (Builtin.Range.rangeSize lo hi c).toNat) H):wpAny (model X.prog X.w) X.A (pyIter (.ref s.heap.objs.size)) (PIE X pins σ tg R) E {s with heap:=s.heap.push {cls:= .type "range",data:= .fields #[.int lo t,.int hi u,.int c v]},toks:=tk}:=by
 refine wpAny_pyIter_range (IsRange.new ..) hsm ?_
 have I1:Inv X pins σ H {s with heap:=s.heap.push {cls:= .type "range",data:= .fields #[.int lo t,.int hi u,.int c v]},toks:=tk}:=I.kept fun b o e=>lJm _ e
 refine⟨(s.heap.push {cls:= .type "range",data:= .fields #[.int lo t,.int hi u,.int c v]}).objs.size,[(s.heap.push {cls:= .type "range",data:= .fields #[.int lo t,.int hi u,.int c v]}).objs.size],_,_,H,rfl,
  I1.kept (t':=tk) fun b o e=>lJm _ e,kVx _ lo c (Builtin.Range.rangeSize lo hi c).toNat,?_,fun b hb=> ?_,q⟩
 ·show IsRangeIter _ _ (lo+((0:Nat):Int)*c) ((((Builtin.Range.rangeSize lo hi c).toNat:Nat):Int)-((0:Nat):Int)) c
  rw[<-rangeSize_toNat,show lo+((0:Nat):Int)*c=lo by simp,show Builtin.Range.rangeSize lo hi c-((0:Nat):Int)=Builtin.Range.rangeSize lo hi c by simp]
  exact lJ3 _ rfl
 ·have e:b=(s.heap.push {cls:= .type "range",data:= .fields #[.int lo t,.int hi u,.int c v]}).objs.size:=by simpa using hb
  subst e
  exact I1.fpOk (lJh _) (I1.hok.fresh (lJh _))
end
end L2
namespace L3
open PySem PySem.Spec PyProof.Rows L2
def rngS (lo c:Int) (n:Nat):List T:=(List.range n).map fun (k:Nat)=>T.int (lo+k*c)
noncomputable def qYi (ta:TA3):TI3:=fun τ G R=>ta τ G fun vs G1=>∃i j c:Int,vs=[.int i,.int j,.int c]/\(c≠0/\c.natAbs<1073741824/\Builtin.Range.small i j c=true)/\R (rngS i c (Builtin.Range.rangeSize i j c).toNat) (fun _=>True) G1
theorem qJr {K:PySem.W.Frag} {H:Hp} (lo c:Int) (n:Nat):uQj K H (Its lo c n) (rngS lo c n) fun _=>True:=by
 intro i H' G e g _
 have hl:(rngS lo c n).length=n:=by simp[rngS]
 refine⟨fun h=>by rw[hl] at h;exact h,fun h=>by rw[hl] at h;exact h,fun hi x H2 ⟨eH,ex⟩=> ?_⟩
 rw[hl] at hi
 subst eH;subst ex
 exact⟨.refl _,g,.int (lo+i*c),by simp[rngS,hi],rfl⟩
theorem qYg {X:Cx} {tg:Expr} {pos:Pos} {a b c:Expr} {ta:TA3} {p:Pos} (hg:Gl X "range") (hm:X.mg "range"=none) (ha:PA3 X [a,b,c] ta) (hs:starEach [a,b,c] X.env=[(false,eval a X.env),(false,eval b X.env),(false,eval c X.env)]:=by rfl) (hs2:starEach [b,c] X.env=[(false,eval b X.env),(false,eval c X.env)]:=by rfl):
  PI3 X tg (.Call (.Name "range" p) [a,b,c] [] pos) (qYi ta):=by
 intro pins s τ G H R I h
 obtain⟨σ,I0,hs0,hg0⟩:=id I
 refine Call_ (jUu I0 hg hm boot_range (lQg (thn (ha pos pins s τ G H _ I h) fun us s1 w_=>w_.el fun xs G1 H1 e1 i_ r_ q1=>i_.el fun σ I1 hs1 hg1=>r_.el fun as ras rvs=> ?_) (by rw[hs,hs2]) (by rw[hs2];rfl)))
 obtain⟨i,j,k,e,⟨q1,q2,q3⟩,q⟩:=q1
 subst e
 obtain⟨v,as1,rfl,rv,ras1⟩:=ras
 obtain⟨w,z,rfl,rw',rz⟩:=kZ7 ras1
 cases (show v= .int i from rv);cases (show w= .int j from rw');cases (show z= .int k from rz)
 cases rvs with
 | cons ru rvs=>
  obtain⟨u',u'',rfl,ru',ru''⟩:=Vals.two rvs
  obtain⟨t,rfl⟩:=ru
  obtain⟨t',rfl⟩:=ru'
  obtain⟨t'',rfl⟩:=ru''
  refine call_range_3 q1 (thn (qK9 (tg:=tg) (R:=fun J H'=>J=Its i k (Builtin.Range.rangeSize i j k).toNat/\H'=H1) I1 q3 ⟨rfl,rfl⟩) fun itv s2 z=> ?_) (Or.inl (PyProof.noPylong_small q2))
  obtain⟨it,fp,tn,J,H',ei,I2,T0,st,fk,eJ,eH⟩:=z
  subst eJ;subst eH
  exact⟨it,fp,tn,_,rngS i k (Builtin.Range.rangeSize i j k).toNat,fun _=>True,G1,H',ei,e1,⟨σ,I2,hs1,hg1⟩,T0,st,fk,qJr i k _,q⟩
def Draw (P:Program) (w:World) (A:Around) (i:Addr) (r:Option Value) (S S':Heap->Prop):Prop:=
 ∀(s:Shared) (Q E:Value->Shared->Prop),S s.heap->
  (∀x g,r=some x->S' g->Heap.SameBut i s.heap g->Q x {s with heap:=g})->
  (∀g e o,r=none->Heap.ExtBut i s.heap g->g.get? e=some o->o.cls= .type "StopIteration"->E (.ref e) {s with heap:=g})->
  wpAny (model P w) A (Builtin.SmallTypes.nextOf (.ref i)) Q E s
def qJ2 (i t:Addr) (k:Nat) (xs:Array Value) (h:Heap):Prop:=h.IsTupleIter i t k/\h.IsTuple t xs
theorem kK2 {P:Program} {w:World} {A:Around} {i t:Addr} {k:Nat} {xs:Array Value} (hh:A.handled=none) (ne:t≠i):Draw P w A i xs[k]? (qJ2 i t k xs) (qJ2 i t (k+1) xs):=by
 rintro s Q E ⟨⟨o,ho,hc,hd⟩,q,hq,hqc,n,hn⟩ item stop
 have ty:s.TypeIs (.ref i) "tuple_iterator":=⟨o,ho,hc⟩
 refine lJa (lV5 (name:=Str.ofString "__next__") ty F.slot_tuple_iterator_next (lQm F.slot_tuple_iterator_next ty F.entry_tuple_iterator_next ?_ (F.args_tuple_iterator_next_1 _)))
 refine (show wpAny _ _ (field (.ref i) 0 >>= _) _ _ s from lJa (wpAny_field ho hd (x:= .ref t) rfl ?_))
 refine (show wpAny _ _ (if (Value.ref t == Value.none)=true then _ else field (.ref i) 1 >>= _) _ _ s from ?_)
 rw[lJb (by exact lJp)]
 refine lJa (wpAny_field ho hd (x:= .int k 0) rfl (show wpAny _ _ (seqItems? (.ref t) >>= _) _ _ s from lJa (wpAny_seqItems hq hn ?_)))
 cases hx:xs[k]? with
 | some x=>
  simp only[hx,lXq]
  have up:qJ2 i t (k+1) xs (s.heap.update i (Obj.mapFields (·.setIfInBounds 1 (rawInt ((k:Int)+1))))):=by
   refine⟨⟨_,lV8 _ ho (Obj.isFreed_of_fields (Obj.data_mapFields hd _)),(Obj.cls_mapFields ..).trans hc,?_⟩,q,(lXc ..).extBut t q ne hq,hqc,n,hn⟩
   rw[Obj.data_mapFields hd];simp[rawInt]
  exact lJa (wpAny_setField ho hd (by simp) (lJd ⟨x,rfl,lJd (item x _ hx up (lXc ..))⟩))
 | none=>
  simp only[hx,lXq]
  refine lJa (wpAny_rule (lJa (wpAny_setField ho hd (by simp) (show wpAny _ _ (newExc (.type "StopIteration") [] >>= _) _ _ _ from lJa ?_))))
  simp only[newExc,newTuple,raiseNew]
  refine lJa (lQc (lJa (m:=firstArgMember _ _) (wpAny_of_eq (a:=Value.none) (by first | rfl | (simp only[firstArgMember];rfl)) (lQc ?_ (by size_fits)))) (by size_fits))
  refine lJa (wpAny_handled ?_);rw[show A.in1.handled=none from hh]
  exact lJa (lJd (wpAny_throw (stop _ _ _ hx (((lXc ..).extBut.push _).push _) (lJ3 _ rfl) rfl)))
def itOf (t:Addr):Obj:={cls:= .type "tuple_iterator",data:= .fields #[.ref t,.int 0 0]}
noncomputable def Itv (K:PySem.W.Frag) (a:Addr) (n:Nat):It:=
 ⟨fun i H=>i<n/\∃xs x,SqL K H a xs/\xs.length=n/\xs[n-1-i]? =some x,fun i H x H'=>H'=H/\∀xs,SqL K H a xs->xs[n-1-i]? =some x,fun i _=>n<=i⟩
theorem qVy {P:Program} {w:World} {K:PySem.W.Frag} {tg:Expr} (a it:Addr) (n:Nat):Turn P w K tg (Itv K a n) [it] it (fun i h=>i<=n/\h.IsRevIter it a ((n:Int)-1-(i:Nat))) where
 mem:=lXd _
 obj:=fun i h ⟨_,o,e,c,d⟩ b hb=>by
  obtain rfl:=lJ1.mp hb
  exact⟨o,e,fun v z=>by rw[d] at z;cases z⟩
 keep:=fun i h h' ⟨l,st⟩ k=>⟨l,st.at fun o e=>k it (lXd _) o e⟩
 item:=by
  rintro X hP hw hK hc i pins s σ H E I hf ⟨hl,st⟩ ⟨hi,xs,x,hq,hn,hx⟩
  subst hP hw hK
  obtain⟨its,rv,p,hz⟩:=I.list hq
  obtain⟨u,hu,ru⟩:=rv.get hx
  obtain⟨f0,f1,_,f3,f4,f5⟩:=hf it (lXd _)
  rw[show (n:Int)-1-(i:Nat)=((n-1-i:Nat):Int) by omega] at st
  refine wpAny_pyNext_rev_item st p.isList (x:=u) (by simpa using hu) fun h' st' sb=> ?_
  rw[show ((n-1-i:Nat):Int)-1=(n:Int)-1-((i+1:Nat):Int) by omega] at st'
  have I1:Inv X pins σ H {s with heap:=h'}:=I.turned (t':=s.toks) (fun b o hb e=>(sb.2 b hb).trans e) f0 f1 f3 f4 f5
  obtain⟨o,e,c,d⟩:=id st'
  exact⟨u,rfl,qUi (s:={s with heap:=h'}) e c d (by decide) ⟨x,H,I1,ru,⟨rfl,fun ys hy=>(I.list_inj hy hq).symm▸hx⟩,⟨hi,st'⟩,fun b hb=>(hf b hb).1⟩⟩
 done:=by
  rintro X hP hw hK hc i pins s σ H E I hf ⟨hl,st⟩ hg
  subst hP hw hK
  have hg':n<=i:=hg
  obtain⟨f0,f1,_,f3,f4,f5⟩:=hf it (lXd _)
  rw[show (n:Int)-1-(i:Nat)= -1 by omega] at st
  exact wpAny_pyNext_rev_end (I.ok.hd hc) st fun h' eb=>⟨rfl,I.turned (t':=s.toks) (fun b o hb e=>eb b o hb e) f0 f1 f3 f4 f5⟩
 self:=fun _ _ _ _ _ ⟨_,st⟩ h=>wpAny_pyIter_revIter st h
def iRev (ta:TA3):TI3:=fun τ G R=>ta τ G fun vs G1=>∃x xs,vs=[x]/\jQ8 G1 x=some xs/\R xs.reverse (fun G'=>jQ8 G' x=some xs) G1
theorem qJu {X:Cx} {tg:Expr} {pos p:Pos} {a:Expr} {ta:TA3} (hg:Gl X "reversed") (hm:X.mg "reversed"=none) (hv:bootBuiltins "reversed"=some (.type "reversed")) (ha:PA3 X [a] ta) (hs:starEach [a] X.env=[(false,eval a X.env)]:=by rfl):
  PI3 X tg (.Call (.Name "reversed" p) [a] [] pos) (iRev ta):=by
 intro pins s τ G H R I h
 obtain⟨σ0,I0,_,_⟩:=id I
 refine Call_ (jUu I0 hg hm hv (lQg (thn (ha pos pins s τ G H _ I h) fun us s1 w_=>w_.el fun xs' G1 H1 e1 i_ r_ q1=>i_.el fun σ I1 hs1 hg1=>r_.el fun as ras rvs=> ?_) hs rfl))
 obtain⟨x,xs,e,hx,q⟩:=q1
 subst e
 obtain⟨v,rfl,rv⟩:=jVl ras
 obtain⟨u,rfl,ru⟩:=rvs.one
 obtain⟨pa,vs,rfl,hq,r⟩:=jU6 hg1 rv hx
 cases ru
 obtain⟨its,rvv,pl,hz⟩:=I1.list hq
 have hlen:its.length=xs.length:=by have:=rvv.length;have:=r.length;omega
 refine call_reversed_list pl.isList ?_
 have st:(s1.heap.push (revObj pa (((its.toArray).size:Int)-1))).IsRevIter s1.heap.objs.size pa ((xs.length:Int)-1-((0:Nat):Int)):=⟨_,lJ3 _ rfl,rfl,by
  show Data.fields #[.ref pa,rawInt (((its.toArray).size:Int)-1)]=_
  rw[show ((its.toArray).size:Int)-1=(xs.length:Int)-1-((0:Nat):Int) by simp[hlen]]⟩
 refine wpAny_pyIter_revIter st ?_
 have fr:∀b∈[s1.heap.objs.size],FpOk X pins H1 b:=fun b hb=>by
  obtain rfl:=lJ1.mp hb
  exact I1.fpOk (lJh _) (I1.hok.fresh (lJh _))
 refine⟨s1.heap.objs.size,[s1.heap.objs.size],_,_,xs.reverse,fun G'=>jQ8 G' x=some xs,G1,H1,rfl,e1,⟨σ,I1.kept (t':=s1.toks) fun b o e=>lJm _ e,hs1,hg1⟩,qVy pa _ xs.length,⟨lJs _,st⟩,fr,?_,q⟩
 intro i H2 G2 e2 g2 sty
 obtain⟨pb,ws,eb,h1,h2⟩:=jU6 g2 (Rep.mono e2 _ rv) sty
 cases eb
 have hl2:=h2.length
 rw[List.length_reverse]
 refine⟨fun hi=>⟨hi,ws,ws[xs.length-1-i]'(by omega),h1,by omega,lJg _⟩,fun hi=>hi,fun hi y H' ⟨eH,hy⟩=> ?_⟩
 subst eH
 obtain⟨t,ht,rt⟩:=h2.get' (hy ws h1)
 exact⟨.refl _,g2,t,by rw[List.getElem?_reverse hi];exact ht,rt⟩
end L3
namespace L3
open PySem
theorem atN {α:Type} {xs:List α} {n:Nat}:L2.atI xs (n:Int)=xs[n]? :=by
 unfold L2.atI L2.ixN
 by_cases h:n<xs.length
 ·simp[h]
 ·simp[h]
theorem at0 {α:Type} {x:α} {xs:List α}:L2.atI (x::xs) 0=some x:=(atN (n:=0)).trans rfl
theorem at1 {α:Type} {x y:α} {xs:List α}:L2.atI (x::y::xs) 1=some y:=(atN (n:=1)).trans rfl
theorem at2 {α:Type} {x y z:α} {xs:List α}:L2.atI (x::y::z::xs) 2=some z:=(atN (n:=2)).trans rfl
theorem atZ {α:Type} {xs:List α} {i:Int} (h:0<=i):L2.atI xs i=xs[i.toNat]? :=by
 obtain⟨n,rfl⟩:=lKj h
 simpa using atN
theorem qVl {α:Type} {xs:List α} {y:α}:L2.atI (xs++[y]) (-1)=some y:=by
 unfold L2.atI L2.ixN
 have:¬ (0:Int)<= -1:=by decide
 simp only[this,lJt]
 rw[lJc (by simp;omega)]
 have e:(-1+((xs++[y]).length:Int)).toNat=xs.length:=by simp;omega
 rw[e];simp
theorem kQw {n k:Nat} (h:k<n):L2.ixN n (k:Int)=some k:=by simp[L2.ixN,h]
theorem ix0 {n:Nat}:L2.ixN (n+1) 0=some 0:=kQw (k:=0) (by omega)
theorem ix1 {n:Nat}:L2.ixN (n+2) 1=some 1:=kQw (k:=1) (by omega)
theorem ix2 {n:Nat}:L2.ixN (n+3) 2=some 2:=kQw (k:=2) (by omega)
theorem ix30:L2.ixN 3 0=some 0:=ix0
theorem ix31:L2.ixN 3 1=some 1:=ix1
theorem ix32:L2.ixN 3 2=some 2:=ix2
theorem ixZ {n:Nat} {k:Int} (h0:0<=k) (h:k<n):L2.ixN n k=some k.toNat:=by simp[L2.ixN,h0,h]
theorem kZt {G:Gp} {i j:Int}:addR G (.int i) (.int j)=some (.val (.int (i+j))):=rfl
theorem kZs {G:Gp} {p q:Addr} {xs ys:List T} (h1:G p=some (.lst xs)) (h2:G q=some (.lst ys)) (hz:xs.length+ys.length<=sizeLine):addR G (.ref p) (.ref q)=some (.newL (xs++ys)):=by simp only[addR,h1,h2,hz,lJ2]
theorem qX0 {G:Gp} {i j:Int}:mulR G (.int i) (.int j)=some (.val (.int (i*j))):=rfl
theorem qX2 {i j:Int}:mulC (.int i) (.int j)=L2.CMul i j:=rfl
theorem qX1 {p:Addr} {j:Int}:mulC (.ref p) (.int j)=True:=rfl
theorem uKw {t:T} {G:Gp} {Q:VK3}:fin3 (.val t) G Q=Q t G:=rfl
theorem kQ1 {xs:List T} {G:Gp} {Q:VK3}:fin3 (.newL xs) G Q=∀p,G p=none->Q (.ref p) (gup G p (.lst xs)):=rfl
theorem uKl {G:Gp} {xs:List T} {i:Int}:ixR G (.tup xs) (.int i)=L2.atI xs i:=rfl
theorem uKm {G:Gp} {xs:List T} {i:Int}:ixR G (.scr xs) (.int i)=L2.atI xs i:=rfl
theorem jKe {G:Gp} {p:Addr} {xs:List T} {i:Int} (h:G p=some (.lst xs)):ixR G (.ref p) (.int i)=L2.atI xs i:=by simp only[ixR,seqT,h,asL]
theorem jXt {G:Gp} {p:Addr} {xs:List T} {k:Int} {j:Nat} {v:T} (h:G p=some (.lst xs)) (hj:L2.ixN xs.length k=some j):setR G (.ref p) (.int k) v=some (gup G p (.lst (xs.set j v))):=by simp only[setR,h,hj]
theorem qV6 {G:Gp} {xs:List T}:seqT G (.tup xs)=some xs:=rfl
theorem jJn {G:Gp} {p:Addr} {xs:List T} (h:G p=some (.lst xs)):seqT G (.ref p)=some xs:=by simp only[seqT,h,asL]
theorem qKr {G:Gp} {p:Addr} {xs:List T} {k:Int} {v:T} (h:G p=some (.lst xs)):setR G (.ref p) (.int k) v=(L2.ixN xs.length k).map fun j=>gup G p (.lst (xs.set j v)):=by
 cases e:L2.ixN xs.length k with
 | none=>simp only[setR,h,e,Option.map_none]
 | some j=>simp only[setR,h,e,lQ1]
theorem qV5 {G:Gp} {p:Addr} {xs:List T} {k:Int} {v:T}:setR (gup G p (.lst xs)) (.ref p) (.int k) v=(L2.ixN xs.length k).map fun j=>gup G p (.lst (xs.set j v)):=by
 rw[qKr jJg];simp only[kJn]
theorem uKn {G:Gp} {p:Addr} {xs:List T} {i:Int}:ixR (gup G p (.lst xs)) (.ref p) (.int i)=L2.atI xs i:=jKe jJg
theorem kYq {G:Gp} {p:Addr} {xs:List T}:seqT (gup G p (.lst xs)) (.ref p)=some xs:=jJn jJg
def uQk (g:TG3) (tb:TS3) (D:Ends3) (τ:St3) (xs:List T) (stay:Gp->Prop) (G:Gp):Prop:=∃P:Nat->St3->Gp->Prop,P 0 τ G/\(∀i τ G,i<=xs.length->P i τ G->stay G)/\
 (∀i x τ G,xs[i]? =some x->P i τ G->g x τ G fun τ2 G2=>tb {D with nx:=P (i+1),ct:=P (i+1),bk:=D.nx} τ2 G2)/\∀ τ G,P xs.length τ G->D.nx τ G
theorem jJw {wi:TI3} {g:TG3} {tb:TS3} {D:Ends3} {τ:St3} {G:Gp}:tFor wi g tb D τ G=wi τ G fun xs stay G1=>uQk g tb D τ xs stay G1:=rfl
def kZv (mask:List Bool) (g:TG3) (tif:TT3) (te:TE3) (τ:St3) (xs:List T) (stay:Gp->Prop) (G:Gp) (Q:VK3):Prop:=kV3 mask g tif te τ xs stay G Q
theorem qV1 {mask:List Bool} {wi:TI3} {g:TG3} {tif:TT3} {te:TE3} {τ:St3} {G:Gp} {Q:VK3}:jQu mask wi g tif te τ G Q=wi τ G fun xs stay G1=>kZv mask g tif te τ xs stay G1 Q:=rfl
def Sub (G G':Gp):Prop:=∀c o,G c=some o->G' c=some o
theorem Sub.refl (G:Gp):Sub G G:=fun _ _ h=>h
theorem Sub.trans {G G1 G2:Gp} (h:Sub G G1) (h':Sub G1 G2):Sub G G2:=fun c o e=>h' c o (h c o e)
theorem Sub.new {p:Addr} {G:Gp} {o:GO} (hp:G p=none):Sub G (gup G p o):=fun c u e=>by rw[jJm];exact e;rintro rfl;rw[hp] at e;cases e
theorem Sub.over {p:Addr} {G G':Gp} {o:GO} (h:Sub G G') (hp:G p=none):Sub G (gup G' p o):=fun c u e=>by rw[jJm];exact h c u e;rintro rfl;rw[hp] at e;cases e
theorem Sub.none {G G':Gp} {p:Addr} (h:Sub G G') (hp:G' p=none):G p=none:=by
 cases e:G p with
 | none=>rfl
 | some o=>rw[h p o e] at hp;cases hp
theorem jKn {G:Gp} {a p:Addr} {o:GO} (h:gup G a o p=none):p≠a/\G p=none:=by
 by_cases e:p=a
 ·subst e;rw[jJg] at h;cases h
 ·rw[jJm e] at h;exact⟨e,h⟩
theorem jJf {G:Gp} {a p:Addr} {o:GO} (h:G a=some o) (hp:G p=none):a≠p:=by rintro rfl;rw[h] at hp;cases hp
theorem Sub.seq {G G':Gp} {x:T} {xs:List T} (h:Sub G G') (e:seqT G x=some xs):seqT G' x=some xs:=by
 cases x with
 | ref p=>have:=jVz e;simp only[seqT,h p _ this,asL]
 | tup _=>exact e
 | scr _=>exact e
 | non=>exact e
 | bl _=>exact e
 | int _=>exact e
 | str _=>exact e
 | ty _=>exact e
theorem jK5 {α β:Type} {enc:α->β} {es:List α} {i:Nat} {x:β} (h:(es.map enc)[i]? =some x):∃e,es[i]? =some e/\x=enc e:=by
 rw[lJn] at h
 cases e1:es[i]? with
 | none=>rw[e1] at h;cases h
 | some e=>rw[e1] at h;exact⟨e,rfl,(lJ7 h).symm⟩
theorem jU9 {α:Type} {mask:List Bool} {g:TG3} {tif:TT3} {te:TE3} {τ:St3} {es:List α} {enc:α->T} {stay:Gp->Prop} {G:Gp} {Q:VK3} (f:α->Option T) (hz:es.length<=sizeLine) (hst:∀G',Sub G G'->stay G')
  (h:∀(i:Nat) e,es[i]? =some e->∀G' (K:T->Gp->Prop) (K0:Gp->Prop),Sub G G'->(∀y G4,f e=some y->Sub G' G4->K y G4)->(f e=none->∀G4,Sub G' G4->K0 G4)->g (enc e) (msk mask τ) G' fun τ2 G2=>tif τ2 G2 fun b G3=>if b=true then te τ2 G3 K else K0 G3)
  (hq:∀D G',G D=none->G' D=some (.lst (es.filterMap f))->Sub G G'->Q (.ref D) G'):kZv mask g tif te τ (es.map enc) stay G Q:=by
 intro D hD
 refine⟨fun i acc G'=>acc=(es.take i).filterMap f/\G' D=some (.lst acc)/\Sub G G',⟨by simp,jJg,.new hD⟩,?_,?_,?_⟩
 ·rintro i acc G' hi ⟨ea,eg,hs⟩
  exact⟨hst G' hs,eg⟩
 ·rintro i x acc G' hx0 ⟨ea,eg,hs⟩
  obtain⟨e,hx,rfl⟩:=jK5 hx0
  have hi:i<es.length:=(lJe.mp hx).1
  have tk:es.take (i+1)=es.take i++[e]:=by rw[lQ2,hx];rfl
  have hlen:acc.length<sizeLine:=by
   have h1:acc.length<=(es.take i).length:=by rw[ea];exact List.length_filterMap_le _ _
   rw[lQd] at h1;omega
  refine h i e hx G' _ _ hs (fun y G4 hy h4=>⟨h4 D _ eg,hlen,?_,jJg,(hs.trans h4).over hD⟩) fun hn G4 h4=>⟨?_,h4 D _ eg,hs.trans h4⟩
  ·rw[tk,lVs,<-ea];simp[hy]
  ·rw[tk,lVs,<-ea];simp[hn]
 ·rintro acc G' ⟨ea,eg,hs⟩
  rw[lJf,lQs] at ea
  rw[ea] at eg
  exact hq D G' hD eg hs
theorem jQb {α:Type} {mask:List Bool} {g:TG3} {tif:TT3} {te:TE3} {τ:St3} {es:List α} {enc:α->T} {stay:Gp->Prop} {G:Gp} {Q:VK3} (f:α->T) (hz:es.length<=sizeLine) (hst:∀G',Sub G G'->stay G')
  (h:∀(i:Nat) e,es[i]? =some e->∀G' (K:T->Gp->Prop) (K0:Gp->Prop),Sub G G'->(∀G4,Sub G' G4->K (f e) G4)->g (enc e) (msk mask τ) G' fun τ2 G2=>tif τ2 G2 fun b G3=>if b=true then te τ2 G3 K else K0 G3)
  (hq:∀D G',G D=none->G' D=some (.lst (es.map f))->Sub G G'->Q (.ref D) G'):kZv mask g tif te τ (es.map enc) stay G Q:=by
 refine jU9 (fun e=>some (f e)) hz hst (fun i e he G' K K0 hs hk _=>h i e he G' K K0 hs fun G4 h4=>hk _ G4 rfl h4) fun D G' hD h1 h2=>hq D G' hD ?_ h2
 rw[h1];congr 2;induction es with
 | nil=>rfl
 | cons a as ih=>simp
theorem jKd {G:Gp} {p:Addr} {xs:List T} (h:G p=some (.lst xs)):tyT G "list" (.ref p)=True:=by simp[tyT,h]
theorem qZ7 {G:Gp} {p:Addr} {xs:List T}:tyT (gup G p (.lst xs)) "list" (.ref p)=True:=jKd jJg
theorem kKv {α:Type} {mask:List Bool} {g:TG3} {tif:TT3} {te:TE3} {τ:St3} {es:List α} {enc:α->T} {stay:Gp->Prop} {G:Gp} {Q:VK3} (f:α->List T) (hz:es.length<=sizeLine) (hst:∀G',Sub G G'->stay G')
  (h:∀(i:Nat) e,es[i]? =some e->∀G' (K:T->Gp->Prop) (K0:Gp->Prop),Sub G G'->(∀p G4,G' p=none->G4 p=some (.lst (f e))->Sub G' G4->K (.ref p) G4)->g (enc e) (msk mask τ) G' fun τ2 G2=>tif τ2 G2 fun b G3=>if b=true then te τ2 G3 K else K0 G3)
  (hq:∀D rs G',G D=none->G' D=some (.lst (rs.map T.ref))->Sub G G'->rs.length=es.length->(D::rs).Nodup->(∀(i:Nat) (r:Addr) (e:α),rs[i]? =some r->es[i]? =some e->G r=none/\G' r=some (.lst (f e)))->Q (.ref D) G'):kZv mask g tif te τ (es.map enc) stay G Q:=by
 intro D hD
 refine⟨fun i acc G'=>∃rs:List Addr,acc=rs.map T.ref/\rs.length=i/\G' D=some (.lst acc)/\Sub G G'/\(D::rs).Nodup/\(∀(i:Nat) (r:Addr) (e:α),rs[i]? =some r->es[i]? =some e->G r=none/\G' r=some (.lst (f e))),⟨[],rfl,rfl,jJg,.new hD,by simp,by simp⟩,?_,?_,?_⟩
 ·rintro i acc G' hi ⟨rs,ea,hl,eg,hs,hn,hr⟩
  exact⟨hst G' hs,eg⟩
 ·rintro i x acc G' hx0 ⟨rs,ea,hl,eg,hs,hn,hr⟩
  obtain⟨e,hx,rfl⟩:=jK5 hx0
  have hi:i<es.length:=(lJe.mp hx).1
  have hlen:acc.length<sizeLine:=by rw[ea,lJf];omega
  refine h i e hx G' _ _ hs fun p G4 hp h4 s4=>⟨s4 D _ eg,hlen,rs++[p],by simp[ea],by simp[hl],jJg,(hs.trans s4).over hD,?_,?_⟩
  ·have hDp:D≠p:=jJf eg hp
   have hpr:p∉rs:=by
    intro hm
    obtain⟨j,hj⟩:∃j:Nat,_:=lKc hm
    have hjl:j<rs.length:=(lJe.mp hj).1
    have:=(hr j p es[j] hj (lJg (by omega))).2
    rw[hp] at this;cases this
   rw[lKz] at hn
   simp only[lKz,lKh,lJ1,not_or,lVt,lKd,not_false_eq_true,lVq,and_true]
   exact⟨⟨hn.1,hDp⟩,hn.2,trivial,fun a ha b hb=>by subst hb;rintro rfl;exact hpr ha⟩
  ·intro j r e' hj he'
   have hjl:j<rs.length+1:=by have:=(lJe.mp hj).1;simpa using this
   by_cases hjr:j<rs.length
   ·rw[lKr hjr] at hj
    obtain⟨q1,q2⟩:=hr j r e' hj he'
    have:r≠D:=by rintro rfl;exact (lKz.mp hn).1 (lJi hj)
    exact⟨q1,by rw[jJm this];exact s4 _ _ q2⟩
   ·have hj2:j=rs.length:=by omega
    subst hj2
    rw[lVf (lJh _)] at hj
    simp at hj
    subst hj
    rw[hl,hx] at he';cases he'
    exact⟨hs.none hp,by rw[jJm (jJf eg hp).symm];exact h4⟩
 ·rintro acc G' ⟨rs,ea,hl,eg,hs,hn,hr⟩
  rw[ea] at eg
  exact hq D rs G' hD eg hs (by simpa using hl) hn hr
end L3
namespace L3
open PySem PySem.Spec PyProof.Rows L2
section
variable {X:Cx}
def rAddE:R3:=fun x y G Q=>∃ys,x= .tup []/\y= .tup ys/\Q (.tup ys) G
theorem o_addE:Op3 X (binaryOp .Add) rAddE:=by
 rintro pins s τ G H x y v u Q ⟨σ,I,hs,hg⟩ ⟨a,ra,rv⟩ ⟨b,rb,ru⟩ ⟨ys,ex,ey,q⟩
 subst ex;subst ey
 obtain⟨pa,vs,rfl,h1,r1⟩:=(show ∃p vs,a= .ref p/\H p=some (.tup vs)/\Reps X.K H [] vs from ra)
 obtain⟨pb,ws,rfl,h2,r2⟩:=(show ∃p vs,b= .ref p/\H p=some (.tup vs)/\Reps X.K H ys vs from rb)
 cases rv;cases ru
 obtain⟨its,q1,p1,_⟩:=I.tuple (.of h1)
 obtain⟨its2,q2,p2,_⟩:=I.tuple (.of h2)
 have e0:its.toArray.isEmpty=true:=by
  have e1:=r1.length
  have e2:=q1.length
  have:its=[]:=lX1 (by simp at e1;omega)
  rw[this];rfl
 obtain⟨⟨cls,dd,data,sl⟩,ho,hc,n,hd⟩:=id p1
 obtain⟨⟨cls2,dd2,data2,sl2⟩,ho2,hc2,n2,hd2⟩:=id p2
 simp only at hc hd hc2 hd2
 subst hc hd hc2 hd2
 exact concat_meets ⟨_,ho,rfl⟩ ⟨_,ho2,rfl⟩ noFill_tuple_add seq_tuple_add PySem.F.slot_tuple_add PySem.F.entry_tuple_add (lXz _ _) (tuple_addW0 pa pb its.toArray its2.toArray n n2 dd dd2 sl sl2 e0)
  ⟨ho,ho2,.tup ys,G,H,.refl H,⟨σ,I,hs,hg⟩,⟨.ref pb,⟨pb,ws,rfl,h2,r2⟩,rfl⟩,q⟩
def qXi:R3:=fun x y G Q=>jKh x y G Q\/rAddE x y G Q
theorem qZr:Op3 X (binaryOp .Add) qXi:=o_addF.or o_addE
end
theorem qU1 {P:Program} {w:World} {A:Around} (hh:A.handled=none) (it t:Addr) (ne:t≠it) (xs:Array Value):Draws P w A it [it,t] xs.size (fun i v=>xs[i]? =some v) (fun i h=>qJ2 it t i xs h) where
 live:=fun _ _ ⟨⟨o,ho,_⟩,_⟩=>⟨o,ho⟩
 frame:=fun _ _ _ ⟨⟨o,ho,r⟩,⟨q,hq,r'⟩⟩ k=>⟨⟨o,k it (by simp) o ho,r⟩,⟨q,k t (by simp) q hq,r'⟩⟩
 item:=fun i s Q E hi st hQ=>kK2 hh ne s Q E st (fun x g e s' b=>hQ x g s.toks e s' b) fun _ _ _ e=>by rw[lQi hi] at e;cases e
 done:=fun s Q E st hE=>kK2 hh ne s Q E st (fun x _ e=>by rw[lQ3 (lJh _)] at e;cases e) fun g e o _ b he hc=>hE g e b ⟨o,he,hc⟩
def kZi (i:Addr):Obj:={cls:= .type "enumerate",data:= .fields #[.none,.bool false,.ref i,rawInt 0,.none,.none]}
theorem qYv (t:Addr) (xs:Array Value):
  Meets (Builtin.«enumerate.__new__» ⟨[.type "enumerate",.ref t],[]⟩) fun _ R s=>s.heap.IsTuple t xs/\R (.ok (.ret (.ref (s.heap.push (itOf t)).objs.size))) {s with heap:=(s.heap.push (itOf t)).push (kZi s.heap.objs.size)}:=by
 refine .of_wp fun P w A R s ⟨ht,h⟩=> ?_
 obtain⟨g,a1,a2,a3,a4⟩:=s
 have sb:=sub_enumerate
 have m1:Heap.IsTuple (Shared.heap ⟨g,a1,a2,a3,a4⟩) t xs:=ht
 obtain⟨⟨c,dct,dt,sl⟩,hl,hc,n,hd⟩:=id ht
 replace hc:c= .type "tuple":=hc
 replace hd:dt= .seq xs n:=hd
 subst hc hd
 wp_walk using AutoSeq1.wpAny_loadPart' hl
 refine wpAny_stack_any (fun stk=>lJd ?_)
 split
 ·rename_i k _ _ _ _ _
  cases (k == Value.type "enumerate")<;>(wp_walk using AutoSeq1.wpAny_loadPart' hl,wpAny_pyIter_tuple m1;exact⟨_,rfl,h⟩)
 ·wp_walk using AutoSeq1.wpAny_loadPart' hl,wpAny_pyIter_tuple m1;exact⟨_,rfl,h⟩
theorem qUy {P:Program} {w:World} {A:Around} {s:Shared} {t:Addr} {xs:Array Value} {Q E:Value->Shared->Prop} (ht:s.heap.IsTuple t xs)
  (h:∀g n,n=s.heap.objs.size->IsEnum g (n+1) n 0 .none->qJ2 n t 0 xs g->(∀c o,s.heap.get? c=some o->g.get? c=some o)->Q (.ref (n+1)) {s with heap:=g}):wpAny (model P w) A (call (.type "enumerate") [.ref t]) Q E s:=by
 refine callType_new F.called_enumerate (by decide) (F.typeCall_enumerate_1 _) (F.newCall_enumerate_1 _) (fun obj=>F.args_object_init_2 obj _) F.entry_enumerate_new (qYv t xs) ⟨ht,?_⟩
 have hn:∀(g:Heap) (o:Obj),(g.push o).objs.size=g.objs.size+1:=fun _ _=>lVm ..
 have up:∀ {g:Heap} {o q:Obj} {c:Addr},g.get? c=some q->(g.push o).get? c=some q:=fun e=>lJm _ e
 obtain⟨q,hq,hr⟩:=ht
 have c0:((s.heap.push (itOf t)).push (kZi s.heap.objs.size)).get? s.heap.objs.size=some (itOf t):=up (lJ3 _ rfl)
 have c1:((s.heap.push (itOf t)).push (kZi s.heap.objs.size)).get? (s.heap.push (itOf t)).objs.size=some (kZi s.heap.objs.size):=lJ3 _ rfl
 show _/\_
 simp only[hn] at c1 ⊢
 exact⟨⟨_,c1,rfl⟩,h _ _ rfl c1 ⟨⟨_,c0,rfl,rfl⟩,q,up (up hq),hr⟩ fun c o e=>up (up e)⟩
theorem jUy {P:Program} {w:World} {A:Around} {s:Shared} {e it t:Addr} {i:Int} {k:Nat} {old:Value} {xs:Array Value} {Q:Option Value->Shared->Prop} {E:Value->Shared->Prop} (hh:A.handled=none) (ne:t≠it) (he:IsEnum s.heap e it i old) (st:qJ2 it t k xs s.heap) (hk:xs.size<=k)
  (hQ:∀g,Heap.ExtBut it s.heap g->Q none {s with heap:=g}):wpAny (model P w) A (pyNext (.ref e)) Q E s:=by
 have ty:s.TypeIs (.ref e) "enumerate":=⟨_,he,rfl⟩
 refine lJa (wpAny_attempt (lV5 (name:=Str.ofString "__next__") ty F.slot_enumerate_next (lQm F.slot_enumerate_next ty F.entry_enumerate_next ?_ (F.args_enumerate_next_1 _))))
 refine (show wpAny _ _ (field (.ref e) 2 >>= _) _ _ _ from lJa (wpAny_field he rfl (x:= .ref it) rfl (lJa ?_)))
 refine kK2 (A:=A.in1) hh ne s _ _ st (fun x _ e=>by rw[lQ3 hk] at e;cases e) fun g x o _ b hx hc=> ?_
 exact lJa (wpAny_isInstance (T:="StopIteration") (b:=true) ⟨o,hx,hc⟩ isSubtype_stop (lJd (hQ g b)))
noncomputable def Itn (K:PySem.W.Frag) (a:Addr):It:=
 ⟨fun i H=>∃xs x,SqT K H a xs/\xs[i]? =some x,fun i H x H'=>∃p y,H p=none/\x= .ref p/\(∀xs,SqT K H a xs->xs[i]? =some y)/\H'=upd H p (.tup [.int i,y]),fun i H=>∃xs,SqT K H a xs/\xs.length<=i⟩
theorem kZh {h:Heap} {a e it:Addr} {i:Int} {old:Value} {k:Nat} {xs:Array Value} (he:IsEnum h e it i old) (hi:h.IsTupleIter it a k) (ht:h.IsTuple a xs):a≠it/\e∉[it,a]:=by
 obtain⟨o,ho,hc,_⟩:=hi
 obtain⟨q,hq,hqc,_⟩:=ht
 refine⟨fun z=> ?_,fun m=> ?_⟩
 ·subst z;rw[ho] at hq;cases hq;rw[hc] at hqc;simp at hqc
 ·simp only[lJl,lKd,lKy] at m
  rcases m with rfl | rfl
  ·rw[he] at ho;cases ho;simp at hc
  ·rw[he] at hq;cases hq;simp at hqc
theorem kZ0 {P:Program} {w:World} {K:PySem.W.Frag} {elts:List Expr} {k:Nat} {pos:Pos} (a e it:Addr) (hei:e≠it):
  Turn P w K (.Tuple elts k pos) (Itn K a) [e,it] e (fun i h=>(∃old,IsEnum h e it i old)/\h.IsTupleIter it a i) where
 mem:=lJu ..
 obj:=fun i h ⟨⟨old,h1⟩,h2⟩ b hb=>by
  simp only[lKd,lJl,lKy] at hb
  rcases hb with rfl | rfl
  ·exact⟨_,h1,fun v z=>nomatch (show Data.fields _=Data.cell v from z)⟩
  ·obtain⟨o,e2,c,d⟩:=h2
   exact⟨o,e2,fun v z=>by rw[d] at z;cases z⟩
 keep:=fun i h h' ⟨⟨old,h1⟩,h2⟩ kp=>⟨⟨old,kp e (by simp) _ h1⟩,h2.at fun o q=>kp it (by simp) o q⟩
 item:=by
  rintro X hP hw hK hc i pins s σ H E I hf ⟨⟨old,he⟩,hit⟩ ⟨xs,x,hq,hx⟩
  subst hP hw hK
  obtain⟨its,rv,p,hz⟩:=I.tuple hq
  obtain⟨u,hu,ru⟩:=rv.get hx
  have p':s.heap.IsTuple a its.toArray:=p
  obtain⟨nei,hef⟩:=kZh he hit p'
  have hlt:i<its.toArray.size:=by simpa using (lJe.mp hu).1
  refine wpAny_pyNext_enum_itemD (qU1 (A:=X.A.in1) (I.ok.hd hc) it a nei its.toArray) he ⟨hit,p'⟩ hlt hei hef fun x' h1 tk hx' ho hit1 hT hsz hk=> ?_
  obtain rfl:u=x':=by simpa[hu] using hx'
  refine⟨_,rfl,wpAny_letOwnedTupleGo_enum ho fun h2 he2 hs2=> ?_⟩
  have hel:e<s.heap.objs.size:=lJj he
  have hp2:∀b o,b∉[e,it]->s.heap.get? b=some o->h2.get? b=some o:=fun b o hb q=>by
   simp only[lJl,lKd,lKy,not_or] at hb
   exact (hs2.2 b hb.1).trans (hk b o hb.1 hb.2 q)
  have hT2:h2.get? s.heap.objs.size=some {cls:= .type "tuple",data:= .seq #[.int i tk,u]}:=(hs2.2 _ (lVd hel)).trans hT
  have I2:=kUh (t':=tk+1) (h':=h2) (p:=s.heap.objs.size) (vs:=[.int i,x]) (us:=[.int i tk,u]) I hp2 hf (lJh _) ⟨_,hT2,rfl,_,rfl,rfl⟩ (.cons ⟨_,rfl⟩ (.cons ru .nil)) (by show 2<=sizeLine;decide)
  refine⟨.ref s.heap.objs.size,_,I2,rfl,⟨_,x,I.hok.fresh (lJh _),rfl,fun ys hy=>by rw[I.tuple_inj hy hq];exact hx,rfl⟩,⟨⟨u,by simpa using he2⟩,hit1.1.at fun o q=>(hs2.2 it hei.symm).trans q⟩,fun b hb=> ?_⟩
  have hbs:∃o,s.heap.get? b=some o:=by
   have hb':=hb
   simp only[lKd,lJl,lKy] at hb'
   rcases hb' with rfl | rfl
   ·exact⟨_,he⟩
   ·obtain⟨o,q,_⟩:=hit;exact⟨o,q⟩
  obtain⟨o,q⟩:=hbs
  rw[jJ5 (lJw (lJj q))]
  exact (hf b hb).1
 done:=by
  rintro X hP hw hK hc i pins s σ H E I hf ⟨⟨old,he⟩,hit⟩ ⟨xs,hq,hx⟩
  subst hP hw hK
  obtain⟨its,rv,p,hz⟩:=I.tuple hq
  have p':s.heap.IsTuple a its.toArray:=p
  obtain⟨nei,hef⟩:=kZh he hit p'
  have hl:=rv.length
  refine jUy (I.ok.hd hc) nei he ⟨hit,p'⟩ (by simp;omega) fun h1 hx1=>⟨rfl,qKb (t':=s.toks) I (fun b o hb q=>hx1 b o (fun z=>hb (by simp[z])) q) hf⟩
 self:=fun _ _ _ _ _ ⟨⟨old,he⟩,_⟩ h=>lXx he h
def iEnT (ta:TA3):TI3:=fun τ G R=>ta τ G fun vs G1=>∃xs,vs=[.tup xs]/\R (numT xs) (fun _=>True) G1
theorem i_enT {X:Cx} {elts:List Expr} {k:Nat} {tpos pos p:Pos} {a:Expr} {ta:TA3} (hg:Gl X "enumerate") (hm:X.mg "enumerate"=none) (hv:bootBuiltins "enumerate"=some (.type "enumerate")) (ha:PA3 X [a] ta) (hs:starEach [a] X.env=[(false,eval a X.env)]:=by rfl):
  PI3 X (.Tuple elts k tpos) (.Call (.Name "enumerate" p) [a] [] pos) (iEnT ta):=by
 intro pins s τ G H R I h
 obtain⟨σ0,I0,_,_⟩:=id I
 refine Call_ (jUu I0 hg hm hv (lQg (thn (ha pos pins s τ G H _ I h) fun us s1 w_=>w_.el fun xs' G1 H1 e1 i_ r_ q1=>i_.el fun σ I1 hs1 hg1=>r_.el fun as ras rvs=> ?_) hs rfl))
 obtain⟨xs,e,q⟩:=q1
 subst e
 obtain⟨v,rfl,rv⟩:=jVl ras
 obtain⟨u,rfl,ru⟩:=rvs.one
 obtain⟨pa,vs,rfl,hq,r⟩:=(show ∃p vs,v= .ref p/\H1 p=some (.tup vs)/\Reps X.K H1 xs vs from rv)
 cases ru
 obtain⟨its,rvv,pl,hz⟩:=I1.tuple (.of hq)
 refine qUy (show s1.heap.IsTuple pa its.toArray from pl) fun h1 n hn he hit hk=> ?_
 subst hn
 have I2:Inv X pins σ H1 {s1 with heap:=h1}:=I1.kept (t':=s1.toks) hk
 refine lXx (Q:=PIE3 X pins τ H (.Tuple elts k tpos) R) he ?_
 have fr:∀b∈[s1.heap.objs.size+1,s1.heap.objs.size],FpOk X pins H1 b:=fun b hb=>by
  simp only[lKd,lJl,lKy] at hb
  have hle:s1.heap.objs.size<=b:=by omega
  exact I1.fpOk hle (I1.hok.fresh hle)
 refine⟨s1.heap.objs.size+1,[s1.heap.objs.size+1,s1.heap.objs.size],_,_,numT xs,fun _=>True,G1,H1,rfl,e1,⟨σ,I2,hs1,hg1⟩,kZ0 pa _ _ (Nat.succ_ne_self _),⟨⟨.none,he⟩,hit.1⟩,fr,?_,q⟩
 intro i H2 G2 e2 g2 _
 obtain⟨pb,ws,eb,h1',h2⟩:=(show ∃p vs,V.ref pa= .ref p/\H2 p=some (.tup vs)/\Reps X.K H2 xs vs from Rep.mono e2 _ rv)
 cases eb
 have hlen:=h2.length
 refine⟨fun hi=> ?_,fun hi=>⟨ws,.of h1',by rw[jKk] at hi;omega⟩,fun hi y H' ⟨pp,z,hn,ey,hy,eH⟩=> ?_⟩
 ·rw[jKk] at hi
  exact⟨ws,ws[i]'(by omega),.of h1',by simp[hlen▸hi]⟩
 ·subst ey;subst eH
  obtain⟨t,ht,rt⟩:=h2.get' (hy ws (.of h1'))
  exact⟨.upd (.none hn),g2.tupNew hn,_,jU5 ht,Rep.tupNew ⟨_,_,rfl,rfl,_,_,rfl,rt,rfl⟩ hn⟩
section
variable {X:Cx}
end
section
variable {X:Cx}
end
end L3
namespace L3
open PySem PySem.Spec PyProof.Rows L2 MeetsSeq
section
variable {X:Cx}
end
end L3
namespace L3
open PySem PySem.Spec PyProof.Rows L2
section
variable {X:Cx}
end
section
variable {X:Cx}
end
section
variable {P:Program} {w:World} {A:Around} {E:Value->Shared->Prop} {s:Shared} {d:Addr}
end
section
variable {X:Cx}
end
section
variable {X:Cx}
end
section
variable {X:Cx}
end
section
variable {X:Cx}
noncomputable def kV1 (tk tv:TE3):TE3:=fun τ G Q=>∀p,G p=none->tk τ (gup G p (.dct [])) fun x G1=>tv τ G1 fun y G2=>∃ys ks,x= .tup ys/\jQe ys=some ks/\G2 p=some (.dct [])/\Q (.ref p) (gup G2 p (.dct [(ks,y)]))
theorem qYx (hu:X.A.units+20<cLine) {pos:Pos} {k v:Expr} {tk tv:TE3} (hk:PE3 X k tk) (hv:PE3 X v tv):PE3 X (.Dict [some k] [v] pos) (kV1 tk tv):=by
 rintro pins s τ G H Q ⟨σ,I,hs,hg⟩ h
 have hn:=I.hok.fresh (lJh s.heap.objs.size)
 have I1:=I.laid (a:=s.heap.objs.size) (o:= .dT []) (h':=s.heap.push {cls:= .type "dict",data:= .dict #[]}) (t':=s.toks) (fun _ _ q=>lJm _ q) (lJh _) (kZk s.heap I.big)
 have I3:Inv3 X pins τ (gup G s.heap.objs.size (.dct [])) (upd H s.heap.objs.size (.dT [])) {s with heap:=s.heap.push {cls:= .type "dict",data:= .dict #[]},toks:=s.toks}:=
  ⟨σ,I1,hs.mono (.upd (.none hn)),hg.upd (.none hn) (go:= .dct []) ⟨[],jKt,.nil⟩⟩
 refine wpAny_Dict_any rfl rfl (by simp) (by simp) (pairTrees_cons_walk (thn (hk pins _ τ _ _ _ I3 (h _ (hg.fresh hn))) fun u s1 w_=>w_.el fun x G1 H1 e1 J1 ru q1=>thn (hv pins s1 τ G1 H1 _ J1 q1) fun u2 s2 w_=>w_.el fun y G2 H2 e2 i_ ru2 ⟨ys,ks,ex,hkey,hd,q2⟩=>i_.el fun σ2 J2 hs2 hg2=>pairTrees_nil_walk ?_))
 subst ex
 obtain⟨ws,hH2,pk⟩:=(show ∃ws,H2 s.heap.objs.size=some (.dT ws)/\PKV X.K H2 [] ws from hg2 _ _ hd)
 cases pk
 obtain⟨a,ra,rva⟩:=ru.mono e2
 obtain⟨c,rc,rvc⟩:=ru2
 obtain⟨q',vs,e,h3,h4⟩:=(show ∃q vs,a= .ref q/\H2 q=some (.tup vs)/\Reps X.K H2 ys vs from ra)
 subst e
 cases (show u=Value.ref q' from rva)
 have eb:=jQq hkey h3 h4
 obtain⟨z,hdd,xs,rel,dd⟩:=dt_of J2.hok hH2
 have hl:xs.length<=sizeLine:=by rw[<-lVb rel];exact z
 unfold storeAll
 rw[List.forIn_cons]
 refine lJa (lJa (wpAny_dictSet_heap (hsz:=hl) (knd:=jJh X.prog X.w) (show X.A.units+6<cLine by omega) (jYt J2.hok eb) dd fun h' dd' hsb=>lJd ?_))
 dsimp only
 rw[List.forIn_nil]
 obtain⟨qo,es,ep,hq,k2,k3,k4,_,k5⟩:=dd'
 have JJ:=kX6 (t':=s2.toks+(jJh X.prog X.w).draws ks) J2 (by rw[hH2];exact True.intro) hsb ⟨qo,hq⟩ (ob:= .dT (putK [] ks c)) ⟨by rw[lKe];exact Nat.succ_le_of_lt (lVu _),hdd,_,(rel.put ks eb rvc).keeps (fun b' ys' ec=>by rw[jJ5 (ne_of ec hH2 (fun z=>nomatch z))];exact ec),qo,es,ep,hq,k2,k3,k4,k5⟩
 have ext:Ext H2 (upd H2 s.heap.objs.size (.dT (putK [] ks c))):= .upd (.dT hH2)
 exact lJd ⟨.ref s.heap.objs.size,_,_,(((Ext.upd (.none hn)).trans e1).trans e2).trans ext,⟨σ2,JJ,hs2.mono ext,hg2.upd (.dT hH2) (go:= .dct [(ks,y)]) ⟨_,jKt,PKV.put (kvs:=[]) .nil ks (Rep.mono ext _ rc)⟩⟩,⟨.ref _,rfl,rfl⟩,q2⟩
end
section
variable {X:Cx} {pos:Pos}
end
theorem szle {n:Nat} (h:Nat.ble n 16777216=true):n<=sizeLine:=by rw[PySem.sizeLine_eq];exact Nat.le_of_ble_eq_true h
end L3
namespace L3
theorem xe1 {A0:Type} {σ:Type} {f:A0->σ} {p:A0->Prop} {τ:σ} {C:σ->Prop} (h:∃a0,τ=f a0/\p a0) (k:∀a0,p a0->C (f a0)):C τ:=by
 obtain⟨a0,e,h⟩:=h;rw[e];exact k _ h
theorem xe2 {A0 A1:Type} {σ:Type} {f:A0->A1->σ} {p:A0->A1->Prop} {τ:σ} {C:σ->Prop} (h:∃a0 a1,τ=f a0 a1/\p a0 a1) (k:∀a0 a1,p a0 a1->C (f a0 a1)):C τ:=by
 obtain⟨a0,a1,e,h⟩:=h;rw[e];exact k _ _ h
theorem xe3 {A0 A1 A2:Type} {σ:Type} {f:A0->A1->A2->σ} {p:A0->A1->A2->Prop} {τ:σ} {C:σ->Prop} (h:∃a0 a1 a2,τ=f a0 a1 a2/\p a0 a1 a2) (k:∀a0 a1 a2,p a0 a1 a2->C (f a0 a1 a2)):C τ:=by
 obtain⟨a0,a1,a2,e,h⟩:=h;rw[e];exact k _ _ _ h
theorem xe4 {A0 A1 A2 A3:Type} {σ:Type} {f:A0->A1->A2->A3->σ} {p:A0->A1->A2->A3->Prop} {τ:σ} {C:σ->Prop} (h:∃a0 a1 a2 a3,τ=f a0 a1 a2 a3/\p a0 a1 a2 a3) (k:∀a0 a1 a2 a3,p a0 a1 a2 a3->C (f a0 a1 a2 a3)):C τ:=by
 obtain⟨a0,a1,a2,a3,e,h⟩:=h;rw[e];exact k _ _ _ _ h
theorem xi4 {A0 A1 A2 A3:Type} {σ:Type} {f:A0->A1->A2->A3->σ} {p:A0->A1->A2->A3->Prop} {τ:σ} (a0:A0) (a1:A1) (a2:A2) (a3:A3) (e:τ=f a0 a1 a2 a3) (h:p a0 a1 a2 a3):∃a0 a1 a2 a3,τ=f a0 a1 a2 a3/\p a0 a1 a2 a3:=⟨a0,a1,a2,a3,e,h⟩
theorem xe5 {A0 A1 A2 A3 A4:Type} {σ:Type} {f:A0->A1->A2->A3->A4->σ} {p:A0->A1->A2->A3->A4->Prop} {τ:σ} {C:σ->Prop} (h:∃a0 a1 a2 a3 a4,τ=f a0 a1 a2 a3 a4/\p a0 a1 a2 a3 a4) (k:∀a0 a1 a2 a3 a4,p a0 a1 a2 a3 a4->C (f a0 a1 a2 a3 a4)):C τ:=by
 obtain⟨a0,a1,a2,a3,a4,e,h⟩:=h;rw[e];exact k _ _ _ _ _ h
theorem xi5 {A0 A1 A2 A3 A4:Type} {σ:Type} {f:A0->A1->A2->A3->A4->σ} {p:A0->A1->A2->A3->A4->Prop} {τ:σ} (a0:A0) (a1:A1) (a2:A2) (a3:A3) (a4:A4) (e:τ=f a0 a1 a2 a3 a4) (h:p a0 a1 a2 a3 a4):∃a0 a1 a2 a3 a4,τ=f a0 a1 a2 a3 a4/\p a0 a1 a2 a3 a4:=⟨a0,a1,a2,a3,a4,e,h⟩
theorem xe6 {A0 A1 A2 A3 A4 A5:Type} {σ:Type} {f:A0->A1->A2->A3->A4->A5->σ} {p:A0->A1->A2->A3->A4->A5->Prop} {τ:σ} {C:σ->Prop} (h:∃a0 a1 a2 a3 a4 a5,τ=f a0 a1 a2 a3 a4 a5/\p a0 a1 a2 a3 a4 a5) (k:∀a0 a1 a2 a3 a4 a5,p a0 a1 a2 a3 a4 a5->C (f a0 a1 a2 a3 a4 a5)):C τ:=by
 obtain⟨a0,a1,a2,a3,a4,a5,e,h⟩:=h;rw[e];exact k _ _ _ _ _ _ h
theorem xi6 {A0 A1 A2 A3 A4 A5:Type} {σ:Type} {f:A0->A1->A2->A3->A4->A5->σ} {p:A0->A1->A2->A3->A4->A5->Prop} {τ:σ} (a0:A0) (a1:A1) (a2:A2) (a3:A3) (a4:A4) (a5:A5) (e:τ=f a0 a1 a2 a3 a4 a5) (h:p a0 a1 a2 a3 a4 a5):∃a0 a1 a2 a3 a4 a5,τ=f a0 a1 a2 a3 a4 a5/\p a0 a1 a2 a3 a4 a5:=⟨a0,a1,a2,a3,a4,a5,e,h⟩
theorem xe7 {A0 A1 A2 A3 A4 A5 A6:Type} {σ:Type} {f:A0->A1->A2->A3->A4->A5->A6->σ} {p:A0->A1->A2->A3->A4->A5->A6->Prop} {τ:σ} {C:σ->Prop} (h:∃a0 a1 a2 a3 a4 a5 a6,τ=f a0 a1 a2 a3 a4 a5 a6/\p a0 a1 a2 a3 a4 a5 a6) (k:∀a0 a1 a2 a3 a4 a5 a6,p a0 a1 a2 a3 a4 a5 a6->C (f a0 a1 a2 a3 a4 a5 a6)):C τ:=by
 obtain⟨a0,a1,a2,a3,a4,a5,a6,e,h⟩:=h;rw[e];exact k _ _ _ _ _ _ _ h
theorem xi7 {A0 A1 A2 A3 A4 A5 A6:Type} {σ:Type} {f:A0->A1->A2->A3->A4->A5->A6->σ} {p:A0->A1->A2->A3->A4->A5->A6->Prop} {τ:σ} (a0:A0) (a1:A1) (a2:A2) (a3:A3) (a4:A4) (a5:A5) (a6:A6) (e:τ=f a0 a1 a2 a3 a4 a5 a6) (h:p a0 a1 a2 a3 a4 a5 a6):∃a0 a1 a2 a3 a4 a5 a6,τ=f a0 a1 a2 a3 a4 a5 a6/\p a0 a1 a2 a3 a4 a5 a6:=⟨a0,a1,a2,a3,a4,a5,a6,e,h⟩
theorem xe8 {A0 A1 A2 A3 A4 A5 A6 A7:Type} {σ:Type} {f:A0->A1->A2->A3->A4->A5->A6->A7->σ} {p:A0->A1->A2->A3->A4->A5->A6->A7->Prop} {τ:σ} {C:σ->Prop} (h:∃a0 a1 a2 a3 a4 a5 a6 a7,τ=f a0 a1 a2 a3 a4 a5 a6 a7/\p a0 a1 a2 a3 a4 a5 a6 a7) (k:∀a0 a1 a2 a3 a4 a5 a6 a7,p a0 a1 a2 a3 a4 a5 a6 a7->C (f a0 a1 a2 a3 a4 a5 a6 a7)):C τ:=by
 obtain⟨a0,a1,a2,a3,a4,a5,a6,a7,e,h⟩:=h;rw[e];exact k _ _ _ _ _ _ _ _ h
theorem xe9 {A0 A1 A2 A3 A4 A5 A6 A7 A8:Type} {σ:Type} {f:A0->A1->A2->A3->A4->A5->A6->A7->A8->σ} {p:A0->A1->A2->A3->A4->A5->A6->A7->A8->Prop} {τ:σ} {C:σ->Prop} (h:∃a0 a1 a2 a3 a4 a5 a6 a7 a8,τ=f a0 a1 a2 a3 a4 a5 a6 a7 a8/\p a0 a1 a2 a3 a4 a5 a6 a7 a8) (k:∀a0 a1 a2 a3 a4 a5 a6 a7 a8,p a0 a1 a2 a3 a4 a5 a6 a7 a8->C (f a0 a1 a2 a3 a4 a5 a6 a7 a8)):C τ:=by
 obtain⟨a0,a1,a2,a3,a4,a5,a6,a7,a8,e,h⟩:=h;rw[e];exact k _ _ _ _ _ _ _ _ _ h
theorem xi9 {A0 A1 A2 A3 A4 A5 A6 A7 A8:Type} {σ:Type} {f:A0->A1->A2->A3->A4->A5->A6->A7->A8->σ} {p:A0->A1->A2->A3->A4->A5->A6->A7->A8->Prop} {τ:σ} (a0:A0) (a1:A1) (a2:A2) (a3:A3) (a4:A4) (a5:A5) (a6:A6) (a7:A7) (a8:A8) (e:τ=f a0 a1 a2 a3 a4 a5 a6 a7 a8) (h:p a0 a1 a2 a3 a4 a5 a6 a7 a8):∃a0 a1 a2 a3 a4 a5 a6 a7 a8,τ=f a0 a1 a2 a3 a4 a5 a6 a7 a8/\p a0 a1 a2 a3 a4 a5 a6 a7 a8:=⟨a0,a1,a2,a3,a4,a5,a6,a7,a8,e,h⟩
theorem xe10 {A0 A1 A2 A3 A4 A5 A6 A7 A8 A9:Type} {σ:Type} {f:A0->A1->A2->A3->A4->A5->A6->A7->A8->A9->σ} {p:A0->A1->A2->A3->A4->A5->A6->A7->A8->A9->Prop} {τ:σ} {C:σ->Prop} (h:∃a0 a1 a2 a3 a4 a5 a6 a7 a8 a9,τ=f a0 a1 a2 a3 a4 a5 a6 a7 a8 a9/\p a0 a1 a2 a3 a4 a5 a6 a7 a8 a9) (k:∀a0 a1 a2 a3 a4 a5 a6 a7 a8 a9,p a0 a1 a2 a3 a4 a5 a6 a7 a8 a9->C (f a0 a1 a2 a3 a4 a5 a6 a7 a8 a9)):C τ:=by
 obtain⟨a0,a1,a2,a3,a4,a5,a6,a7,a8,a9,e,h⟩:=h;rw[e];exact k _ _ _ _ _ _ _ _ _ _ h
theorem xi10 {A0 A1 A2 A3 A4 A5 A6 A7 A8 A9:Type} {σ:Type} {f:A0->A1->A2->A3->A4->A5->A6->A7->A8->A9->σ} {p:A0->A1->A2->A3->A4->A5->A6->A7->A8->A9->Prop} {τ:σ} (a0:A0) (a1:A1) (a2:A2) (a3:A3) (a4:A4) (a5:A5) (a6:A6) (a7:A7) (a8:A8) (a9:A9) (e:τ=f a0 a1 a2 a3 a4 a5 a6 a7 a8 a9) (h:p a0 a1 a2 a3 a4 a5 a6 a7 a8 a9):∃a0 a1 a2 a3 a4 a5 a6 a7 a8 a9,τ=f a0 a1 a2 a3 a4 a5 a6 a7 a8 a9/\p a0 a1 a2 a3 a4 a5 a6 a7 a8 a9:=⟨a0,a1,a2,a3,a4,a5,a6,a7,a8,a9,e,h⟩
theorem xe14 {A0 A1 A2 A3 A4 A5 A6 A7 A8 A9 A10 A11 A12 A13:Type} {σ:Type} {f:A0->A1->A2->A3->A4->A5->A6->A7->A8->A9->A10->A11->A12->A13->σ} {p:A0->A1->A2->A3->A4->A5->A6->A7->A8->A9->A10->A11->A12->A13->Prop} {τ:σ} {C:σ->Prop} (h:∃a0 a1 a2 a3 a4 a5 a6 a7 a8 a9 a10 a11 a12 a13,τ=f a0 a1 a2 a3 a4 a5 a6 a7 a8 a9 a10 a11 a12 a13/\p a0 a1 a2 a3 a4 a5 a6 a7 a8 a9 a10 a11 a12 a13) (k:∀a0 a1 a2 a3 a4 a5 a6 a7 a8 a9 a10 a11 a12 a13,p a0 a1 a2 a3 a4 a5 a6 a7 a8 a9 a10 a11 a12 a13->C (f a0 a1 a2 a3 a4 a5 a6 a7 a8 a9 a10 a11 a12 a13)):C τ:=by
 obtain⟨a0,a1,a2,a3,a4,a5,a6,a7,a8,a9,a10,a11,a12,a13,e,h⟩:=h;rw[e];exact k _ _ _ _ _ _ _ _ _ _ _ _ _ _ h
theorem ae2 {a0 a1 C:Prop} (h:a0/\a1) (k:a0->a1->C):C:=k h.1 h.2
theorem ae3 {a0 a1 a2 C:Prop} (h:a0/\a1/\a2) (k:a0->a1->a2->C):C:=k h.1 h.2.1 h.2.2
theorem ae4 {a0 a1 a2 a3 C:Prop} (h:a0/\a1/\a2/\a3) (k:a0->a1->a2->a3->C):C:=k h.1 h.2.1 h.2.2.1 h.2.2.2
theorem ae5 {a0 a1 a2 a3 a4 C:Prop} (h:a0/\a1/\a2/\a3/\a4) (k:a0->a1->a2->a3->a4->C):C:=k h.1 h.2.1 h.2.2.1 h.2.2.2.1 h.2.2.2.2
theorem ae6 {a0 a1 a2 a3 a4 a5 C:Prop} (h:a0/\a1/\a2/\a3/\a4/\a5) (k:a0->a1->a2->a3->a4->a5->C):C:=k h.1 h.2.1 h.2.2.1 h.2.2.2.1 h.2.2.2.2.1 h.2.2.2.2.2
theorem ae7 {a0 a1 a2 a3 a4 a5 a6 C:Prop} (h:a0/\a1/\a2/\a3/\a4/\a5/\a6) (k:a0->a1->a2->a3->a4->a5->a6->C):C:=k h.1 h.2.1 h.2.2.1 h.2.2.2.1 h.2.2.2.2.1 h.2.2.2.2.2.1 h.2.2.2.2.2.2
theorem ae8 {a0 a1 a2 a3 a4 a5 a6 a7 C:Prop} (h:a0/\a1/\a2/\a3/\a4/\a5/\a6/\a7) (k:a0->a1->a2->a3->a4->a5->a6->a7->C):C:=k h.1 h.2.1 h.2.2.1 h.2.2.2.1 h.2.2.2.2.1 h.2.2.2.2.2.1 h.2.2.2.2.2.2.1 h.2.2.2.2.2.2.2
theorem ae9 {a0 a1 a2 a3 a4 a5 a6 a7 a8 C:Prop} (h:a0/\a1/\a2/\a3/\a4/\a5/\a6/\a7/\a8) (k:a0->a1->a2->a3->a4->a5->a6->a7->a8->C):C:=k h.1 h.2.1 h.2.2.1 h.2.2.2.1 h.2.2.2.2.1 h.2.2.2.2.2.1 h.2.2.2.2.2.2.1 h.2.2.2.2.2.2.2.1 h.2.2.2.2.2.2.2.2
end L3
namespace L3
open PySem PySem.Spec PyProof.Rows L2
section
variable {X:Cx}
end
section
variable {X:Cx}
def kUi:TS3:=fun _ _ _=>False
theorem qKu {e c:Option Expr} {pos:Pos}:PS3 X (.Raise e c pos) kUi:=fun _ _ _ _ _ _ _ h=>h.elim
end
section
variable {X:Cx}
end
section
variable {X:Cx}
end
section
variable {P:Program} {w:World} {A:Around} {E:Value->Shared->Prop} {s:Shared} {d it:Addr} {o:Obj} {es:Array DictEntry} {ep i:Nat}
end
section
variable {X:Cx}
end
section
open PySem.SeqAt
open PySem.AutoSeq1 (wpAny_loadPart')
open PySem.MeetsSeq PySem.MeetsSeq2 PySem.MeetsSeq3
end
section
variable {prog:Program} {w:World} {A:Around} {E:Value->Shared->Prop} {s:Shared}
end
section
variable {X:Cx}
end
section
variable {X:Cx}
end
def CN (K:PySem.W.Frag) (cn:Str) (C:Addr):Prop:=PySem.W.nsIn K mainGlobals cn=some (some (.ref C))
theorem CN.one {K:PySem.W.Frag} {cn:Str} {C D:Addr} (h:CN K cn C) (h':CN K cn D):C=D:=by
 unfold CN at h h';rw[h] at h';cases h';rfl
structure ObF (K:PySem.W.Frag) (cn f:Str):Prop where
 ex:∃C,CN K cn C/\Cls K C/\NoAttr K C f
def jVe (f:Str) (t:T):List (Str×T)->List (Str×T)
 | []=>[(f,t)]
 | (g,x)::r=>if g=f then (g,t)::r else (g,x)::jVe f t r
def fldT (f:Str):List (Str×T)->Option T
 | []=>none
 | (g,x)::r=>if g=f then some x else fldT f r
theorem kXk {K:PySem.W.Frag} {H:Hp} {fs:List (Str×T)} {ws:List (Str×V)} (h:PKV K H fs ws) (f:Str):
  (fldT f fs=none->ws.lookup f=none)/\∀t,fldT f fs=some t->∃v,ws.lookup f=some v/\Rep K H t v:=by
 unfold PKV at h
 induction h with
 | nil=>exact⟨fun _=>rfl,fun t e=>by cases e⟩
 | @cons a b l m r _ ih=>
  obtain⟨g,x⟩:=a;obtain⟨g',v⟩:=b;obtain⟨e,rv⟩:=r;cases e
  by_cases q:g=f
  ·subst q
   refine⟨fun e=> ?_,fun t e=> ?_⟩
   ·simp[fldT] at e
   ·simp only[fldT,lJ2] at e;cases e;exact⟨v,by simp[List.lookup],rv⟩
  ·have e2:List.lookup f ((g,v)::m)=List.lookup f m:=by
    have:(f == g)=false:=by simp;exact fun z=>q z.symm
    simp only[List.lookup,this]
   rw[e2];simp only[fldT,q,lJt];exact ih
theorem uJs {K:PySem.W.Frag} {H:Hp} {fs:List (Str×T)} {ws:List (Str×V)} (h:PKV K H fs ws) (f:Str) {t:T} {v:V} (r:Rep K H t v):PKV K H (jVe f t fs) (putF f v ws):=by
 unfold PKV at h ⊢
 induction h with
 | nil=>exact .cons ⟨rfl,r⟩ .nil
 | @cons a b l m r0 ht ih=>
  obtain⟨g,x⟩:=a;obtain⟨g',u⟩:=b;obtain⟨e,rv⟩:=r0;cases e
  by_cases q:g=f
  ·simp only[jVe,putF,q,lJ2];exact .cons ⟨rfl,r⟩ ht
  ·simp only[jVe,putF,q,lJt];exact .cons ⟨rfl,rv⟩ ih
def fldR (cn f:Str) (G:Gp):T->Option T
 | .ref a=>match G a with
  | some (.ins c fs)=>if c=cn then fldT f fs else none
  | _=>none
 | _=>none
noncomputable def jZu (cn f:Str) (G:Gp) (x y:T):Option Gp:=match x with
 | .ref a=>match G a with
  | some (.ins c fs)=>if c=cn/\fs.length<1000 then some (gup G a (.ins c (jVe f y fs))) else none
  | _=>none
 | _=>none
def obR (cn m:Str) (G:Gp):T->Bool
 | .ref a=>match G a with
  | some (.ins c fs)=>decide (c=cn)&&(fldT m fs).isNone
  | _=>false
 | _=>false
theorem qJx {cn f:Str} {G:Gp} {x t:T} (h:fldR cn f G x=some t):∃a fs,x= .ref a/\G a=some (.ins cn fs)/\fldT f fs=some t:=by
 unfold fldR at h
 split at h
 ·rename_i a
  split at h
  ·rename_i c fs hG
   split at h
   ·rename_i e;subst e;exact⟨a,fs,rfl,hG,h⟩
   ·cases h
  ·cases h
 ·cases h
theorem kV6 {cn f:Str} {G G':Gp} {x t:T} (h:jZu cn f G x t=some G'):∃a fs,x= .ref a/\G a=some (.ins cn fs)/\fs.length<1000/\G'=gup G a (.ins cn (jVe f t fs)):=by
 unfold jZu at h
 split at h
 ·rename_i a
  split at h
  ·rename_i c fs hG
   split at h
   ·rename_i e;obtain⟨e,l⟩:=e;subst e;cases h;exact⟨a,fs,rfl,hG,l,rfl⟩
   ·cases h
  ·cases h
 ·cases h
theorem kU3 {cn m:Str} {G:Gp} {x:T} (h:obR cn m G x=true):∃a fs,x= .ref a/\G a=some (.ins cn fs)/\fldT m fs=none:=by
 unfold obR at h
 split at h
 ·rename_i a
  split at h
  ·rename_i c fs hG
   rw[lKn,decide_eq_true_iff] at h
   obtain⟨e,l⟩:=h;subst e;exact⟨a,fs,rfl,hG,by simpa using l⟩
  ·cases h
 ·cases h
def tFld (cn f:Str) (ta:TE3):TE3:=fun τ G Q=>ta τ G fun x G1=>∃t,fldR cn f G1 x=some t/\Q t G1
def jXk (cn f:Str) (ta tv:TE3):TS3:=fun D τ G=>tv τ G fun y G1=>ta τ G1 fun x G2=>∃G3,jZu cn f G2 x y=some G3/\D.nx τ G3
def jKm (cn m:Str) (sp:Sp3) (ta:TE3) (t:TA3):TE3:=fun τ G Q=>ta τ G fun x G1=>obR cn m G1 x=true/\t τ G1 fun xs G2=>sp (x::xs) G2 Q
def kK5 (cn:Str) (sp:Sp3) (t:TA3):TE3:=fun τ G Q=>t τ G fun xs G1=>∀x,G1 x=none->sp (.ref x::xs) (gup G1 x (.ins cn [])) fun v G2=>v= .non/\Q (.ref x) G2
section
variable {X:Cx} {cn f m:Str} {pos pos' apos p:Pos} {e o value:Expr} {es:List Expr} {ta tv:TE3} {t:TA3} {k:Nat} {ps:List Str} {sp:Sp3}
theorem jVg (c:ObF X.K cn f) (he:PE3 X e ta) (hb:attributeBase e f X.env (eval e X.env)=eval e X.env:=by rfl):PE3 X (.Attribute e f pos) (tFld cn f ta):=by
 intro pins s τ G H Q I h
 obtain⟨C,hC,hc,hn⟩:=c.ex
 refine uQb hb (thn (he pins s τ G H _ I h) fun u s1 w_=>w_.el fun x G1 H1 e1 i_ r_ q=>i_.el fun σ I1 hs1 hg1=>r_.el fun v rv ru=> ?_)
 obtain⟨t,ht,q⟩:=q
 obtain⟨a,fs,rfl,hG,hf⟩:=qJx ht
 cases (show v= .ref a from rv)
 obtain rfl:u=Value.ref a:=ru
 obtain⟨C',dx,ws,hH,hC',pk⟩:=(show ∃C dx ws,H1 a=some (.ins C dx ws)/\CN X.K cn C/\PKV X.K H1 fs ws from hg1 a _ hG)
 cases hC.one hC'
 obtain⟨v',hl,rv'⟩:=(kXk pk f).2 t hf
 exact qJw I1 hH hc hn hl fun u' s2 I2 ru'=>⟨t,G1,H1,e1,⟨σ,I2,hs1,hg1⟩,⟨v',rv',ru'⟩,q⟩
theorem kJ2 (c:ObF X.K cn f) (ha:PE3 X o ta) (hv:PE3 X value tv) (hs:swapsWith value (some (.Attribute o f pos')) pos.line X.env=pure false:=by rfl):PS3 X (.Assign [.Attribute o f pos'] value pos) (jXk cn f ta tv):=by
 intro pins s τ G H D I h
 obtain⟨C,hC,hc,hn⟩:=c.ex
 refine plainObj_wpAny_Assign_Attribute (thn (hv pins s τ G H _ I h) fun u s1 w_=>w_.el fun y G1 H1 e1 I1 ry q1=>thn (ha pins s1 τ G1 H1 _ I1 q1) fun ov s2 w_=>w_.el fun x G2 H2 e2 i_ r_ q=>i_.el fun σ I2 hs2 hg2=>r_.el fun v rv ru=> ?_) hs
 obtain⟨G3,ht,q⟩:=q
 obtain⟨a,fs,rfl,hG,hl,rfl⟩:=kV6 ht
 cases (show v= .ref a from rv)
 obtain rfl:ov=Value.ref a:=ru
 obtain⟨C',dx,ws,hH,hC',pk⟩:=(show ∃C dx ws,H2 a=some (.ins C dx ws)/\CN X.K cn C/\PKV X.K H2 fs ws from hg2 a _ hG)
 cases hC.one hC'
 obtain⟨vy,rvy,ruy⟩:=ry.mono e2
 refine kZ5 I2 hH hc hn (by rw[<-show fs.length=ws.length from lVb pk];exact hl) ruy fun s3 I3=> ?_
 have ext:Ext H2 (upd H2 a (.ins C dx (putF f vy ws))):= .upd (.ins hH)
 exact⟨τ,_,_,(e1.trans e2).trans ext,⟨σ,I3,hs2.mono ext,hg2.upd (.ins hH) (go:= .ins cn (jVe f y fs)) ⟨C,dx,_,jKt,hC,(uJs pk f rvy).mono ext⟩⟩,q⟩
structure CalM (P:Program) (w:World) (K:PySem.W.Frag) (mg:Str->Option Value) (base:Heap) (k:Nat) (cn m:Str) (ps:List Str) (sp:Sp3):Prop where
 ex:∃C f fd,CN K cn C/\Cls K C/\Meth K C m f/\Fn3 P w K mg base k f fd ps sp/\Binds K fd ps []
 mono:Mono sp
 len:∀xs G Q,sp xs G Q->xs.length=ps.length
structure CalC (P:Program) (w:World) (K:PySem.W.Frag) (mg:Str->Option Value) (base:Heap) (k:Nat) (cn:Str) (ps:List Str) (sp:Sp3):Prop where
 ex:∃C f fd,CN K cn C/\mg cn=some (.ref C)/\Mk K C f/\Fn3 P w K mg base k f fd ps sp/\Binds K fd ps []
 mono:Mono sp
 len:∀xs G Q,sp xs G Q->xs.length=ps.length
theorem qU0 {pl:Sem Bool} (M:CalM X.prog X.w X.K X.mg X.base k cn m ps sp) (hr:Room k X.A) (he:PE3 X o ta) (ha:PA3 X (e::es) t)
  (hst:starEach (e::es) X.env=(false,eval e X.env)::starEach es X.env:=by rfl) (hpl:(backTo pos (starEach es X.env)).any (·.1)=false:=by rfl)
  (ht:eval (.Call (.Attribute o m apos) (e::es) [] pos) X.env=(do
   let ov <-eval o X.env
   standAt apos.atName
   let (f,first) <-holding [ov] (getMethod ov m pl)
   callWith pos f first (backTo pos (starEach (e::es) X.env)) (backToKw pos (keywordEach [] X.env))):=by rfl):
  PE3 X (.Call (.Attribute o m apos) (e::es) [] pos) (jKm cn m sp ta t):=by
 intro pins s τ G H Q I h
 obtain⟨C,f,fd,hC,hc,hm,F,hb⟩:=M.ex
 refine PySem.W.methodCall_KW (pl:=pl) (thn (he pins s τ G H _ I h) fun u s1 w_=>w_.el fun x G1 H1 e1 I1 r_ q=>r_.el fun v rv ru=> ?_) ht
 obtain⟨ob,q⟩:=q
 obtain⟨a,fs,rfl,hG,hf⟩:=kU3 ob
 cases (show v= .ref a from rv)
 obtain rfl:u=Value.ref a:=ru
 obtain⟨σ,J1,hs1,hg1⟩:=id I1
 obtain⟨C',dx,ws,hH,hC',pk⟩:=(show ∃C dx ws,H1 a=some (.ins C dx ws)/\CN X.K cn C/\PKV X.K H1 fs ws from hg1 a _ hG)
 cases hC.one hC'
 refine kKs J1 hH hc hm ((kXk pk m).1 hf) ?_
 refine PySem.W.callWith_K (first:=[.ref a]) (h₀:=X.base) J1.ok.mod.kin hm.kp (thn (ha pos pins s1 τ G1 H1 _ I1 q) fun us s2 w_=>w_.el fun xs G2 H2 e2 i_ r_ q2=>i_.el fun σ2 I2 hs2 hg2=>r_.el fun as ras rvs=>⟨I2.kIn,?_⟩) hst hpl
 refine thn (qKv (us:= .ref a::us) (vs:= .ref a::as) (dvs:=[]) (ds:=[]) (E:=E0) (Q:=up X.K H2 Q) F hr hb .nil qXp I2 (.cons rfl rvs) ?_) fun u s' z=>(jVf hs2 z).ext (e1.trans e2)
 rw[lQn]
 have rr:Reps X.K H2 (.ref a::xs) (.ref a::as):=⟨_,_,rfl,rfl,ras⟩
 exact⟨by rw[<-rr.length];exact M.len _ _ _ q2,_,G2,rr,hg2,M.mono _ _ _ _ (fun t G' hq v H' e g r=>⟨t,G',e,g,r,hq⟩) q2⟩
theorem jUn {pl:Sem Bool} (M:CalM X.prog X.w X.K X.mg X.base k cn m ps sp) (hr:Room k X.A) (he:PE3 X o ta)
  (ht:eval (.Call (.Attribute o m apos) [] [] pos) X.env=(do
   let ov <-eval o X.env
   standAt apos.atName
   let (f,first) <-holding [ov] (getMethod ov m pl)
   callWith pos f first (backTo pos (starEach [] X.env)) (backToKw pos (keywordEach [] X.env))):=by rfl):
  PE3 X (.Call (.Attribute o m apos) [] [] pos) (jKm cn m sp ta tNil):=by
 intro pins s τ G H Q I h
 obtain⟨C,f,fd,hC,hc,hm,F,hb⟩:=M.ex
 refine PySem.W.methodCall_KW (pl:=pl) (thn (he pins s τ G H _ I h) fun u s1 w_=>w_.el fun x G1 H1 e1 i_ r_ q=>i_.el fun σ J1 hs1 hg1=>r_.el fun v rv ru=> ?_) ht
 obtain⟨ob,q⟩:=q
 obtain⟨a,fs,rfl,hG,hf⟩:=kU3 ob
 cases (show v= .ref a from rv)
 obtain rfl:u=Value.ref a:=ru
 obtain⟨C',dx,ws,hH,hC',pk⟩:=(show ∃C dx ws,H1 a=some (.ins C dx ws)/\CN X.K cn C/\PKV X.K H1 fs ws from hg1 a _ hG)
 cases hC.one hC'
 refine kKs J1 hH hc hm ((kXk pk m).1 hf) ?_
 refine PySem.W.callWith_K0 (first:=[.ref a]) J1.kIn hm.kp ?_
 refine thn (qKv (us:=[.ref a]) (vs:=[.ref a]) (dvs:=[]) (ds:=[]) (E:=E0) (Q:=up X.K H1 Q) F hr hb .nil qXp J1 (.cons rfl .nil) ?_) fun u s' z=>(jVf hs1 z).ext e1
 rw[lQn]
 have rr:Reps X.K H1 [.ref a] [.ref a]:=⟨_,_,rfl,rfl,rfl⟩
 exact⟨by rw[<-rr.length];exact M.len _ _ _ q,_,G1,rr,hg1,M.mono _ _ _ _ (fun t G' hq v H' e g r=>⟨t,G',e,g,r,hq⟩) q⟩
theorem qZ4 (M:CalC X.prog X.w X.K X.mg X.base k cn ps sp) (hr:Room (k+1) X.A) (ha:PA3 X (e::es) t) (hg:Gl X cn:=by rfl)
  (hdb:(cn == ("__debug__":Str))=false:=by decide) (he:starEach (e::es) X.env=(false,eval e X.env)::starEach es X.env:=by rfl) (hpl:(backTo pos (starEach es X.env)).any (·.1)=false:=by rfl):
  PE3 X (.Call (.Name cn p) (e::es) [] pos) (kK5 cn sp t):=by
 intro pins s τ G H Q I h
 obtain⟨C,f,fd,hC,hm,hmk,F,hb⟩:=M.ex
 obtain⟨σ0,I0,hs0,hg0⟩:=id I
 refine lXj (qQ4 I0 hg hm ?_ hdb)
 refine PySem.W.callWith_K (h₀:=X.base) I0.ok.mod.kin hmk.kp (thn (ha pos pins s τ G H _ I h) fun us s1 w_=>w_.el fun xs G1 H1 e1 i_ r_ q=>i_.el fun σ I1 hs1 hg1=>r_.el fun as ras rvs=>⟨I1.kIn,?_⟩) he hpl
 refine thn (qV8 (dvs:=[]) (ds:=[]) (E:=E0) (Q:=up X.K H1 Q) hmk F hr hb .nil qXp I1 rvs fun x dx hx hdx ne=> ?_) fun u s' z=>(jVf hs1 z).ext e1
 rw[lQn]
 have x1:Ext H1 (upd H1 dx (.own x)):= .upd (.none hdx)
 have hx1:upd H1 dx (.own x) x=none:=by rw[jJ5 ne.symm];exact hx
 have x2:Ext (upd H1 dx (.own x)) (upd (upd H1 dx (.own x)) x (.ins C dx [])):= .upd (.none hx1)
 have g1:GRel X.K (upd H1 dx (.own x)) G1:=fun b u eb=>by
  have hb:b≠dx:=by rintro rfl;exact (hg1 b u eb).some hdx
  exact (hg1 b u eb).move x1 (jJ5 hb)
 have g2:GRel X.K (upd (upd H1 dx (.own x)) x (.ins C dx [])) (gup G1 x (.ins cn [])):=g1.upd (.none hx1) ⟨C,dx,[],jKt,hC,.nil⟩
 have rr:Reps X.K (upd (upd H1 dx (.own x)) x (.ins C dx [])) (.ref x::xs) (.ref x::as):=⟨_,_,rfl,rfl,Reps.mono (x1.trans x2) _ ras⟩
 have q':=q x (hg1.fresh hx)
 refine⟨by rw[<-rr.length];exact M.len _ _ _ q',_,_,rr,g2,M.mono _ _ _ _ (fun t G' hq v H' e g r=> ?_) q'⟩
 obtain⟨e0,hq⟩:=hq
 subst e0
 exact⟨r,.ref x,G',(x1.trans x2).trans e,g,rfl,hq⟩
end
def insI (a:Int):List Int->List Int
 | []=>[a]
 | b::r=>if a<=b then a::b::r else b::insI a r
def kK7:List Int->List Int
 | []=>[]
 | a::r=>insI a (kK7 r)
theorem kJj (a:Int):∀l:List Int,(insI a l).Perm (a::l)
 | []=> .refl _
 | b::r=>by
  unfold insI
  split
  ·exact .refl _
  ·exact ((kJj a r).cons b).trans (.swap a b r)
theorem jX9:∀l:List Int,(kK7 l).Perm l
 | []=> .nil
 | a::r=>(kJj a _).trans ((jX9 r).cons a)
theorem qUc (a:Int):∀l:List Int,l.Pairwise (· <= ·)->(insI a l).Pairwise (· <= ·)
 | [],_=>List.pairwise_singleton ..
 | b::r,h=>by
  rw[lVv] at h
  unfold insI
  split
  ·rename_i c
   refine lVv.mpr ⟨fun x hx=> ?_,lVv.mpr h⟩
   rcases (lJl.mp hx) with rfl | hx
   ·exact c
   ·exact Int.le_trans c (h.1 x hx)
  ·rename_i c
   refine lVv.mpr ⟨fun x hx=> ?_,qUc a r h.2⟩
   rcases lJl.mp ((kJj a r).mem_iff.mp hx) with rfl | hx
   ·omega
   ·exact h.1 x hx
theorem kYn:∀l:List Int,(kK7 l).Pairwise (· <= ·)
 | []=> .nil
 | a::r=>qUc a _ (kYn r)
theorem kKh:∀ {l m:List Int},l.Perm m->l.Pairwise (· <= ·)->m.Pairwise (· <= ·)->l=m
 | [],_,p,_,_=>(List.nil_perm.mp p).symm
 | a::l,[],p,_,_=>absurd p.symm (by simp)
 | a::l,b::m,p,h,h'=>by
  rw[lVv] at h h'
  have e:a=b:=by
   have h1:a<=b:=by
    rcases lJl.mp (p.mem_iff.mpr (lJu ..)) with e | e
    ·omega
    ·exact h.1 b e
   have h2:b<=a:=by
    rcases lJl.mp (p.mem_iff.mp (lJu ..)) with e | e
    ·omega
    ·exact h'.1 a e
   omega
  subst e
  rw[kKh (List.perm_cons a |>.mp p) h.2 h'.2]
theorem kVa {vs:List Value} {ns:List Int} (h:IntsAre vs ns):Vals (ns.map V.int) vs:=by
 induction h with
 | nil=>exact .nil
 | @cons i t vs ns _ ih=>exact .cons ⟨t,rfl⟩ ih
theorem jYo:∀ {is:List Int} {us:List Value},Vals (is.map V.int) us->IntsAre us is
 | [],_,.nil=> .nil
 | i::is,_,.cons ⟨t,e⟩ r=>by rw[e];exact .cons _ _ (jYo r)
theorem kYr {K:PySem.W.Frag} {H:Hp}:∀(is:List Int),Reps K H (is.map T.int) (is.map V.int)
 | []=>rfl
 | _::is=>⟨_,_,rfl,rfl,kYr is⟩
section
variable {X:Cx}
noncomputable def qQa:List T->Gp->VK3->Prop:=fun xs G Q=>∃(x:T) (is:List Int),xs=[x]/\jQ8 G x=some (is.map T.int)/\is.length<64/\∀p,G p=none->Q (.ref p) (gup G p (.lst ((kK7 is).map T.int)))
theorem uK8:Call3 X (.builtin "sorted") qQa:=by
 rintro pins s τ G H xs us Q ⟨σ,I,hs,hg⟩ ⟨as,ras,rvs⟩ ⟨x,is,ex,hx,hn,q⟩
 subst ex
 obtain⟨v,rfl,rv⟩:=jVl ras
 obtain⟨u,rfl,ru⟩:=rvs.one
 obtain⟨pa,vs,rfl,hq,r⟩:=jU6 hg rv hx
 cases ru
 cases jQ5 r
 obtain⟨its,rvv,pl,hz⟩:=I.list hq
 have hl:its.length=is.length:=by rw[<-rvv.length,lJf]
 refine sorted_ints (vs:=its) pl.isList (jYo rvv) (by omega) fun out ns' hI hp ho=> ?_
 obtain⟨e,he⟩:=sortedAll_at s.heap its out
 have en:ns'=kK7 is:=kKh (hp.trans (jX9 is).symm) ho (kYn is)
 subst en
 have fr:=I.hok.fresh (Nat.le_succ s.heap.objs.size)
 have ln:(kK7 is).length=is.length:=(jX9 is).length_eq
 have I3:=I.laid (a:=s.heap.objs.size+1) (o:= .lst ((kK7 is).map V.int)) (h':=sortedAll s.heap its out) (t':=s.toks) (fun b o z=>sortedAll_old z) (Nat.le_succ _) ⟨by rw[lJf,lKe];omega,out.toList,e,kVa hI,he⟩
 have ext:Ext H (upd H (s.heap.objs.size+1) (.lst ((kK7 is).map V.int))):= .upd (.none fr)
 exact⟨.ref _,_,_,ext,⟨σ,I3,hs.mono ext,hg.lstNew (kYr _) (.none fr)⟩,⟨.ref _,rfl,rfl⟩,q _ (hg.fresh fr)⟩
end
section
variable {X:Cx}
end
section
variable {P:Program} {w:World} {d:Addr}
end
section
variable {X:Cx}
end
section
variable {prog:Program} {w:World} {A:Around} {E:Value->Shared->Prop} {s:Shared}
end
section
variable {P:Program} {w:World} {A:Around} {E:Value->Shared->Prop} {s:Shared} {it l:Addr} {xs:Array Value}
end
section
variable {X:Cx}
end
end L3
namespace PySem
open Sem (wp)
set_option maxRecDepth 100000
end PySem
namespace L3
open PySem PySem.Spec PyProof.Rows L2
section
variable {prog:Program} {w:World} {A:Around} {E:Value->Shared->Prop} {s:Shared}
end
section
variable {X:Cx}
end
section
variable {X:Cx}
end
mutual
inductive RdG (G:Gp):T->PyData->Prop
 | non:RdG G .non .none
 | bl (b:Bool):RdG G (.bl b) (.bool b)
 | int (i:Int):RdG G (.int i) (.int i)
 | str (x:Str):RdG G (.str x) (.str x)
 | tup {xs:List T} {ds:List PyData}:RdGs G xs ds->RdG G (.tup xs) (.tuple ds)
 | lst {p:Addr} {xs:List T} {ds:List PyData}:G p=some (.lst xs)->RdGs G xs ds->RdG G (.ref p) (.list ds)
inductive RdGs (G:Gp):List T->List PyData->Prop
 | nil:RdGs G [] []
 | cons {x:T} {d:PyData} {xs:List T} {ds:List PyData}:RdG G x d->RdGs G xs ds->RdGs G (x::xs) (d::ds)
end
section
variable {X:Cx}
mutual
theorem qK5 {pins:List (Addr×Obj)} {σ:L2.St} {H:Hp} {s:Shared} {G:Gp} (I:Inv X pins σ H s) (hg:GRel X.K H G):∀ {x:T} {d:PyData} {a:V} {u:Value},RdG G x d->Rep X.K H x a->RelV a u->∃as,Reads s.heap u d as
 | _,_,a,u,.non,r,q=>by cases (show a= .non from r);cases q;exact⟨_,.none⟩
 | _,_,a,u,.bl b,r,q=>by cases (show a= .bl b from r);cases q;exact⟨_,.bool b⟩
 | _,_,a,u,.int b,r,q=>by cases (show a= .int b from r);obtain⟨t,rfl⟩:=q;exact⟨_,.int b t⟩
 | _,_,a,u,.str b,r,q=>by cases (show a= .str b from r);obtain⟨t,rfl⟩:=q;exact⟨_,.str b t⟩
 | .tup xs,_,a,u,.tup h,r,q=>by
  obtain⟨p,vs,e1,h1,h2⟩:=(show ∃p vs,a= .ref p/\H p=some (.tup vs)/\Reps X.K H xs vs from r)
  subst e1;cases q
  obtain⟨its,rv,⟨o,ho,hc,n,hd⟩,_⟩:=I.tuple (.of h1)
  obtain⟨as,ra⟩:=kQd I hg h h2 rv
  exact⟨_,.tuple ho hc hd (by simpa using ra)⟩
 | .ref p,_,a,u,.lst hp h,r,q=>by
  cases (show a= .ref p from r);cases q
  obtain⟨vs,h1,h2⟩:=hg.lst hp
  obtain⟨its,rv,⟨o,n,ho,hc,_,hd⟩,_⟩:=I.list (.of h1)
  obtain⟨as,ra⟩:=kQd I hg h h2 rv
  exact⟨_,.list ho hc hd (by simpa using ra)⟩
theorem kQd {pins:List (Addr×Obj)} {σ:L2.St} {H:Hp} {s:Shared} {G:Gp} (I:Inv X pins σ H s) (hg:GRel X.K H G):∀ {xs:List T} {ds:List PyData} {vs:List V} {us:List Value},RdGs G xs ds->Reps X.K H xs vs->Vals vs us->∃as,ReadsAll s.heap us ds as
 | _,_,_,_,.nil,r,q=>by cases r;cases q;exact⟨_,.nil⟩
 | _,_,_,_,.cons h hs,⟨v,ws,e,r1,r2⟩,q=>by
  subst e
  cases q with
  | cons q1 q2=>
   obtain⟨as,ra⟩:=qK5 I hg h r1 q1
   obtain⟨bs,rb⟩:=kQd I hg hs r2 q2
   exact⟨_,.cons ra rb⟩
end
def jYr:List T->Gp->VK3->Prop:=fun xs G Q=>∃p d,xs=[.ref p]/\RdG G (.ref p) d/\d.showable=true/\d.depth<=50/\d.hasDict=false/\d.shown.length<=sizeLine/\Q (.str d.shown) G
theorem qVf (hc:X.calm=true) (hu:X.A.units+64<cLine):Call3 X (.builtin "repr") jYr:=by
 rintro pins s τ G H xs us Q ⟨σ,I,hs,hg⟩ ⟨as,ras,rvs⟩ ⟨p,d,ex,hr,hsh,hd,hdict,hz,q⟩
 subst ex
 obtain⟨v,rfl,rv⟩:=jVl ras
 obtain⟨u,rfl,ru⟩:=rvs.one
 obtain⟨bs,rd⟩:=qK5 I hg hr rv ru
 cases (show v= .ref p from rv);cases ru
 refine repr_of_reads' rd hsh (fun z=>by rw[hdict] at z;cases z) (I.ok.gd hc) (by omega) (fun _ _ e=>e) (fun h' u tk hk=> ?_) hz
 exact⟨.str _,G,H,.refl H,⟨σ,I.kept hk,hs,hg⟩,⟨.str _,rfl,⟨u,rfl⟩⟩,q⟩
end
end L3
namespace L3
open PySem
def itr {α:Type} (f:α->α):Nat->α->α
 | 0,a=>a
 | n+1,a=>itr f n (f a)
theorem jK6 {α:Type} (f:α->α):∀(m n:Nat) (a:α),itr f (m+n) a=itr f n (itr f m a)
 | 0,n,a=>by rw[Nat.zero_add];rfl
 | m+1,n,a=>by rw[Nat.add_right_comm];exact jK6 f m n (f a)
theorem jX3 {α:Type} (f:α->α) (n:Nat) (a:α):itr f (n+1) a=f (itr f n a):=jK6 f n 1 a
namespace St
open SetTable
theorem getD_at {xs:Array Nat} {k d:Nat} (h:k<xs.size):xs.getD k d=xs[k]:=by simp[Array.getD,h]
theorem uKt (xs:Array Nat) (j:Nat) (hs:∀a b:Nat,a<b->∀(hb:b<xs.size),xs.getD a 0<xs[b]):∀(fuel lo hi:Nat),hi<=xs.size->lo<=hi->hi-lo<=fuel->(∀k,k<lo->xs.getD k 0<j)->(∀k (h:k<xs.size),hi<=k->j<=xs[k])->
  (below.go xs j fuel lo hi)<=xs.size/\(∀k,k<below.go xs j fuel lo hi->xs.getD k 0<j)/\(∀k (h:k<xs.size),below.go xs j fuel lo hi<=k->j<=xs[k])
 | 0,lo,hi,h1,h2,h3,h4,h5=>by
  have e:hi=lo:=by omega
  subst e
  exact⟨h1,h4,h5⟩
 | fuel+1,lo,hi,h1,h2,h3,h4,h5=>by
  unfold below.go
  by_cases c:lo<hi
  ·rw[lJc c]
   have hm:(lo+hi) / 2<xs.size:=by omega
   by_cases d:xs.getD ((lo+hi) / 2) j<j
   ·simp only[d,lJ2]
    refine uKt xs j hs fuel _ hi h1 (by omega) (by omega) (fun k hk=> ?_) h5
    rw[getD_at hm] at d
    by_cases e:k=(lo+hi) / 2
    ·subst e;rw[getD_at hm];exact d
    ·exact Nat.lt_trans (hs k _ (by omega) hm) d
   ·simp only[d,lJt]
    refine uKt xs j hs fuel lo _ (by omega) (by omega) (by omega) h4 fun k h hk=> ?_
    rw[getD_at hm] at d
    by_cases e:k=(lo+hi) / 2
    ·subst e;omega
    ·have:=hs ((lo+hi) / 2) k (by omega) h
     rw[getD_at hm] at this
     omega
  ·rw[lJb c]
   have e:hi=lo:=by omega
   subst e
   exact⟨h1,h4,h5⟩
def Ris (xs:Array Nat):Prop:=xs.toList.Pairwise (· < ·)
theorem Ris.lt {xs:Array Nat} (h:Ris xs) (a b:Nat) (hab:a<b) (hb:b<xs.size):xs.getD a 0<xs[b]:=by
 rw[getD_at (by omega)]
 have:=lX2.mp h a b (by simpa using (by omega:a<xs.size)) (by simpa using hb) hab
 simpa using this
theorem jZm {xs:Array Nat} (h:Ris xs) (j:Nat):below xs j<=xs.size/\(∀k,k<below xs j->xs.getD k 0<j)/\(∀k (h:k<xs.size),below xs j<=k->j<=xs[k]):=
 uKt xs j h.lt xs.size 0 xs.size (lJh _) (lJs _) (lJh _) (fun k hk=>absurd hk (lKx _)) fun k h1 h2=>absurd h1 (by omega)
theorem kZq {xs:Array Nat} (h:Ris xs) {i:Nat} (hi:i<xs.size):below xs xs[i]=i:=by
 obtain⟨h1,h2,h3⟩:=jZm h xs[i]
 rcases lQt (below xs xs[i]) i with c | c | c
 ·have a:=h3 (below xs xs[i]) (by omega) (lJh _)
  have b:=h.lt _ i c hi
  rw[getD_at (by omega)] at b
  omega
 ·exact c
 ·have:=h2 i c
  rw[getD_at hi] at this
  omega
theorem below_next {xs:Array Nat} (h:Ris xs) {i:Nat} (hi:i<xs.size):below xs (xs[i]+1)=i+1:=by
 obtain⟨h1,h2,h3⟩:=jZm h (xs[i]+1)
 rcases lQt (below xs (xs[i]+1)) (i+1) with c | c | c
 ·have:=h3 i hi (by omega)
  omega
 ·exact c
 ·have a:=h2 (i+1) c
  have hi1:i+1<xs.size:=by omega
  rw[getD_at hi1] at a
  have b:=h.lt i (i+1) (by omega) hi1
  rw[getD_at hi] at b
  omega
theorem below_zero {xs:Array Nat} (h:Ris xs):below xs 0=0:=by
 obtain⟨h1,h2,h3⟩:=jZm h 0
 rcases Nat.eq_zero_or_pos (below xs 0) with c | c
 ·exact c
 ·exact absurd (h2 0 c) (lKx _)
theorem insertAt_ris {xs:Array Nat} (h:Ris xs) {j:Nat} (hj:j∉xs.toList):Ris (insertAt xs (below xs j) j):=by
 obtain⟨h1,h2,h3⟩:=jZm h j
 unfold Ris
 rw[SetTable.toList_insertAt,List.pairwise_append,lVv]
 have up:∀b,b∈xs.toList.drop (below xs j)->j<b:=by
  intro b hb
  obtain⟨k,hk,e⟩:=lQ4 hb
  rw[List.length_drop] at hk
  rw[List.getElem_drop] at e
  have hk':below xs j+k<xs.size:=by simp at hk;omega
  have:=h3 _ hk' (by omega)
  have e':xs[below xs j+k]=b:=by simpa using e
  have ne:b≠j:=fun z=>hj (z▸List.mem_of_mem_drop hb)
  omega
 have dn:∀a,a∈xs.toList.take (below xs j)->a<j:=by
  intro a ha
  obtain⟨k,hk,e⟩:=lQ4 ha
  rw[lQd] at hk
  rw[List.getElem_take] at e
  have:=h2 k (by omega)
  rw[getD_at (by simp at hk;omega)] at this
  have e':xs[k]'(by simp at hk;omega)=a:=by simpa using e
  omega
 refine⟨List.Pairwise.sublist (List.take_sublist _ _) h,⟨up,List.Pairwise.sublist (List.drop_sublist _ _) h⟩,?_⟩
 intro a ha b hb
 (rcases lJl.mp hb with rfl | hb)
 ·exact dn a ha
 ·exact Nat.lt_trans (dn a ha) (up b hb)
theorem has_nil (j:Nat):has #[] j=false:=rfl
theorem slot_cases {t:SetTable} (hd:t.dummies= #[]) (j:Nat):(t.slot j= .empty/\(Ris t.place->j∉t.place.toList))\/∃i,t.slot j= .live i/\∃h:i<t.place.size,t.place[i]=j/\i=below t.place j:=by
 unfold SetTable.slot
 by_cases c:(t.place[below t.place j]? == some j)=true
 ·right
  refine⟨below t.place j,?_,?_⟩
  ·simp only[c,lJ2]
  ·have c':=eq_of_beq c
   obtain⟨h,e⟩:=Array.getElem?_eq_some_iff.mp c'
   exact⟨h,e,rfl⟩
 ·left
  refine⟨?_,fun hr hm=> ?_⟩
  ·rw[hd]
   simp only[c,has_nil,lKq,lJt]
  ·obtain⟨k,hk,e⟩:=lQ4 hm
   have hk':k<t.place.size:=by simpa using hk
   have e':t.place[k]=j:=by simpa using e
   apply c
   rw[<-e',kZq hr hk',lQi hk']
   exact beq_self_eq_true _
theorem slot_empty {t:SetTable} (hd:t.dummies= #[]) {j:Nat} (h:j∉t.place.toList):t.slot j= .empty:=by
 rcases slot_cases hd j with c | ⟨i,_,hi,e,_⟩
 ·exact c.1
 ·exact absurd (by rw[<-e];simp) h
theorem slot_live {t:SetTable} (hr:Ris t.place) {i:Nat} (hi:i<t.place.size):t.slot t.place[i]= .live i:=by
 unfold SetTable.slot
 rw[kZq hr hi]
 simp[hi]
theorem qKw (mask i:Nat):runEnd mask i-i<=9:=by unfold runEnd;split<;>omega
def kKz (t:SetTable) (p:Probe):Prop:=p.j=p.i/\p.more=runEnd t.mask p.i-p.i
theorem jZp (t:SetTable):∀(m:Nat) (p:Probe),m<=p.more->itr t.advance m p={p with j:=p.j+m,more:=p.more-m}
 | 0,p,_=>by cases p;rfl
 | m+1,p,h=>by
  show itr t.advance m (t.advance p)=_
  have e:t.advance p={p with j:=p.j+1,more:=p.more-1}:=by unfold SetTable.advance;rw[lJc (by omega)]
  rw[e,jZp t m _ (by show m<=p.more-1;omega)]
  simp only[Probe.mk.injEq,and_true,true_and]
  omega
theorem qY8 (t:SetTable) (p:Probe):∃m,m<=p.more+1/\kKz t (itr t.advance m p)/\(itr t.advance m p).i=(leap t.mask p.i p.perturb).1/\(itr t.advance m p).perturb=p.perturb / 32:=by
 refine⟨p.more+1,lJh _,?_⟩
 rw[jX3,jZp t p.more p (lJh _)]
 unfold SetTable.advance
 rw[lJb (by show ¬ p.more-p.more>0;omega)]
 exact⟨⟨rfl,rfl⟩,rfl,rfl⟩
def lp (mask:Nat) (x:Nat×Nat):Nat×Nat:=leap mask x.1 x.2
theorem kJz (t:SetTable):∀(k:Nat) (p:Probe),kKz t p->∃m,m<=10*k/\kKz t (itr t.advance m p)/\((itr t.advance m p).i,(itr t.advance m p).perturb)=itr (lp t.mask) k (p.i,p.perturb)
 | 0,p,h=>⟨0,lJh _,h,rfl⟩
 | k+1,p,h=>by
  obtain⟨m,h1,h2,h3,h4⟩:=qY8 t p
  obtain⟨m',h1',h2',h3'⟩:=kJz t k _ h2
  have hm:p.more<=9:=by rw[h.2];exact qKw _ _
  refine⟨m+m',by omega,?_,?_⟩
  ·rw[jK6];exact h2'
  ·rw[jK6,h3',h3,h4];rfl
theorem kXv (mask:Nat):∀(k:Nat) (x:Nat×Nat),(itr (lp mask) k x).2=x.2 / 32^k
 | 0,x=>by simp[itr]
 | k+1,x=>by
  show (itr (lp mask) k (lp mask x)).2=_
  rw[kXv mask k]
  show x.2 / 32 / 32^k=_
  rw[Nat.div_div_eq_div_mul,Nat.pow_succ,lQz]
def five (mask i:Nat):Nat:=(i*5+1)%(mask+1)
theorem kXw (mask:Nat):∀(k i:Nat),itr (lp mask) k (i,0)=(itr (five mask) k i,0)
 | 0,i=>rfl
 | k+1,i=>by
  show itr (lp mask) k (lp mask (i,0))=_
  have e:lp mask (i,0)=(five mask i,0):=by simp[lp,leap,five]
  rw[e];exact kXw mask k _
def orb (mask:Nat):Nat->Nat->List Nat
 | 0,_=>[]
 | n+1,i=>i::orb mask n (five mask i)
theorem qQq (mask:Nat):∀(n i k:Nat),k<n->(orb mask n i)[k]? =some (itr (five mask) k i)
 | n+1,i,0,_=>rfl
 | n+1,i,k+1,h=>by
  show (orb mask n (five mask i))[k]? =_
  exact qQq mask n _ k (by omega)
theorem kXm (mask:Nat):∀(n i:Nat),(orb mask n i).length=n
 | 0,_=>rfl
 | n+1,i=>by simp[orb,kXm mask n]
theorem qQp {mask n i j:Nat} (h:j∈orb mask n i):∃k,k<n/\itr (five mask) k i=j:=by
 obtain⟨k,hk,e⟩:=lQ4 h
 rw[kXm] at hk
 refine⟨k,hk,?_⟩
 have:=qQq mask n i k hk
 rw[lJg (by rw[kXm];exact hk),e] at this
 (exact (lJ7 this).symm)
def Full (mask:Nat):Prop:=(∀j,j<=mask->∃k,k<=mask/\itr (five mask) k 0=j)/\itr (five mask) (mask+1) 0=0
theorem kX0 {mask:Nat} (h:(List.range (mask+1)).all (fun j=>(orb mask (mask+1) 0).contains j)=true) (h0:itr (five mask) (mask+1) 0=0):Full mask:=by
 refine⟨fun j hj=> ?_,h0⟩
 rw[lQ0] at h
 have:=h j (lJy.mpr (by omega))
 obtain⟨k,hk,e⟩:=qQp (List.contains_iff_mem.mp this)
 exact⟨k,by omega,e⟩
theorem full7:Full 7:=kX0 (by decide +kernel) (by decide +kernel)
theorem full31:Full 31:=kX0 (by decide +kernel) (by decide +kernel)
theorem full127:Full 127:=kX0 (by decide +kernel) (by decide +kernel)
def bts (mask:Nat):Nat->Nat->Nat->Nat
 | 0,_,acc=>acc
 | n+1,i,acc=>bts mask n (five mask i) (acc ||| 2^i)
theorem qVh {mask j:Nat}:∀ {n i acc:Nat},(bts mask n i acc).testBit j=true->acc.testBit j=true\/j∈orb mask n i
 | 0,i,acc,h=> .inl h
 | n+1,i,acc,h=>by
  rcases qVh (n:=n) h with h | h
  ·rw[Nat.testBit_or,Bool.or_eq_true] at h
   rcases h with h | h
   ·exact .inl h
   ·rw[Nat.testBit_two_pow] at h
    exact .inr (by rw[show j=i from (lXy h).symm];exact lJu ..)
  ·exact .inr (lJx _ h)
theorem kZc {mask:Nat} (h:bts mask (mask+1) 0 0=2^(mask+1)-1) (h0:itr (five mask) (mask+1) 0=0):Full mask:=by
 refine⟨fun j hj=> ?_,h0⟩
 have hb:(bts mask (mask+1) 0 0).testBit j=true:=by rw[h,Nat.testBit_two_pow_sub_one];exact lKa (by omega)
 rcases qVh hb with z | z
 ·rw[Nat.zero_testBit] at z;cases z
 ·obtain⟨k,hk,e⟩:=qQp z
  exact⟨k,by omega,e⟩
theorem full511:Full 511:=kZc (by decide +kernel) (by decide +kernel)
theorem full2047:Full 2047:=kZc (by decide +kernel) (by decide +kernel)
theorem Full.all {mask:Nat} (h:Full mask) {i j:Nat} (hi:i<=mask) (hj:j<=mask):∃k,k<=mask/\itr (five mask) k i=j:=by
 obtain⟨a,ha,ea⟩:=h.1 i hi
 obtain⟨b,hb,eb⟩:=h.1 j hj
 by_cases c:a<=b
 ·refine⟨b-a,by omega,?_⟩
  rw[<-ea,<-jK6,show a+(b-a)=b by omega,eb]
 ·refine⟨mask+1-a+b,by omega,?_⟩
  rw[<-ea,<-jK6,show a+(mask+1-a+b)=mask+1+b by omega,jK6,h.2,eb]
theorem qVi (h:Int):bits h<2^64:=by
 unfold bits
 have h1:=lVg h (show (2^64:Int)≠0 by decide)
 have h2:=lVh h (show (0:Int)<2^64 by decide)
 omega
theorem kKg (t:SetTable) (h:Int):kKz t (t.probeStart h):=⟨rfl,rfl⟩
theorem met {t:SetTable} (hf:Full t.mask) (h:Int) {j:Nat} (hj:j<=t.mask):∃n,n<=10*(t.mask+14)/\(itr t.advance n (t.probeStart h)).j=j:=by
 obtain⟨m,h1,h2,h3⟩:=kJz t 13 _ (kKg t h)
 have hp:(itr t.advance m (t.probeStart h)).perturb=0:=by
  have e:=lJ5 Prod.snd h3
  rw[kXv] at e
  refine e.trans (lXe (lKb (qVi h) (by decide)))
 have hi:(itr t.advance m (t.probeStart h)).i<=t.mask:=by
  have e:=lJ5 Prod.fst h3
  rw[jX3] at e
  have:(lp t.mask (itr (lp t.mask) 12 ((t.probeStart h).i,(t.probeStart h).perturb))).1<=t.mask:=by
   unfold lp leap
   exact lVw (lK7 _ (lVu _))
  rw[<-e] at this
  exact this
 obtain⟨k,hk,ek⟩:=hf.all hi hj
 obtain⟨m',h1',h2',h3'⟩:=kJz t k _ h2
 refine⟨m+m',by omega,?_⟩
 rw[jK6,h2'.1]
 rw[hp,kXw] at h3'
 exact (lJ5 Prod.fst h3').trans ek
theorem adv_dummy (t:SetTable) (p:Probe):(t.advance p).dummy=p.dummy:=by unfold SetTable.advance;split<;>rfl
def Miss (t:SetTable) (hashAt:Nat->Int) (h:Int) (j:Nat):Prop:=∃i,t.slot j= .live i/\hashAt i≠h
theorem pgo_ok {t:SetTable} (hd:t.dummies= #[]) (hashAt:Nat->Int) (h:Int):∀(n fuel:Nat) (p:Probe),t.slot (itr t.advance n p).j= .empty->n<fuel->p.dummy=none->
  (∃m,m<=n/\t.slot (itr t.advance m p).j= .empty/\(∀k,k<m->Miss t hashAt h (itr t.advance k p).j)/\probe.go t hashAt h fuel p=some (.empty (itr t.advance m p).j none))\/
  (∃m i,m<n/\t.slot (itr t.advance m p).j= .live i/\hashAt i=h/\(∀k,k<m->Miss t hashAt h (itr t.advance k p).j)/\probe.go t hashAt h fuel p=some (.candidate (itr t.advance m p).j i (itr t.advance (m+1) p)))
 | n,0,p,_,hn,_=>absurd hn (lKx _)
 | n,fuel+1,p,he,hn,hp=>by
  rcases slot_cases hd p.j with ⟨c,_⟩ | ⟨i,c,_⟩
  ·left
   refine⟨0,lJs _,c,fun k hk=>absurd hk (lKx _),?_⟩
   unfold probe.go
   rw[c,hp];rfl
  ·by_cases q:hashAt i=h
   ·right
    have n0:n≠0:=by rintro rfl;rw[show itr t.advance 0 p=p from rfl,c] at he;cases he
    refine⟨0,i,by omega,c,q,fun k hk=>absurd hk (lKx _),?_⟩
    unfold probe.go
    simp only[c,q,beq_self_eq_true,lJ2]
    rfl
   ·have n0:n≠0:=by rintro rfl;rw[show itr t.advance 0 p=p from rfl,c] at he;cases he
    obtain⟨n',rfl⟩:∃n',n=n'+1:=⟨n-1,by omega⟩
    have e:probe.go t hashAt h (fuel+1) p=probe.go t hashAt h fuel (t.advance p):=by
     conv=>lhs;unfold probe.go
     have q':(hashAt i == h)=false:=by simpa using q
     simp only[c,q',lKq,lJt]
    have ih:=pgo_ok hd hashAt h n' fuel (t.advance p) he (by omega) (by rw[adv_dummy];exact hp)
    rw[e]
    rcases ih with ⟨m,h1,h2,h3,h4⟩ | ⟨m,i',h1,h2,h3,h4,h5⟩
    ·left
     refine⟨m+1,by omega,h2,fun k hk=> ?_,h4⟩
     cases k with
     | zero=>exact⟨i,c,q⟩
     | succ k=>exact h3 k (by omega)
    ·right
     refine⟨m+1,i',by omega,h2,h3,fun k hk=> ?_,h5⟩
     cases k with
     | zero=>exact⟨i,c,q⟩
     | succ k=>exact h4 k (by omega)
end St
end L3
namespace L3
open PySem
namespace St
open SetTable
theorem fm_congr {α β:Type} {f g:α->Option β}:∀ {l:List α},(∀x,x∈l->f x=g x)->l.filterMap f=l.filterMap g
 | [],_=>rfl
 | a::l,h=>by rw[lQo,lQo,h a (lJu ..),fm_congr fun x hx=>h x (lJx _ hx)]
theorem jX4 {g f:Nat->Option Nat} {j k:Nat} (hf:f j=none) (hg:g j=some k) (he:∀i,i≠j->g i=f i):∀ {l:List Nat},l.Nodup->j∈l->(l.filterMap g).Perm (k::l.filterMap f)
 | [],_,h=>absurd h (lKd)
 | a::l,hn,h=>by
  rw[lKz] at hn
  by_cases e:a=j
  ·subst e
   rw[lVx hg,lX3 hf]
   refine List.Perm.cons _ (List.Perm.of_eq (fm_congr fun x hx=>he x ?_))
   rintro rfl;exact hn.1 hx
  ·have ih:=jX4 hf hg he hn.2 ((lJl.mp h).resolve_left (fun z=>e z.symm))
   cases q:f a with
   | none=>rw[lX3 (by rw[he a e];exact q),lX3 q];exact ih
   | some b=>
    rw[lVx (by rw[he a e];exact q),lVx q]
    exact (List.Perm.cons b ih).trans (List.Perm.swap _ _ _)
def jQf (owner:Array (Option Nat)) (j:Nat):Option Nat:=owner.getD j none
def ChainO (t:SetTable) (owner:Array (Option Nat)) (h:Int) (j:Nat):Prop:=∃n,(itr t.advance n (t.probeStart h)).j=j/\∀k,k<n->jQf owner (itr t.advance k (t.probeStart h)).j≠none
structure Own (t:SetTable) (hashes:List Int) (owner:Array (Option Nat)) (n:Nat):Prop where
 size:owner.size=t.mask+1
 perm:((List.range (t.mask+1)).filterMap (jQf owner)).Perm (List.range n)
 chain:∀j i,jQf owner j=some i->∃h,hashes[i]? =some h/\ChainO t owner h j
theorem uJ9 {mask:Nat} {x:Nat×Nat} (hx:x.1<=mask):∀(k:Nat),(itr (lp mask) k x).1<=mask
 | 0=>hx
 | k+1=>by
  rw[jX3]
  unfold lp leap
  exact lVw (lK7 _ (lVu _))
theorem kV8 {mask i:Nat} (h:i<=mask):runEnd mask i<=mask:=by unfold runEnd;split<;>omega
theorem qKx (mask i:Nat):i<=runEnd mask i:=by unfold runEnd;split<;>omega
theorem qUn {t:SetTable} {owner:Array (Option Nat)} (hz:owner.size=t.mask+1):∀(fuel:Nat) (p:Probe),kKz t p->p.i<=t.mask->∀K,K<fuel->jQf owner (itr (lp t.mask) K (p.i,p.perturb)).1=none->
  ∃n j,layClean.free t.mask owner fuel p.i p.perturb=some j/\(itr t.advance n p).j=j/\j<=t.mask/\jQf owner j=none/\∀k,k<n->jQf owner (itr t.advance k p).j≠none
 | 0,p,_,_,K,hK,_=>absurd hK (lKx _)
 | fuel+1,p,hl,hi,K,hK,he=>by
  have hr:=kV8 hi
  have hg:=qKx t.mask p.i
  have sl:∀k,k<runEnd t.mask p.i+1-p.i->((owner.getD (p.i+k) (some 0)).isNone=true↔jQf owner (p.i+k)=none):=by
   intro k hk
   unfold jQf
   have:p.i+k<owner.size:=by omega
   simp[Array.getD,this]
  have pj:∀k,k<runEnd t.mask p.i+1-p.i->(itr t.advance k p).j=p.i+k:=by
   intro k hk
   rw[jZp t k p (by rw[hl.2];omega)]
   show p.j+k=_
   rw[hl.1]
  unfold layClean.free
  cases q:(List.range (runEnd t.mask p.i+1-p.i)).find? (fun k=>(owner.getD (p.i+k) (some 0)).isNone) with
  | some k=>
   obtain⟨h1,as,bs,h2,h3⟩:=List.find?_eq_some_iff_append.mp q
   have hk:k<runEnd t.mask p.i+1-p.i:=by
    have:k∈List.range (runEnd t.mask p.i+1-p.i):=by rw[h2];simp
    exact lJy.mp this
   have ha:∀x,x<k->x∈as:=by
    intro x hx
    have e:as.length=k:=by
     have e1:(List.range (runEnd t.mask p.i+1-p.i))[as.length]? =some k:=by rw[h2];simp
     rw[lQ5 (by have:=lJ5 List.length h2;simp at this;omega)] at e1
     exact lJ7 e1
    have e2:(List.range (runEnd t.mask p.i+1-p.i))[x]? =as[x]? :=by rw[h2,lKr (by omega)]
    rw[lQ5 (by omega)] at e2
    exact lJi e2.symm
   refine⟨k,p.i+k,rfl,pj k hk,by omega,(sl k hk).mp h1,fun x hx=> ?_⟩
   rw[pj x (by omega)]
   intro z
   have:=h3 x (ha x hx)
   rw[(sl x (by omega)).mpr z] at this
   exact absurd this (by decide)
  | none=>
   have none_:∀k,k<runEnd t.mask p.i+1-p.i->jQf owner (p.i+k)≠none:=by
    intro k hk z
    have:=List.find?_eq_none.mp q k (lJy.mpr hk)
    exact this ((sl k hk).mpr z)
   have K0:K≠0:=by
    rintro rfl
    exact none_ 0 (by omega) he
   obtain⟨K',rfl⟩:∃K',K=K'+1:=⟨K-1,by omega⟩
   have hm:p.more=runEnd t.mask p.i-p.i:=hl.2
   have e1:itr t.advance (p.more+1) p={p with j:=(leap t.mask p.i p.perturb).1,more:=runEnd t.mask (leap t.mask p.i p.perturb).1-(leap t.mask p.i p.perturb).1,i:=(leap t.mask p.i p.perturb).1,perturb:=(leap t.mask p.i p.perturb).2}:=by
    rw[jX3,jZp t p.more p (lJh _)]
    unfold SetTable.advance
    rw[lJb (by show ¬ p.more-p.more>0;omega)]
   have hl2:kKz t (itr t.advance (p.more+1) p):=by rw[e1];exact⟨rfl,rfl⟩
   have hi2:(itr t.advance (p.more+1) p).i<=t.mask:=by
    rw[e1];exact lVw (lK7 _ (lVu _))
   obtain⟨n,j,g1,g2,g3,g4,g5⟩:=qUn hz fuel _ hl2 hi2 K' (by omega) (by rw[e1];exact he)
   refine⟨p.more+1+n,j,?_,?_,g3,g4,fun k hk=> ?_⟩
   ·rw[e1] at g1;exact g1
   ·rw[jK6];exact g2
   ·by_cases c:k<p.more+1
    ·rw[pj k (by omega)];exact none_ k (by omega)
    ·have:=g5 (k-(p.more+1)) (by omega)
     rw[<-jK6,show p.more+1+(k-(p.more+1))=k by omega] at this
     exact this
theorem jXs {owner:Array (Option Nat)} {j k:Nat} (hj:j<owner.size) (i:Nat):jQf (owner.setIfInBounds j (some k)) i=if i=j then some k else jQf owner i:=by
 unfold jQf
 rw[lVi,lVi,Array.getElem?_setIfInBounds]
 by_cases e:j=i
 ·subst e;simp[hj]
 ·rw[lJb e,lJb (fun z=>e z.symm)]
theorem qUl {t:SetTable} (hf:Full t.mask) {owner:Array (Option Nat)} {hashes:List Int} {n:Nat} (o:Own t hashes owner n) (hn:n<=t.mask) (h:Int):∃K,K<turns t.mask/\jQf owner (itr (lp t.mask) K ((t.probeStart h).i,(t.probeStart h).perturb)).1=none:=by
 have hex:∃j,j<=t.mask/\jQf owner j=none:=by
  apply lKv
  intro q
  have all:∀j,j∈List.range (t.mask+1)->(jQf owner j).isSome=true:=by
   intro j hj
   cases e:jQf owner j with
   | none=>exact absurd ⟨j,by have:=lJy.mp hj;omega,e⟩ q
   | some _=>rfl
  have len:∀l:List Nat,(∀j,j∈l->(jQf owner j).isSome=true)->(l.filterMap (jQf owner)).length=l.length:=by
   intro l hl
   induction l with
   | nil=>rfl
   | cons a l ih=>
    obtain⟨b,hb⟩:=lXm.mp (hl a (lJu ..))
    rw[lVx hb,lJz,lJz,ih fun j hj=>hl j (lJx _ hj)]
  have:=o.perm.length_eq
  rw[len _ all,lK8,lK8] at this
  omega
 obtain⟨j,hj,e⟩:=hex
 have hs:(t.probeStart h).i<=t.mask:=lVw (lK7 _ (lVu _))
 have h13:=kXv t.mask 13 ((t.probeStart h).i,(t.probeStart h).perturb)
 have z:(t.probeStart h).perturb / 32^13=0:=lXe (lKb (qVi h) (by decide))
 obtain⟨k,hk,ek⟩:=hf.all (uJ9 (x:=((t.probeStart h).i,(t.probeStart h).perturb)) hs 13) hj
 refine⟨13+k,by unfold turns;omega,?_⟩
 rw[jK6]
 generalize hy:itr (lp t.mask) 13 ((t.probeStart h).i,(t.probeStart h).perturb)=y at h13 ek
 obtain⟨y1,y2⟩:=y
 have y0:y2=0:=h13.trans z
 subst y0
 rw[kXw,ek]
 exact e
theorem qXq {t:SetTable} (hf:Full t.mask) {owner:Array (Option Nat)} {hashes:List Int} {n:Nat} {h:Int} (o:Own t hashes owner n) (hn:n<t.mask+1) (hh:hashes[n]? =some h) (hn':n<=t.mask):
  ∃j,layClean.free t.mask owner (turns t.mask) (bits h%(t.mask+1)) (bits h)=some j/\Own t hashes (owner.setIfInBounds j (some n)) (n+1):=by
 obtain⟨K,hK,eK⟩:=qUl hf o hn' h
 have hs:(t.probeStart h).i<=t.mask:=lVw (lK7 _ (lVu _))
 obtain⟨m,j,g1,g2,g3,g4,g5⟩:=qUn o.size (turns t.mask) (t.probeStart h) (kKg t h) hs K hK eK
 have hj:j<owner.size:=by rw[o.size];omega
 have grow:∀i,jQf owner i≠none->jQf (owner.setIfInBounds j (some n)) i≠none:=by
  intro i hi
  rw[jXs hj]
  split
  ·simp
  ·exact hi
 refine⟨j,g1,by rw[Array.size_setIfInBounds];exact o.size,?_,?_⟩
 ·refine (jX4 (f:=jQf owner) (j:=j) (k:=n) g4 (by rw[jXs hj,lJc rfl]) (fun i hi=>by rw[jXs hj,lJb hi]) (lXf) (lJy.mpr (by omega))).trans ?_
  rw[lQj (n:=n)]
  exact (List.Perm.cons n o.perm).trans (List.perm_append_singleton n _).symm
 ·intro i x hx
  rw[jXs hj] at hx
  by_cases e:i=j
  ·subst e
   rw[lJc rfl] at hx;cases hx
   exact⟨h,hh,m,g2,fun k hk=>grow _ (g5 k hk)⟩
  ·rw[lJb e] at hx
   obtain⟨h',e1,n',e2,e3⟩:=o.chain i x hx
   exact⟨h',e1,n',e2,fun k hk=>grow _ (e3 k hk)⟩
theorem qQo (t:SetTable) (hashes:List Int):Own t hashes (Array.replicate (t.mask+1) none) 0:=by
 have z:∀j,jQf (Array.replicate (t.mask+1) none) j=none:=by
  intro j
  unfold jQf
  rw[lVi,Array.getElem?_replicate]
  split<;>rfl
 refine⟨by simp,?_,fun j i h=>by rw[z] at h;cases h⟩
 have:(List.range (t.mask+1)).filterMap (jQf (Array.replicate (t.mask+1) none))=[]:=by
  rw[List.filterMap_eq_nil_iff];intro j _;exact z j
 rw[this];exact List.Perm.nil
theorem qUo {t:SetTable} (hf:Full t.mask) (all:List Int) (hn:all.length<=t.mask):∀(l:List Int) (done:List Int) (owner:Array (Option Nat)),all=done++l->Own t all owner done.length->
  ∃owner',l.foldl (fun (acc:Option (Array (Option Nat)×Nat)) h=>do
   let (owner,k) <-acc
   let j <-layClean.free t.mask owner (turns t.mask) (bits h%(t.mask+1)) (bits h)
   pure (owner.setIfInBounds j (some k),k+1)) (some (owner,done.length))=some (owner',all.length)/\Own t all owner' all.length
 | [],done,owner,e,o=>by
  rw[lQn] at e;subst e
  exact⟨owner,rfl,o⟩
 | h::l,done,owner,e,o=>by
  have hlt:done.length<all.length:=by rw[e];simp
  obtain⟨j,h1,o'⟩:=qXq (h:=h) hf o (by omega) (by rw[e];simp) (by omega)
  have e':all=(done++[h])++l:=by rw[e];simp
  obtain⟨owner',h2,h3⟩:=qUo hf all hn l (done++[h]) _ e' (by simpa using o')
  refine⟨owner',?_,h3⟩
  rw[lQx]
  have:(do
   let (owner,k) <-some (owner,done.length)
   let j <-layClean.free t.mask owner (turns t.mask) (bits h%(t.mask+1)) (bits h)
   pure (owner.setIfInBounds j (some k),k+1))=some (owner.setIfInBounds j (some done.length),done.length+1):=by
   show (layClean.free t.mask owner (turns t.mask) (bits h%(t.mask+1)) (bits h)).bind _=_
   rw[h1];rfl
  rw[this]
  simpa using h2
theorem kXy {t:SetTable} (hf:Full t.mask) (hashes:Array Int) (hn:hashes.size<=t.mask):∃owner,layClean t.mask hashes=some owner/\Own t hashes.toList owner hashes.size:=by
 obtain⟨owner,h1,h2⟩:=qUo hf hashes.toList (by simpa using hn) hashes.toList [] _ rfl (qQo t _)
 refine⟨owner,?_,by simpa using h2⟩
 unfold layClean
 rw[<-Array.foldl_toList]
 have h1':=h1
 simp only[lK3] at h1'
 rw[h1'];rfl
def Chain (t:SetTable) (h:Int) (j:Nat):Prop:=∃n,(itr t.advance n (t.probeStart h)).j=j/\∀k,k<n->(itr t.advance k (t.probeStart h)).j∈t.place.toList
structure Good (t:SetTable) (hs:List Int):Prop where
 len:t.place.size=hs.length
 ris:Ris t.place
 dum:t.dummies= #[]
 chain:∀x,x∈t.place.toList.zip hs->Chain t x.2 x.1
theorem laid_ok {mask:Nat} (hf:Full mask) (finger moves:Nat) (led plain:Bool) (hashes:Array Int) (hn:hashes.size<=mask):
  ∃t order,laid mask finger moves led plain hashes=some (t,order)/\t.mask=mask/\t.led=led/\t.plain=plain/\order.toList.Perm (List.range hashes.size)/\Good t (order.toList.filterMap (hashes[·]?)):=by
 let t0:SetTable:={mask:=mask,place:= #[],dummies:= #[],finger:=finger,led:=led,moves:=moves,plain:=plain}
 obtain⟨owner,h1,o⟩:=kXy (t:=t0) hf hashes hn
 have hl:layClean mask hashes=some owner:=h1
 let live:=(List.range (mask+1)).filterMap fun j=>((owner.getD j none).map (j,·))
 refine⟨{mask:=mask,place:=(live.map (·.1)).toArray,dummies:= #[],finger:=finger,led:=led,moves:=moves,plain:=plain},(live.map (·.2)).toArray,?_,rfl,rfl,rfl,?_,?_⟩
 ·unfold laid
  rw[hl];rfl
 ·have e:live.map (·.2)=(List.range (mask+1)).filterMap (jQf owner):=by
   show ((List.range (mask+1)).filterMap fun j=>(owner.getD j none).map (j,·)).map (·.2)=_
   rw[List.map_filterMap]
   refine fm_congr fun j _=> ?_
   unfold jQf
   cases owner.getD j none<;>rfl
  show (live.map (·.2)).Perm _
  rw[e];exact o.perm
 ·have live_mem:∀j k,(j,k)∈live->jQf owner j=some k/\j<=mask:=by
   intro j k hm
   obtain⟨j',hj',e⟩:=lVe.mp hm
   obtain⟨k',e1,e2⟩:=lKg.mp e
   cases e2
   exact⟨e1,by have:=lJy.mp hj';omega⟩
  have mem_place:∀j,j∈live.map (·.1)↔jQf owner j≠none/\j<=mask:=by
   intro j
   constructor
   ·intro hm
    obtain⟨⟨j',k⟩,h2,rfl⟩:=lJk.mp hm
    obtain⟨h3,h4⟩:=live_mem _ _ h2
    exact⟨by rw[h3];simp,h4⟩
   ·rintro⟨h2,h3⟩
    obtain⟨k,hk⟩:=Option.ne_none_iff_exists'.mp h2
    refine lJk.mpr ⟨(j,k),lVe.mpr ⟨j,lJy.mpr (by omega),?_⟩,rfl⟩
    show (jQf owner j).map _=_
    rw[hk];rfl
  have hin:∀k,k∈live.map (·.2)->k<hashes.size:=by
   intro k hk
   obtain⟨⟨j,k'⟩,h2,rfl⟩:=lJk.mp hk
   obtain⟨h',e1,_⟩:=o.chain j k' (live_mem _ _ h2).1
   have:=(lJe.mp e1).1
   simpa using this
  have fm:∀l:List Nat,(∀k,k∈l->k<hashes.size)->∀i:Nat,(l.filterMap (hashes[·]?)).length=l.length/\(l.filterMap (hashes[·]?))[i]? =(l[i]?).bind (hashes[·]?):=by
   intro l
   induction l with
   | nil=>intro _ i;exact⟨rfl,by simp⟩
   | cons a l ih=>
    intro hl i
    have ha:=hl a (lJu ..)
    have e:hashes[a]? =some hashes[a]:=lQi ha
    have ih':=ih (fun k hk=>hl k (lJx _ hk))
    rw[lVx e]
    refine⟨by rw[lJz,lJz,(ih' 0).1],?_⟩
    cases i with
    | zero=>simp[e]
    | succ i=>simpa using (ih' i).2
  refine⟨?_,?_,rfl,?_⟩
  ·show (live.map (·.1)).toArray.size=_
   rw[lJv,lJf]
   have:=(fm (live.map (·.2)) hin 0).1
   rw[lJf] at this
   exact this.symm
  ·show (live.map (·.1)).Pairwise (· < ·)
   rw[List.pairwise_map]
   have:live.Pairwise fun a b=>a.1<b.1:=by
    show ((List.range (mask+1)).filterMap fun j=>(owner.getD j none).map (j,·)).Pairwise _
    rw[List.pairwise_filterMap]
    refine (List.pairwise_lt_range).imp fun {a b} hab x hx y hy=> ?_
    obtain⟨k,_,e⟩:=lKg.mp hx
    obtain⟨k',_,e'⟩:=lKg.mp hy
    rw[<-e,<-e'];exact hab
   exact this
  ·intro x hx
   obtain⟨i,hi,hxe⟩:=lQ4 hx
   rw[List.getElem_zip] at hxe
   obtain⟨xj,h⟩:=x
   obtain⟨pe,he⟩:=Prod.mk.inj hxe
   have hi':i<live.length:=by rw[List.length_zip] at hi;have:=lKb hi (Nat.min_le_left _ _);simpa using this
   have hh:((live.map (·.2)).filterMap (hashes[·]?))[i]? =some h:=by rw[<-he];exact lJg _
   have pl:live[i].1=xj:=by rw[<-pe];simp
   show Chain _ h xj
   rw[<-pl]
   have e2:=(fm (live.map (·.2)) hin i).2
   have hh':((live.map (·.2)).filterMap (hashes[·]?))[i]? =some h:=hh
   rw[hh',lJn,lJg hi'] at e2
   have e3:hashes[live[i].2]? =some h:=e2.symm
   obtain⟨h3,h4⟩:=live_mem live[i].1 live[i].2 (lXg hi')
   obtain⟨h',e4,n,e5,e6⟩:=o.chain _ _ h3
   have:h'=h:=by
    have:hashes.toList[live[i].2]? =some h:=by simpa using e3
    rw[this] at e4;exact (lJ7 e4).symm
   subst this
   refine⟨n,e5,fun k hk=> ?_⟩
   show (itr t0.advance k (t0.probeStart h')).j∈live.map (·.1)
   refine (mem_place _).mpr ⟨e6 k hk,?_⟩
   apply lKv
   intro z
   refine e6 k hk ?_
   unfold jQf
   rw[lVi,lQ3 (by rw[o.size];show mask+1<=_;omega)]
   rfl
end St
end L3
namespace L3
open PySem PySem.Spec PyProof.Rows L2
def TupKept (h h':Heap):Prop:=∀b o,h.get? b=some o->o.cls= .type "tuple"->h'.get? b=some o
section
variable {prog:Program} {w:World} {K:Type} [DecidableEq K] {c:Nat}
def Stab (V:KeyV prog w K c):Prop:=∀ {h h':Heap} {k:K} {v:Value},TupKept h h'->V.is h k v->V.is h' k v
theorem kZ2 {V:KeyV prog w K c} (hV:Stab V) {h h':Heap} (kp:TupKept h h') {ks:List K} {vs:List Value} (hi:ItemsV V h ks vs):ItemsV V h' ks vs:=by
 induction hi with
 | nil=>exact .nil
 | cons a _ ih=>exact .cons (hV kp a) ih
theorem kYl {V:KeyV prog w K c} (hV:Stab V):Stab (jUq V):=by
 rintro h h' k v kp ⟨a,o,items,n,rfl,ho,hc,hd,hi⟩
 exact⟨a,o,items,n,rfl,kp a o ho hc,hc,hd,kZ2 hV kp hi⟩
theorem kYm {V:KeyV prog w K c} (hV:Stab V):Stab (kZ1 V):=by
 rintro h h' (k | k) v kp hx
 ·exact hx
 ·exact kYl hV kp hx
theorem qKl:Stab (jYy prog w):=fun _ hx=>hx
theorem jQg {h h':Heap} {k:TKey} {a:Addr} (kp:TupKept h h') (hx:(jJh prog w).is h k a):(jJh prog w).is h' k a:=kYl (kYm (kYm qKl)) kp hx
theorem TupKept.same {h h':Heap} {a:Addr} {o:Obj} (ho:h.get? a=some o) (hc:o.cls= .type "set") (hs:Heap.SameBut a h h'):TupKept h h':=by
 intro b ob hb hcb
 have ne:b≠a:=by
  rintro rfl
  rw[ho] at hb;cases hb
  rw[hc] at hcb
  exact absurd hcb (by decide)
 exact (hs.2 b ne).trans hb
def HbV (V:KeyV prog w K c) (f:K->Bool):Prop:=∀ {A:Around} {E:Value->Shared->Prop} {s:Shared} {k:K} {v:Value} {Q:Bool->Shared->Prop} (n:Nat),c<=n->f k=true->V.is s.heap k v->Q true s->wpAny (model prog w) A (hashByValue n v) Q E s
def intK:Key->Bool
 | .inl _=>true
 | .inr _=>false
def intS {α:Type} (f:α->Bool):Key ⊕ List α->Bool
 | .inl k=>intK k
 | .inr ks=>ks.all f
def intT:TKey->Bool:=fun ks=>ks.all (intS (intS intK))
theorem qUf:HbV (jYy prog w) intK:=by
 intro A E s k v Q n _ hk hv h
 rcases jJt (show jXh k v=true from hv) with ⟨i,t,_,rfl⟩ | ⟨i,t,rfl,rfl⟩
 ·cases n<;>exact lJd h
 ·cases hk
theorem qZz {V:KeyV prog w K c} {f:K->Bool} (hV:HbV V f):HbV (jUq V) (fun ks=>ks.all f):=by
 rintro A E s ks v Q n hn hf ⟨a,o,items,m,rfl,ho,hc,hd,hi⟩ h
 obtain⟨n,rfl⟩:∃nn,n=nn+1:=⟨n-1,by omega⟩
 have hT:s.TypeIs (.ref a) "tuple":=⟨o,ho,hc⟩
 unfold hashByValue
 (refine lJa (wpAny_specialOf hT F.slot_tuple_hash.lookup ?_))
 refine (show wpAny _ _ (seqItems? (.ref a) >>= _) _ _ s from ?_)
 refine lJa (wpAny_seqItems ho hd (lJa ?_))
 refine (show wpAny _ _ (forIn items _ _) _ _ s from ?_)
 rw[<-lXl]
 refine lVk _ (fun rest r z=>r.1=none/\z=s/\∃left,left.all f=true/\ItemsV V s.heap left rest) _ ?_ ?_ _ _ ⟨rfl,rfl,ks,hf,hi⟩
 ·rintro x rest r z ⟨hr,rfl,left,hfl,hl⟩
  cases hl with
  | cons h1 hl'=>
   rw[lQr,lKn] at hfl
   refine lJa (hV n (by omega) hfl.1 h1 ?_)
   simp only[lJt,Bool.not_true,lKq]
   exact lJd ⟨rfl,rfl,_,hfl.2,hl'⟩
 ·rintro⟨r1,r2⟩ z ⟨hr,rfl,_⟩
  simp only at hr;subst hr
  exact lJd h
theorem qZ0 {V:KeyV prog w K c} {f:K->Bool} (hV:HbV V f):HbV (kZ1 V) (intS f):=by
 rintro A E s (k | k) v Q n hn hf hx h
 ·exact qUf n (lJs _) hf hx h
 ·exact qZz hV n hn hf hx h
theorem uKs {A:Around} {E:Value->Shared->Prop} {s:Shared} {k:TKey} {a:Addr} {Q:Bool->Shared->Prop} (hf:intT k=true) (hx:(jJh prog w).is s.heap k a) (h:Q true s):wpAny (model prog w) A (hashByValue 8 (.ref a)) Q E s:=
 qZz (qZ0 (qZ0 qUf)) 8 (by decide) hf hx h
def OcV (V:KeyV prog w K c):Prop:=∀ {A:Around} {E:Value->Shared->Prop} {s:Shared} {k:K} {v:Value} {Q:Bool->Shared->Prop} (n:Nat),c<=n->V.is s.heap k v->Q false s->wpAny (model prog w) A (ofAClassStatement n v) Q E s
theorem qQw:OcV (jYy prog w):=by
 intro A E s k v Q n _ hv h
 rcases jJt (show jXh k v=true from hv) with ⟨i,t,_,rfl⟩ | ⟨i,t,rfl,rfl⟩<;>(cases n<;>exact lJd h)
theorem qZo {V:KeyV prog w K c} (hV:OcV V):OcV (jUq V):=by
 rintro A E s ks v Q n hn ⟨a,o,items,m,rfl,ho,hc,hd,hi⟩ h
 obtain⟨n,rfl⟩:∃nn,n=nn+1:=⟨n-1,by omega⟩
 have hT:s.TypeIs (.ref a) "tuple":=⟨o,ho,hc⟩
 unfold ofAClassStatement
 (refine lJa (lV6 hT ?_))
 dsimp only
 rw[lJc (by decide)]
 refine lJa (lJd ?_)
 rw[lJb (by decide)]
 refine lJa (wpAny_seqItems ho hd (lJa ?_))
 rw[<-lXl]
 refine lVk _ (fun rest r z=>r.1=none/\z=s/\∃left,ItemsV V s.heap left rest) _ ?_ ?_ _ _ ⟨rfl,rfl,ks,hi⟩
 ·rintro x rest r z ⟨hr,rfl,left,hl⟩
  cases hl with
  | cons h1 hl'=>
   refine lJa (hV n (by omega) h1 ?_)
   rw[lJb (by decide)]
   exact lJd ⟨rfl,rfl,_,hl'⟩
 ·rintro⟨r1,r2⟩ z ⟨hr,rfl,_⟩
  simp only at hr;subst hr
  exact lJd h
theorem qZp {V:KeyV prog w K c} (hV:OcV V):OcV (kZ1 V):=by
 rintro A E s (k | k) v Q n hn hx h
 ·exact qQw n (lJs _) hx h
 ·exact qZo hV n hn hx h
theorem qQv {A:Around} {E:Value->Shared->Prop} {s:Shared} {k:TKey} {a:Addr} {Q:Bool->Shared->Prop} (hx:(jJh prog w).is s.heap k a) (h:Q false s):wpAny (model prog w) A (ofAClassStatement 8 (.ref a)) Q E s:=
 qZo (qZp (qZp qQw)) 8 (by decide) hx h
theorem unseen {A:Around} {E:Value->Shared->Prop} {s:Shared} {k:TKey} {a:Addr} {Q:Bool->Shared->Prop} (hx:(jJh prog w).is s.heap k a) {ys:List Value} (hy:∀y,y∈ys->∃k' b,y= .ref b/\(jJh prog w).is s.heap k' b) (h:Q false s):wpAny (model prog w) A (searchCouldBeSeen (.ref a) ys) Q E s:=by
 unfold searchCouldBeSeen
 refine lJa ?_
 refine lVk _ (fun rest r z=>r.1=none/\z=s/\∀y,y∈rest->∃k' b,y= .ref b/\(jJh prog w).is s.heap k' b) _ ?_ ?_ _ _ ⟨rfl,rfl,hy⟩
 ·rintro x rest r z ⟨hr,rfl,hl⟩
  obtain⟨k',b,rfl,hb⟩:=hl x (lJu ..)
  have hl':=fun y hy=>hl y (lJx _ hy)
  dsimp only
  split
  ·exact lJd ⟨rfl,rfl,hl'⟩
  ·refine lJa ((jJh prog w).quiet hx ?_)
   rw[lJb (by decide)]
   refine lJa ((jJh prog w).quiet hb ?_)
   rw[lJb (by decide)]
   refine lJa (qQv hx ?_)
   rw[lJb (by decide)]
   refine lJa (qQv hb ?_)
   rw[lJb (by decide)]
   exact lJd ⟨rfl,rfl,hl'⟩
 ·rintro⟨r1,r2⟩ z ⟨hr,rfl,_⟩
  simp only at hr;subst hr
  exact lJd h
end
section
variable {prog:Program} {w:World} {A:Around} {E:Value->Shared->Prop} {s:Shared}
def entS (prog:Program) (w:World) (e:TKey×Addr):Int×Value:=((jJh prog w).hash e.1,.ref e.2)
def hashes (prog:Program) (w:World) (es:List (TKey×Addr)):List Int:=es.map fun e=>(jJh prog w).hash e.1
def MaskOk (mask n:Nat):Prop:=(mask=7/\n<=4)\/(mask=31/\n<=18)\/(mask=127/\n<=76)\/(mask=511/\n<=306)\/(mask=2047/\n<=1228)
theorem MaskOk.full {mask n:Nat} (h:MaskOk mask n):St.Full mask/\n<=mask/\mask%2=1:=by
 rcases h with ⟨rfl,h⟩ | ⟨rfl,h⟩ | ⟨rfl,h⟩ | ⟨rfl,h⟩ | ⟨rfl,h⟩
 ·exact⟨St.full7,by omega,rfl⟩
 ·exact⟨St.full31,by omega,rfl⟩
 ·exact⟨St.full127,by omega,rfl⟩
 ·exact⟨St.full511,by omega,rfl⟩
 ·exact⟨St.full2047,by omega,rfl⟩
theorem qJd {t:SetTable} {f g:Nat->Int} {h:Int} {p:SetTable.Probe} (e:∀i,f i=g i):t.probe f h p=t.probe g h p:=by rw[funext e]
structure SetD (prog:Program) (w:World) (h:Heap) (a:Addr) (o:Obj) (arr:Array (Int×Value)) (ep:Nat) (t:SetTable) (es:List (TKey×Addr)):Prop where
 get:h.get? a=some o
 exact_:o.ExactSet
 data:o.data= .set arr ep t
 arr_:arr.toList=es.map (entS prog w)
 are:∀e,e∈es->(jJh prog w).is h e.1 e.2
 good:St.Good t (hashes prog w es)
 mask:MaskOk t.mask es.length
 plain:t.plain=true
theorem SetD.size {h:Heap} {a:Addr} {o:Obj} {arr:Array (Int×Value)} {ep:Nat} {t:SetTable} {es:List (TKey×Addr)} (d:SetD prog w h a o arr ep t es):arr.size=es.length:=by
 rw[<-lKi,d.arr_,lJf]
theorem SetD.fits {h:Heap} {a:Addr} {o:Obj} {arr:Array (Int×Value)} {ep:Nat} {t:SetTable} {es:List (TKey×Addr)} (d:SetD prog w h a o arr ep t es):t.fits arr.size=true:=by
 have l:=d.good.len
 unfold hashes at l
 rw[lJf] at l
 obtain⟨_,hm,_⟩:=d.mask.full
 simp only[SetTable.fits,SetTable.fill,d.good.dum,l,d.size,lKn,beq_iff_eq,lVa]
 exact⟨trivial,by simpa using hm⟩
theorem SetD.state {a:Addr} {o:Obj} {arr:Array (Int×Value)} {ep:Nat} {t:SetTable} {es:List (TKey×Addr)} (d:SetD prog w s.heap a o arr ep t es) {Q:(Array (Int×Value)×Nat×SetTable)->Shared->Prop} (h:Q (arr,ep,t) s):wpAny (model prog w) A (setState a) Q E s:=
 wpAny_setState_of d.get d.data d.fits h
theorem SetD.at {h:Heap} {a:Addr} {o:Obj} {arr:Array (Int×Value)} {ep:Nat} {t:SetTable} {es:List (TKey×Addr)} (d:SetD prog w h a o arr ep t es) {i:Nat} (hi:i<t.place.size):∃e,es[i]? =some e/\arr[i]? =some (entS prog w e):=by
 have l:=d.good.len
 unfold hashes at l
 rw[lJf] at l
 have hi':i<es.length:=by omega
 refine⟨es[i],lJg hi',?_⟩
 rw[<-lQu,d.arr_,lJn,lJg hi']
 rfl
def Ahead (t:SetTable) (es:List (TKey×Addr)) (k:TKey) (p:SetTable.Probe):Prop:=∃n i b,t.slot (itr t.advance n p).j= .live i/\es[i]? =some (k,b)/\∀m,m<n->t.slot (itr t.advance m p).j≠ .empty
theorem qKs {a:Addr} {o:Obj} {arr:Array (Int×Value)} {ep:Nat} {t:SetTable} {es:List (TKey×Addr)} (d:SetD prog w s.heap a o arr ep t es) {k:TKey} {b:Addr} (hk:(jJh prog w).is s.heap k b) (hu:(jJh prog w).room A) {Q:SetFound->Shared->Prop}
  (h1:∀j,t.slot j= .empty->k∉es.map (·.1)->St.Chain t ((jJh prog w).hash k) j->Q (.free j false) s) (h2:k∈es.map (·.1)->Q (.there none) s):∀(n fuel:Nat) (stand:Option SetTable.Probe) (p:SetTable.Probe),stand.getD (t.probeStart ((jJh prog w).hash k))=p->p.dummy=none->t.slot (itr t.advance n p).j= .empty->n<10*SetTable.turns t.mask->n<fuel->
  (k∈es.map (·.1)->Ahead t es k p)->(∃n0,p=itr t.advance n0 (t.probeStart ((jJh prog w).hash k))/\∀m,m<n0->(itr t.advance m (t.probeStart ((jJh prog w).hash k))).j∈t.place.toList)->
  wpAny (model prog w) A (setSearchFrom a (.ref b) ((jJh prog w).hash k) true fuel stand) Q E s:=by
 intro n
 induction n using Nat.strongRecOn with
 | ind n ih=>
 intro fuel stand p hp hdm he hn hfu hA hC
 obtain⟨fuel,rfl⟩:∃f,fuel=f+1:=⟨fuel-1,by omega⟩
 unfold setSearchFrom
 refine lJa (d.state ?_)
 dsimp only
 have gw:t.gaveWay=false:=by
  unfold SetTable.gaveWay
  rw[d.mask.full.2.2];rfl
 rw[gw,lJb (by decide),hp]
 rw[qJd (g:=fun i=>((arr[i]?).map (·.1)).getD 0) ?hsw]
 case hsw=>exact fun i=>rfl
 have hash_at:∀(i:Nat) (k':TKey) (b':Addr),es[i]? =some (k',b')->((arr[i]?).map (·.1)).getD 0=(jJh prog w).hash k':=by
  intro i k' b' e
  have:arr[i]? =some (entS prog w (k',b')):=by rw[<-lQu,d.arr_,lJn,e];rfl
  rw[this];rfl
 have onway:∀m,(∀q,q<m->St.Miss t (fun i=>((arr[i]?).map (·.1)).getD 0) ((jJh prog w).hash k) (itr t.advance q p).j)->∀q,q<m->(itr t.advance q p).j∈t.place.toList:=by
  intro m hm q hq
  obtain⟨i,hi,_⟩:=hm q hq
  rcases St.slot_cases d.good.dum (itr t.advance q p).j with c | ⟨i',c,hi',e,_⟩
  ·rw[c.1] at hi;cases hi
  ·rw[<-e];simp
 have way:∀m,(∀q,q<m->(itr t.advance q p).j∈t.place.toList)->∃n0,itr t.advance m p=itr t.advance n0 (t.probeStart ((jJh prog w).hash k))/\∀q,q<n0->(itr t.advance q (t.probeStart ((jJh prog w).hash k))).j∈t.place.toList:=by
  intro m hm
  obtain⟨n0,e0,c0⟩:=hC
  refine⟨n0+m,by rw[jK6,e0],fun q hq=> ?_⟩
  by_cases c:q<n0
  ·exact c0 q c
  ·have:=hm (q-n0) (by omega)
   rw[e0,<-jK6,show n0+(q-n0)=q by omega] at this
   exact this
 have ahead:∀m,(∀q,q<m->St.Miss t (fun i=>((arr[i]?).map (·.1)).getD 0) ((jJh prog w).hash k) (itr t.advance q p).j)->∀ {n' i:Nat} {b':Addr},t.slot (itr t.advance n' p).j= .live i->es[i]? =some (k,b')->m<=n':=by
  intro m hm n' i b' hs hi
  apply lKv
  intro z
  obtain⟨i',q1,q2⟩:=hm n' (by omega)
  rw[hs] at q1;cases q1
  exact q2 (hash_at _ _ _ hi)
 rcases St.pgo_ok d.good.dum (fun i=>((arr[i]?).map (·.1)).getD 0) ((jJh prog w).hash k) n (10*SetTable.turns t.mask) p he hn hdm with ⟨m,hm,e1,e2,e3⟩ | ⟨m,i,hm,e1,e2,e3,e4⟩
 ·rw[show t.probe (fun i=>((arr[i]?).map (·.1)).getD 0) ((jJh prog w).hash k) p=_ from e3]
  dsimp only
  refine lJd (h1 _ e1 (fun z=> ?_) ?_)
  ·obtain⟨n',i,b',q1,q2,q3⟩:=hA z
   have:=ahead m e2 q1 q2
   by_cases c:m=n'
   ·subst c;rw[e1] at q1;cases q1
   ·exact q3 m (by omega) e1
  ·obtain⟨n0,w1,w2⟩:=way m (onway m e2)
   exact⟨n0,by rw[w1],w2⟩
 ·rw[show t.probe (fun i=>((arr[i]?).map (·.1)).getD 0) ((jJh prog w).hash k) p=_ from e4]
  dsimp only
  have hi:i<t.place.size/\t.place.toList[i]? =some (itr t.advance m p).j:=by
   rcases St.slot_cases d.good.dum (itr t.advance m p).j with c | ⟨i',c,hi',e,_⟩
   ·rw[c.1] at e1;cases e1
   ·rw[c] at e1;cases e1
    exact⟨hi',by simp[hi',e]⟩
  obtain⟨⟨k',b'⟩,ee,ea⟩:=d.at hi.1
  have hk':(jJh prog w).is s.heap k' b':=d.are _ (lJi ee)
  have rest:∀(R:Unit->Shared->Prop),R () s->True:=fun _ _=>trivial
  have go:wpAny (model prog w) A (do
    let some (_,y):=arr[i]? | unsupported "internal:set-entry"
    let equal <-holding [y] (eqBool y (.ref b))
    let (es',_,t') <-setState a
    if true&&equal then return .there none
    let some same:=(t'.sameMemory t.moves t.mask) | unsupported "set.changed-during-lookup:is-the-new-block-at-the-old-address"
    let still <-match (if same then t'.slot (itr t.advance m p).j else .empty) with
     | .live i'=>match (es'[i']?) with
      | some (_,y')=>do pure (if (<-isSame y' y) then some i' else none)
      | none=>pure none
     | _=>pure none
    match still with
    | none=>rule "set.search.anew"; setSearchFrom a (.ref b) ((jJh prog w).hash k) true fuel none
    | some i'=>if equal then return .there (some i') else setSearchFrom a (.ref b) ((jJh prog w).hash k) true fuel (some (itr t.advance (m+1) p))) Q E s:=by
   rw[ea]
   dsimp only[entS]
   refine lJa (lK4 ((jJh prog w).eqBool hu hk' hk ?_))
   refine lJa (d.state ?_)
   dsimp only
   by_cases eq:k'=k
   ·subst eq
    rw[lJc (by simp)]
    exact lJd (h2 (lJk.mpr ⟨_,lJi ee,rfl⟩))
   ·rw[lJb (by simp[eq])]
    rw[show t.sameMemory t.moves t.mask=some true by simp[SetTable.sameMemory]]
    dsimp only
    rw[lJc rfl,e1]
    dsimp only
    rw[ea]
    dsimp only[entS]
    refine lJa (wpAny_isSame_ref_self (lJa (lJd ?_)))
    rw[lJc rfl]
    dsimp only
    rw[lJb (by simp[eq])]
    have ne:∀ {n' i' b''},t.slot (itr t.advance n' p).j= .live i'->es[i']? =some (k,b'')->m+1<=n':=by
     intro n' i' b'' q1 q2
     have:=ahead m e3 q1 q2
     by_cases c:m=n'
     ·subst c
      rw[e1] at q1;cases q1
      rw[ee] at q2
      exact absurd (Prod.mk.inj (lJ7 q2)).1 eq
     ·omega
    refine ih (n-(m+1)) (by omega) fuel (some (itr t.advance (m+1) p)) (itr t.advance (m+1) p) rfl ?_ ?_ (by omega) (by omega) ?_ ?_
    ·have dm:∀q,(itr t.advance q p).dummy=none:=by
      intro q
      induction q with
      | zero=>exact hdm
      | succ q ihq=>rw[jX3,St.adv_dummy];exact ihq
     exact dm _
    ·rw[<-jK6,show m+1+(n-(m+1))=n by omega];exact he
    ·intro z
     obtain⟨n',i',b'',q1,q2,q3⟩:=hA z
     have:=ne q1 q2
     refine⟨n'-(m+1),i',b'',?_,q2,fun q hq=> ?_⟩
     ·rw[<-jK6,show m+1+(n'-(m+1))=n' by omega];exact q1
     ·rw[<-jK6];exact q3 _ (by omega)
    ·refine way (m+1) fun q hq=> ?_
     by_cases c:q<m
     ·exact onway m e3 q c
     ·have:q=m:=by omega
      subst this
      exact lJi hi.2
  split
  ·refine lJa (unseen hk ?_ ?_)
   ·intro y hy
    obtain⟨x,hx,rfl⟩:=lJk.mp hy
    have hx':x∈arr.toList:=by
     have:=(Array.mem_filter.mp (Array.mem_toList_iff.mp hx)).1
     exact Array.mem_toList_iff.mpr this
    rw[d.arr_] at hx'
    obtain⟨e,he',rfl⟩:=lJk.mp hx'
    exact⟨e.1,e.2,rfl,d.are e he'⟩
   ·rw[lJb (by decide)]
    exact go
  ·exact go
theorem SetD.chain {h:Heap} {a:Addr} {o:Obj} {arr:Array (Int×Value)} {ep:Nat} {t:SetTable} {es:List (TKey×Addr)} (d:SetD prog w h a o arr ep t es) {k:TKey} (hk:k∈es.map (·.1)):Ahead t es k (t.probeStart ((jJh prog w).hash k)):=by
 obtain⟨⟨k',b⟩,he,e⟩:=lJk.mp hk
 cases (show k'=k from e)
 obtain⟨i,hi,ei⟩:=lQ4 he
 have l:=d.good.len
 unfold hashes at l
 rw[lJf] at l
 have hp:i<t.place.size:=by omega
 have hz:(t.place[i],(jJh prog w).hash k)∈t.place.toList.zip (hashes prog w es):=by
  refine lJi (i:=i) ?_
  unfold hashes
  simp[lXa,hp,hi,ei]
 obtain⟨n,h1,h2⟩:=d.good.chain _ hz
 refine⟨n,i,b,?_,by rw[lJg hi,ei],fun m hm=> ?_⟩
 ·rw[h1];exact St.slot_live d.good.ris hp
 ·obtain⟨q,hq,e⟩:=lQ4 (h2 m hm)
  have hq':q<t.place.size:=by simpa using hq
  have e':t.place[q]=(itr t.advance m (t.probeStart ((jJh prog w).hash k))).j:=by simpa using e
  rw[<-e',St.slot_live d.good.ris hq']
  simp
theorem free_j {t:SetTable} (hd:t.dummies= #[]) (hn:t.place.size<=t.mask):∃j,j<=t.mask/\t.slot j= .empty:=by
 have:∃j,j<=t.mask/\j∉t.place.toList:=by
  apply lKv
  intro q
  have sub:(List.range (t.mask+1)) ⊆ t.place.toList:=by
   intro j hj
   apply lKv
   intro z
   exact q ⟨j,by have:=lJy.mp hj;omega,z⟩
  have:=lXf.length_le_of_subset sub
  simp at this
  omega
 obtain⟨j,h1,h2⟩:=this
 exact⟨j,h1,St.slot_empty hd h2⟩
theorem kZ6 {a:Addr} {o:Obj} {arr:Array (Int×Value)} {ep:Nat} {t:SetTable} {es:List (TKey×Addr)} (d:SetD prog w s.heap a o arr ep t es) {k:TKey} {b:Addr} (hk:(jJh prog w).is s.heap k b) (hu:(jJh prog w).room A) {Q:SetFound->Shared->Prop}
  (h1:∀j,t.slot j= .empty->k∉es.map (·.1)->St.Chain t ((jJh prog w).hash k) j->Q (.free j false) s) (h2:k∈es.map (·.1)->Q (.there none) s):wpAny (model prog w) A (setSearch a (.ref b) ((jJh prog w).hash k) true) Q E s:=by
 have l:=d.good.len
 unfold hashes at l
 rw[lJf] at l
 obtain⟨hf,hm,_⟩:=d.mask.full
 obtain⟨j,hj,ej⟩:=free_j (t:=t) d.good.dum (by omega)
 obtain⟨n,hn,en⟩:=St.met hf ((jJh prog w).hash k) hj
 have hm127:t.mask<=2047:=by rcases d.mask with ⟨e,_⟩ | ⟨e,_⟩ | ⟨e,_⟩ | ⟨e,_⟩ | ⟨e,_⟩<;>omega
 unfold setSearch
 refine qKs d hk hu h1 h2 n 100000 none (t.probeStart ((jJh prog w).hash k)) rfl rfl (by rw[en];exact ej) (by unfold SetTable.turns;omega) (by omega) d.chain ⟨0,rfl,fun m hm=>absurd hm (lKx _)⟩
end
section
variable {prog:Program} {w:World} {A:Around} {E:Value->Shared->Prop} {s:Shared}
theorem kKy {t t':SetTable} (hm:t'.mask=t.mask) (hp:∀j,j∈t.place.toList->j∈t'.place.toList) {h:Int} {j:Nat} (c:St.Chain t h j):St.Chain t' h j:=by
 obtain⟨n,h1,h2⟩:=c
 have ea:t'.advance=t.advance:=by funext p;unfold SetTable.advance;rw[hm]
 have eb:t'.probeStart h=t.probeStart h:=by unfold SetTable.probeStart;rw[hm]
 refine⟨n,by rw[ea,eb];exact h1,fun k hk=> ?_⟩
 rw[ea,eb]
 exact hp _ (h2 k hk)
theorem zipE {α β:Type} {xs:List α} {ys:List β} (hl:xs.length=ys.length) (p:Nat) {x:α} {y:β} {z:α×β} (h:z∈(xs.take p++x::xs.drop p).zip (ys.take p++y::ys.drop p)):z∈xs.zip ys\/z=(x,y):=by
 rw[List.zip_append (by simp[hl]),lVr] at h
 have e1:(xs.take p).zip (ys.take p)=(xs.zip ys).take p:=by rw[lXr,lXr,List.take_zipWith]
 have e2:(xs.drop p).zip (ys.drop p)=(xs.zip ys).drop p:=by rw[lXr,lXr,List.drop_zipWith]
 rw[e1,e2] at h
 (rcases lKh.mp h with h | h)
 ·exact .inl (List.mem_of_mem_take h)
 ·rcases (lJl.mp h) with h | h
  ·exact .inr h
  ·exact .inl (List.mem_of_mem_drop h)
theorem qYn {t:SetTable} {hs:List Int} (g:St.Good t hs) {j:Nat} {h:Int} (he:t.slot j= .empty) (hc:St.Chain t h j):St.Good (t.put j).1 (hs.take (t.put j).2++h::hs.drop (t.put j).2):=by
 have hj:j∉t.place.toList:=by
  rcases St.slot_cases g.dum j with c | ⟨i,c,_⟩
  ·exact c.2 g.ris
  ·rw[c] at he;cases he
 have ep:(t.put j).1.place=SetTable.insertAt t.place (SetTable.below t.place j) j:=rfl
 have mem:∀q,q∈t.place.toList->q∈(t.put j).1.place.toList:=by
  intro q hq
  rw[ep,SetTable.toList_insertAt]
  rw[<-lVy (SetTable.below t.place j) t.place.toList] at hq
  rcases (lKh.mp hq) with z | z
  ·(exact lQp _ z)
  ·exact lKm _ (lJx _ z)
 have hl:=g.len
 refine⟨?_,?_,?_,?_⟩
 ·rw[ep,<-lKi,SetTable.toList_insertAt]
  show _=(hs.take (SetTable.below t.place j)++h::hs.drop (SetTable.below t.place j)).length
  simp[hl]
 ·rw[ep];exact St.insertAt_ris g.ris hj
 ·show (if SetTable.has t.dummies j=true then _ else t.dummies)= #[]
  rw[g.dum,St.has_nil];rfl
 ·intro x hx
  rw[ep,SetTable.toList_insertAt] at hx
  rcases zipE (by simpa using hl) _ hx with z | rfl
  ·exact kKy (t:=t) (t':=(t.put j).1) rfl mem (g.chain x z)
  ·exact kKy (t:=t) (t':=(t.put j).1) rfl mem hc
def putE (p:Nat) (e:TKey×Addr) (es:List (TKey×Addr)):List (TKey×Addr):=es.take p++e::es.drop p
theorem jXy (p:Nat) (e:TKey×Addr) (es:List (TKey×Addr)):(putE p e es).Perm (e::es):=by
 unfold putE
 refine List.perm_middle.trans ?_
 rw[lVy]
theorem qQf {h:Heap} {a:Addr} {o:Obj} {arr:Array (Int×Value)} {ep:Nat} {t:SetTable} (ho:h.get? a=some o) (hd:o.data= .set arr ep t) (arr':Array (Int×Value)) (t':SetTable):
  (h.update a (Obj.putSet arr' t')).get? a=some {o with data:= .set arr' (ep+1) t'}:=by
 have:=lV8 (Obj.putSet arr' t') ho (by rw[putSet_of arr' t' hd];rfl)
 rw[putSet_of arr' t' hd] at this;exact this
theorem kKm {α:Type} {l:List Nat} {xs:List α} (hp:l.Perm (List.range xs.length)):(l.filterMap (xs[·]?)).Perm xs:=by
 have:=hp.filterMap (fun i=>xs[i]?)
 rw[List.filterMap_getElem?_range_length] at this
 exact this
theorem jX2 {α β:Type} (f:α->β) (xs:List α):∀l:List Nat,(l.filterMap (xs[·]?)).map f=l.filterMap ((xs.map f)[·]?)
 | []=>rfl
 | a::l=>by
  rw[lQo,lQo,lJn]
  cases xs[a]? with
  | none=>exact jX2 f xs l
  | some x=>rw[lJq,jX2 f xs l];rfl
theorem qXd {a:Addr} {o:Obj} {arr:Array (Int×Value)} {ep:Nat} {t:SetTable} {es:List (TKey×Addr)} (ho:s.heap.get? a=some o) (hex:o.ExactSet) (hd:o.data= .set arr ep t) (harr:arr.toList=es.map (entS prog w)) (are:∀e,e∈es->(jJh prog w).is s.heap e.1 e.2) (hf:t.fits arr.size=true) (hpl:t.plain=true) {wanted mask:Nat} (hw:SetTable.sizeAbove wanted-1=mask) (hl:SetTable.sizeAbove wanted<=sizeLine) (hM:MaskOk mask es.length) {Q:Unit->Shared->Prop}
  (h:∀h' o' arr' ep' t' es',Heap.SameBut a s.heap h'->es'.Perm es->t'.led=t.led->SetD prog w h' a o' arr' ep' t' es'->Q () {s with heap:=h'}):wpAny (model prog w) A (setRelay a wanted) Q E s:=by
 have hsz:arr.size=es.length:=by rw[<-lKi,harr,lJf]
 obtain⟨hfull,hle,_⟩:=hM.full
 obtain⟨t',order,e1,e2,e3,e4,e5,e6⟩:=St.laid_ok hfull t.finger (t.movedTo mask) t.led t.plain (arr.map (·.1)) (by rw[Array.size_map,hsz];exact hle)
 have e1':t.relaid (arr.map (·.1)) wanted=some (t',order):=by unfold SetTable.relaid;rw[hw];exact e1
 have hash_:(arr.map (·.1)).toList=hashes prog w es:=by
  rw[Array.toList_map,harr,lJ6];rfl
 have po:order.toList.Perm (List.range es.length):=by
  have:=e5
  rw[Array.size_map,hsz] at this
  exact this
 have em:(order.filterMap (arr[·]?)).toList=(order.toList.filterMap (es[·]?)).map (entS prog w):=by
  rw[Array.toList_filterMap,jX2,<-harr]
  exact St.fm_congr fun x _=>by rw[lQu]
 have pe:(order.toList.filterMap (es[·]?)).Perm es:=kKm po
 have sz2:(order.filterMap (arr[·]?)).size=es.length:=by rw[<-lKi,em,lJf,pe.length_eq]
 unfold setRelay
 (refine lJa (wpAny_setState_of ho hd hf ?_))
 dsimp only
 rw[lJb (Nat.not_lt.mpr hl)]
 refine lJa ?_
 refine (show wpAny (model prog w) A (do
  let some (t,order):=t.relaid (arr.map (·.1)) wanted | unsupported "internal:set-table-without-room"
  let es':=order.filterMap (arr[·]?)
  if es'.size != arr.size then unsupported "internal:set-table-lost-an-element"
  pure (es',t)) _ _ _ from ?_)
 rw[e1']
 dsimp only
 rw[lJb (by rw[sz2,hsz];simp)]
 refine lJd ?_
 dsimp only
 refine wpAny_storeSet_of ho hd ?_ (by rw[sz2,<-hsz,lKe];have:=hM;rcases hM with ⟨_,z⟩ | ⟨_,z⟩ | ⟨_,z⟩ | ⟨_,z⟩ | ⟨_,z⟩<;>omega)
 have sb:=lXc s.heap a (Obj.putSet (order.filterMap (arr[·]?)) t')
 have kp:TupKept s.heap _:=TupKept.same ho hex.1 sb
 refine h _ _ _ _ t' (order.toList.filterMap (es[·]?)) sb pe e3 ⟨qQf ho hd _ _,hex,rfl,em,fun e he=>jQg kp (are e (pe.mem_iff.mp he)),?_,?_,e4.trans hpl⟩
 ·have:=e6
  have e7:order.toList.filterMap ((arr.map (·.1))[·]?)=hashes prog w (order.toList.filterMap (es[·]?)):=by
   unfold hashes
   rw[jX2]
   refine St.fm_congr fun x _=> ?_
   rw[<-lQu,hash_];rfl
  rw[e7] at this
  exact this
 ·rw[pe.length_eq,e2];exact hM
theorem add_ok {a:Addr} {o:Obj} {arr:Array (Int×Value)} {ep:Nat} {t:SetTable} {es:List (TKey×Addr)} (d:SetD prog w s.heap a o arr ep t es) {k:TKey} {b:Addr} (hk:(jJh prog w).is s.heap k b) (hi:intT k=true) (hu:(jJh prog w).room A) (hn:es.length<1228) {Q:Bool->Shared->Prop}
  (h1:k∈es.map (·.1)->Q false s)
  (h2:k∉es.map (·.1)->∀h' o' arr' ep' t' es',Heap.SameBut a s.heap h'->es'.Perm ((k,b)::es)->t'.led=t.led->SetD prog w h' a o' arr' ep' t' es'->Q true {s with heap:=h'}):
  wpAny (model prog w) A (setAddHashed a (.ref b) ((jJh prog w).hash k)) Q E s:=by
 unfold setAddHashed
 refine lK4 ?_
 unfold setAddHashedIn
 refine lJa (d.state ?_)
 dsimp only
 rw[show byScan (.ref b) arr=false from rfl,lJb (by decide)]
 refine lJa (kZ6 d hk hu (fun j hj hnk hc=> ?_) fun z=>lJd (h1 z))
 dsimp only
 refine lJa (d.state ?_)
 dsimp only
 have hpl:(t.put j).1.plain=true:=d.plain
 rw[lJc hpl]
 refine lJa (uKs hi hk ?_)
 simp only[↓reduceIte]
 have hsz:=d.size
 have hlen:t.place.size=es.length:=by have l:=d.good.len;unfold hashes at l;rw[lJf] at l;exact l
 have g1:St.Good (t.put j).1 (hashes prog w (putE (t.put j).2 (k,b) es)):=by
  have:=qYn d.good hj hc
  unfold hashes putE
  rw[lQk,lJq,lVz,List.map_drop]
  exact this
 have ae:(SetTable.insertAt arr (t.put j).2 ((jJh prog w).hash k,Value.ref b)).toList=(putE (t.put j).2 (k,b) es).map (entS prog w):=by
  rw[SetTable.toList_insertAt,d.arr_]
  unfold putE
  rw[lQk,lJq,lVz,List.map_drop]
  rfl
 have pl:=(jXy (t.put j).2 (k,b) es).length_eq
 rw[lJz] at pl
 have asz:(SetTable.insertAt arr (t.put j).2 ((jJh prog w).hash k,Value.ref b)).size=es.length+1:=by
  rw[<-lKi,ae,lJf,pl]
 refine lJa (wpAny_storeSet_of d.get d.data ?_ (by rw[asz,lKe];omega))
 have sb1:=lXc s.heap a (Obj.putSet (SetTable.insertAt arr (t.put j).2 ((jJh prog w).hash k,Value.ref b)) (t.put j).1)
 have kp1:TupKept s.heap _:=TupKept.same d.get d.exact_.1 sb1
 have ob1:=qQf d.get d.data (SetTable.insertAt arr (t.put j).2 ((jJh prog w).hash k,Value.ref b)) (t.put j).1
 have are1:∀e,e∈putE (t.put j).2 (k,b) es->(jJh prog w).is (s.heap.update a (Obj.putSet (SetTable.insertAt arr (t.put j).2 ((jJh prog w).hash k,Value.ref b)) (t.put j).1)) e.1 e.2:=by
  intro e he
  rcases lJl.mp ((jXy _ _ _).mem_iff.mp he) with rfl | he
  ·exact jQg kp1 hk
  ·exact jQg kp1 (d.are e he)
 have fl:(t.put j).1.fill=es.length+1:=by
  have l:=g1.len
  unfold hashes at l
  rw[lJf,pl] at l
  unfold SetTable.fill
  rw[g1.dum,l];rfl
 have mk:(t.put j).1.mask=t.mask:=rfl
 by_cases full:(t.put j).1.tooFull=true
 ·rw[full]
  simp only[Bool.not_false,Bool.and_self,↓reduceIte]
  have full':(es.length+1)*5>=t.mask*3:=by
   unfold SetTable.tooFull at full
   rw[fl,mk] at full
   exact lXy full
  have w1:SetTable.sizeAbove (SetTable.grown (arr.size+1))<=sizeLine/\MaskOk (SetTable.sizeAbove (SetTable.grown (arr.size+1))-1) (putE (t.put j).2 (k,b) es).length:=by
   rw[pl,hsz]
   rcases d.mask with ⟨e,z⟩ | ⟨e,z⟩ | ⟨e,z⟩ | ⟨e,z⟩ | ⟨e,z⟩
   ·have:es.length=4:=by omega
    rw[this];exact⟨by rw[lKe];decide,.inr (.inl ⟨by decide,by omega⟩)⟩
   ·have:es.length=18:=by omega
    rw[this];exact⟨by rw[lKe];decide,.inr (.inr (.inl ⟨by decide,by omega⟩))⟩
   ·have:es.length=76:=by omega
    rw[this];exact⟨by rw[lKe];decide,.inr (.inr (.inr (.inl ⟨by decide,by omega⟩)))⟩
   ·have:es.length=306:=by omega
    rw[this];exact⟨by rw[lKe];decide,.inr (.inr (.inr (.inr ⟨by decide,by omega⟩)))⟩
   ·omega
  have ft:(t.put j).1.fits (SetTable.insertAt arr (t.put j).2 ((jJh prog w).hash k,Value.ref b)).size=true:=by
   have l:=g1.len
   unfold hashes at l
   rw[lJf,pl] at l
   simp only[SetTable.fits,lKn,beq_iff_eq,lVa]
   refine⟨by rw[asz];exact l,?_⟩
   rw[fl,mk]
   rcases d.mask with ⟨e,z⟩ | ⟨e,z⟩ | ⟨e,z⟩ | ⟨e,z⟩ | ⟨e,z⟩<;>omega
  refine lJa (qXd (s:={s with heap:=s.heap.update a (Obj.putSet (SetTable.insertAt arr (t.put j).2 ((jJh prog w).hash k,Value.ref b)) (t.put j).1)}) ob1 d.exact_ rfl ae are1 ft hpl rfl w1.1 w1.2 fun h' o' arr' ep' t' es' sb2 pe el d'=> ?_)
  exact lJd (h2 hnk h' o' arr' ep' t' es' (sb1.trans sb2) (pe.trans (jXy _ _ _)) el d')
 ·rw[show (t.put j).1.tooFull=false from by simpa using full]
  simp only[Bool.and_false,lKq,↓reduceIte]
  have full':(es.length+1)*5<t.mask*3:=by
   unfold SetTable.tooFull at full
   rw[fl,mk] at full
   simpa using full
  refine lJd (h2 hnk _ _ _ _ (t.put j).1 _ sb1 (jXy _ _ _) rfl ⟨ob1,d.exact_,rfl,ae,are1,g1,?_,hpl⟩)
  rw[pl,mk]
  rcases d.mask with ⟨e,_⟩ | ⟨e,_⟩ | ⟨e,_⟩ | ⟨e,_⟩ | ⟨e,_⟩
  ·exact .inl ⟨e,by omega⟩
  ·exact .inr (.inl ⟨e,by omega⟩)
  ·exact .inr (.inr (.inl ⟨e,by omega⟩))
  ·exact .inr (.inr (.inr (.inl ⟨e,by omega⟩)))
  ·exact .inr (.inr (.inr (.inr ⟨e,by omega⟩)))
end
section
variable {w:World} {prog:Program}
def bt (w:World):Bool:=w.params.followText "set-order"
structure Put (es kb:List (TKey×Addr)):Prop where
 sub:∀e,e∈es->e∈kb
 all:∀e,e∈kb->e.1∈es.map (·.1)
 nod:(es.map (·.1)).Nodup
theorem Put.old {es kb:List (TKey×Addr)} (p:Put es kb) {e:TKey×Addr} (h:e.1∈es.map (·.1)):Put es (kb++[e]):=by
 refine⟨fun x hx=>lQp _ (p.sub x hx),fun x hx=> ?_,p.nod⟩
 rcases (lKh.mp hx) with z | z
 ·exact p.all x z
 ·rw[lJ1.mp z];exact h
theorem Put.new {es es' kb:List (TKey×Addr)} (p:Put es kb) {e:TKey×Addr} (h:e.1∉es.map (·.1)) (hp:es'.Perm (e::es)):Put es' (kb++[e]):=by
 have hm:(es'.map (·.1)).Perm (e.1::es.map (·.1)):=hp.map _
 refine⟨fun x hx=> ?_,fun x hx=> ?_,?_⟩
 ·rcases lJl.mp (hp.mem_iff.mp hx) with rfl | z
  ·exact lKm _ (lJ1.mpr rfl)
  ·exact lQp _ (p.sub x z)
 ·refine hm.mem_iff.mpr ?_
  rcases (lKh.mp hx) with z | z
  ·exact lJx _ (p.all x z)
  ·rw[lJ1.mp z];exact lJu ..
 ·exact hm.nodup_iff.mpr (lKz.mpr ⟨h,p.nod⟩)
theorem Put.few {es kb:List (TKey×Addr)} (p:Put es kb) {us:List TKey} (h:∀e,e∈kb->e.1∈us):es.length<=us.length:=by
 have h1:(es.map (·.1)) ⊆ us:=by
  intro k hk
  obtain⟨e,he,rfl⟩:=lJk.mp hk
  exact h e (p.sub e he)
 have:=p.nod.length_le_of_subset h1
 simpa using this
theorem SetD.move {h h':Heap} {a:Addr} {o:Obj} {arr:Array (Int×Value)} {ep:Nat} {t:SetTable} {es:List (TKey×Addr)} (d:SetD prog w h a o arr ep t es) (hg:h'.get? a=some o) (kp:TupKept h h'):SetD prog w h' a o arr ep t es:=
 ⟨hg,d.exact_,d.data,d.arr_,fun e he=>jQg kp (d.are e he),d.good,d.mask,d.plain⟩
def SetIs (prog:Program) (w:World) (h:Heap) (a:Addr) (kb:List (TKey×Addr)):Prop:=∃o arr ep t es,SetD prog w h a o arr ep t es/\Put es kb/\t.led= !bt w
theorem SetIs.move {h h':Heap} {a:Addr} {kb:List (TKey×Addr)} (d:SetIs prog w h a kb) (hg:∀o,h.get? a=some o->h'.get? a=some o) (kp:TupKept h h'):SetIs prog w h' a kb:=by
 obtain⟨o,arr,ep,t,es,d,p,l⟩:=d
 exact⟨o,arr,ep,t,es,d.move (hg o d.get) kp,p,l⟩
section
variable {A:Around} {R:Result->Shared->Prop} {I:Addr} {fp:List Addr} {G:Array GenState->Array GenState->Prop} {n:Nat} {P:Nat->Value->Prop} {St:Nat->Shared->Prop}
theorem kYk {wr:List Addr} {s s':Shared} (hm:Moved wr G s s') (hw:∀b o,b∈wr->s.heap.get? b=some o->o.cls≠ .type "tuple"):TupKept s.heap s'.heap:=by
 intro b o hb hc
 exact hm.heap b o (fun z=>hw b o z hb hc) hb
theorem qV4 (W:WalksS prog w A.in1 I fp [I] G n P St) (S:Addr) (hSf:S∉fp) (hIt:∀i s o,St i s->s.heap.get? I=some o->o.cls≠ .type "tuple") (kb:List (TKey×Addr)) (hu:(jJh prog w).room A.in1) (hk:∀e,e∈kb->intT e.1=true)
  (hval:∀i v,P i v->∃e,kb[i]? =some e/\v= .ref e.2) (hn:n=kb.length) {us:List TKey} (hus:us.length<400) (hkus:∀e,e∈kb->e.1∈us):
  ∀(q i:Nat) (s:Shared),n-i=q->i<=n->St i s->(∀e,e∈kb->(jJh prog w).is s.heap e.1 e.2)->SetIs prog w s.heap S (kb.take i)->
   (∀s',Moved (S::[I]) G s s'->SetIs prog w s'.heap S kb->R (.ok (.ret .none)) s')->codeAny (model prog w) A (.builtin "set.update.loop" ⟨[.ref S,.ref I],[]⟩) R s:=by
 have hSw:S∉[I]:=fun h=>hSf (W.sub _ h)
 have hsub:∀b∈[I],b∈S::[I]:=fun b hb=>lJx _ hb
 intro q
 induction q with
 | zero=>
  intro i s hq hi hst hks hS hR
  have hin:i=n:=by omega
  subst hin
  refine lV7 PyProof.Rows.F.entry_set_update_loop ?_
  rw[lXh lXs _]
  refine (show wpAny _ A.in1 (pyNext (.ref I) >>= _) _ _ s from ?_)
  (refine lJa (W.done s _ _ hst fun s' hm=> ?_))
  refine (show wpAny _ A.in1 (ret Value.none) _ _ s' from ?_)
  refine lJd (hR s' (hm.mono hsub) ?_)
  rw[hn,lQs] at hS
  exact hS.move (fun o e=>hm.heap S o hSw e) (kYk hm fun b o hb e=>by rw[lJ1.mp hb] at e;exact hIt _ _ _ hst e)
 | succ q ih=>
  intro i s hq hi hst hks hS hR
  have hlt:i<n:=by omega
  refine lV7 PyProof.Rows.F.entry_set_update_loop ?_
  rw[lXh lXs _]
  refine (show wpAny _ A.in1 (pyNext (.ref I) >>= _) _ _ s from ?_)
  (refine lJa (W.item i s _ _ hlt hst fun v s' hP hst' hm=> ?_))
  obtain⟨⟨k,b⟩,he,rfl⟩:=hval i v hP
  have hmem:(k,b)∈kb:=lJi he
  have tk:=kYk hm fun b o hb e=>by rw[lJ1.mp hb] at e;exact hIt _ _ _ hst e
  have hS':=hS.move (h':=s'.heap) (fun o e=>hm.heap S o hSw e) tk
  have hks':∀e,e∈kb->(jJh prog w).is s'.heap e.1 e.2:=fun e he=>jQg tk (hks e he)
  refine (show wpAny _ A.in1 (holding [Value.ref b] (setAdd S (.ref b)) >>= _) _ _ s' from ?_)
  (refine lJa (lK4 ?_))
  unfold setAdd
  refine lK4 ?_
  refine lJa ((jJh prog w).pyHash hu (hks' _ hmem) ?_)
  obtain⟨o,arr,ep,t,es,d,p,l⟩:=hS'
  have hl:=p.few fun e he=>hkus e (List.mem_of_mem_take he)
  have tk1:kb.take (i+1)=kb.take i++[(k,b)]:=by
   rw[lQ2,he];rfl
  refine add_ok (s:={s' with toks:=s'.toks+(jJh prog w).draws k}) d (hks' _ hmem) (hk _ hmem) hu (by omega) (fun z=> ?_) (fun z h' o' arr' ep' t' es' sb pe el d'=> ?_)
  ·refine lJd ⟨plainId_quiet lXs _,ih (i+1) _ (by omega) hlt (W.frame _ s' _ _ hst' (lXi _ _) fun b hb o e=>e) hks' ?_ fun s'' hm'' hS''=> ?_⟩
   ·rw[tk1];exact⟨o,arr,ep,t,es,d,p.old z,l⟩
   ·exact hR s'' (Moved.trans W.gtrans ((hm.mono hsub).then_heap (lXi _ _) fun b o hb e=>e) hm'') hS''
  ·have tk2:TupKept s'.heap h':=TupKept.same d.get d.exact_.1 sb
   refine lJd ⟨plainId_quiet lXs _,ih (i+1) _ (by omega) hlt (W.frame _ s' _ _ hst' (lXi _ _) fun b hb o e=> ?_) (fun e he=>jQg tk2 (hks' e he)) ?_ fun s'' hm'' hS''=> ?_⟩
   ·exact (sb.2 b (fun z=>hSf (z▸hb))).trans e
   ·rw[tk1];exact⟨o',arr',ep',t',es',d',p.new z pe,el.trans l⟩
   ·refine hR s'' (Moved.trans W.gtrans ((hm.mono hsub).then_heap (lXi _ _) fun b o hb e=> ?_) hm'') hS''
    exact (sb.2 b (fun z=>hb (by rw[z];exact lJu ..))).trans e
end
section
variable {E:Value->Shared->Prop} {s:Shared} {A:Around}
theorem qKq {led:Bool} (hl:led= !bt w) {h:Heap}:SetIs prog w (h.push {cls:= .type "set",dict:=none,data:= .set #[] 0 (.fresh 0 0 led)}) h.objs.size []:=by
 refine⟨_,#[],0,_,[],⟨lJ3 _ rfl,⟨rfl,rfl,rfl⟩,rfl,rfl,fun e he=>absurd he (lKd),⟨rfl,List.Pairwise.nil,rfl,fun x hx=> ?_⟩,.inl ⟨rfl,lJs _⟩,rfl⟩,⟨fun _ h=>h,fun e he=>absurd he (lKd),lVq⟩,hl⟩
 exact absurd hx (by simp[hashes])
theorem qV3 (a:Value) {Q₁:Value->Shared->Prop}
  (h:Q₁ (.ref s.heap.objs.size) {s with heap:=s.heap.push {cls:= .type "set",dict:=none,data:= .set #[] 0 (.fresh 0 0 (!bt w))} }):codeAny (model prog w) A (.call (.builtin "set.__new__") ⟨[.type "set",a],[]⟩) (wants Q₁ E) s:=by
 refine codeAny_of_tree ?_
 refine (show wpAny _ A.in1 (do checkBuiltinCall "set.__new__" ⟨[.type "set",a],[]⟩;again (.builtin "set.__new__" ⟨[.type "set",a],[]⟩)) _ _ s from ?_)
 (refine lJa (wpAny_of_eq (F.newCall_set_1 a) (lJd ⟨plainId_quiet F.plain_set_new _,lV7 F.entry_set_new ?_⟩)))
 (rw[lXh F.plain_set_new _])
 (unfold Builtin.«set.__new__» Builtin.Frozenset.newClass)
 have hsub:=sub_set_self
 (obtain⟨hp,g,d,tk,os⟩:=s)
 dsimp only
 wp_walk
 (refine lXk (lJd ?_))
 dsimp only
 simp only[newObj]
 (refine lJa (wpAny_alloc (lJd ?_)))
 exact lJd h
def jV3 (w:World):Obj:={cls:= .type "set",dict:=none,data:= .set #[] 0 (.fresh 0 0 (!bt w))}
set_option maxHeartbeats 3201000 in
theorem kQb {l:Addr} {items:Array Value} {kb:List (TKey×Addr)} {Q:Value->Shared->Prop} (hh:A.handled=none) (hu:A.units+20<cLine) (hl:s.heap.IsList l items) (hi:items.toList=kb.map fun e=> .ref e.2) (hk:∀e,e∈kb->intT e.1=true/\(jJh prog w).is s.heap e.1 e.2) {us:List TKey} (hus:us.length<400) (hkus:∀e,e∈kb->e.1∈us)
  (h:∀(h':Heap) (tk:Nat),SetIs prog w h' s.heap.objs.size kb->(∀b o,s.heap.get? b=some o->h'.get? b=some o)->Q (.ref s.heap.objs.size) {s with heap:=h',toks:=tk}):wpAny (model prog w) A (call (.type "set") [.ref l]) Q E s:=by
 (obtain⟨c,tl,hmro⟩:=lQ6.mro)
 (have hmade:=lQ6.made)
 have hsub:=lQ6.sub
 have hsz:items.size=kb.length:=by rw[<-lKi,hi,lJf]
 (refine wpAny_call (codeAny_of_tree ?_))
 refine (show wpAny _ _ (callAny (.type "set") _) _ _ _ from ?_)
 (refine lJd ⟨Code.quiet_builtin _ (by decide +kernel),lV7 F.entry_type_call ?_⟩)
 (rw[Around.under_plain (weight_type_call_type "set" [.ref l] []) rfl])
 (have h1:=lQ6.notType)
 (have h2:=lQ6.canCreate)
 (have hct:=F.typeCall_set_1 (.ref l))
 (repeat (any_goals (first | assumption | wp_step)))
 refine lV4 (qV3 (.ref l) (E:=E) (Q₁:=fun obj s₁=>obj= .ref s.heap.objs.size/\s₁={s with heap:=s.heap.push (jV3 w)}) ⟨rfl,rfl⟩) fun r s₁ hr=> ?_
 cases r with
 | error e=>exact hr
 | ok fl=>
  cases fl with
  | ret obj=>
   obtain⟨rfl,rfl⟩:=hr
   have hS:(s.heap.push (jV3 w)).get? s.heap.objs.size=some (jV3 w):=lJ3 _ rfl
   have hT:Shared.TypeIs {s with heap:=s.heap.push (jV3 w)} (.ref s.heap.objs.size) "set":=⟨_,hS,rfl⟩
   (have hli:=lQ6.init.lookup)
   (have hbi:=lQ6.init.bind (.ref s.heap.objs.size))
   (repeat (any_goals (first | assumption | wp_step)))
   refine lV4 (codeAny_call_builtin (R:=wants (fun r s₂=>r= .none/\∃h' tk,s₂={s with heap:=h',toks:=tk}/\SetIs prog w h' s.heap.objs.size kb/\(∀b o,s.heap.get? b=some o->h'.get? b=some o)) E) lQ6.init.plain F.entry_set_init (check_set_init_1 hT ?_)) fun r₂ s₂ hr₂=> ?_
   ·(obtain⟨ol,hol,hcl,nl,hdl⟩:=hl)
    (obtain⟨ocls,odict,odata,oslots⟩:=ol)
    simp only at hcl hdl
    subst hcl;subst hdl
    have hol':(s.heap.push (jV3 w)).get? l=some {cls:= .type "list",dict:=odict,data:= .seq items nl,slots:=oslots}:=lJm _ hol
    have hsls:=F.sub_list_set
    (have hslf:=F.sub_list_frozenset)
    (have hne:(Value.type "list" == Value.type "dict")=false:=by decide)
    have hl1:(s.heap.push (jV3 w)).IsList l items:=⟨_,hol',rfl,nl,rfl⟩
    (unfold Builtin.«set.__init__» noKeywords Builtin.Frozenset.updateFrom)
    generalize hPI:pyIter=PI
    unfold jV3 at hS hol' hl1 ⊢
    wp_walk
    subst hPI
    (refine wpAny_pyIter_list hl1 ?_)
    (refine lJa (wpAny_runValue ?_))
    (have hlS:l<s.heap.objs.size:=lJj hol)
    (have hh3:A.in1.in1.in1.handled=none:=by simp[hh])
    have hneI:l≠(s.heap.push (jV3 w)).objs.size:=by
     (rw[lVm];exact lJw (Nat.lt_succ_of_lt hlS))
    have hSf:s.heap.objs.size∉[(s.heap.push (jV3 w)).objs.size,l]:=by
     rw[lVm];simp only[lJl,lKd,lKy,not_or]
     (exact⟨lJw (Nat.lt_succ_self _),lVd hlS⟩)
    have hval:∀(i:Nat) (v:Value),items[i]? =some v->∃e,kb[i]? =some e/\v= .ref e.2:=by
     intro i v hv
     rw[<-lQu,hi,lJn] at hv
     obtain⟨e,e1,e2⟩:=lKg.mp hv
     exact⟨e,e1,e2.symm⟩
    have up:∀b o,s.heap.get? b=some o->((s.heap.push (jV3 w)).push {cls:= .type "list_iterator",data:= .fields #[.ref l,.int 0 0]}).get? b=some o:=fun b o e=>lJm _ (lJm _ e)
    refine qV4 (A:=A.in1.in1) ((Walks.list hh3 _ l hneI items).toS) s.heap.objs.size hSf ?hIt kb ?hu (fun e he=>(hk e he).1) hval hsz hus hkus (items.size-0) 0 _ (by omega) (lJs _) ⟨⟨_,lJ3 _ rfl,rfl,rfl⟩,(hl1.push _)⟩ ?hks ?hS0 ?hR
    case hIt=>
     rintro i s2 o2 ⟨⟨o3,e3,c3,_⟩,_⟩ e2
     rw[e3] at e2;cases e2
     rw[c3];decide
    case hu=>
     show A.in1.in1.in1.units+6<cLine
     rw[lK5,lK5,lK5];omega
    case hks=>
     exact fun e he=>jQg (fun b o e _=>up b o e) (hk e he).2
    case hS0=>
     exact (qKq (prog:=prog) (w:=w) rfl (h:=s.heap)).move (fun o e=>lJm _ e) fun b o e _=>lJm _ e
    case hR=>
     intro s' hm hS'
     (obtain⟨h',g',d',tk',os'⟩:=s')
     cases (show g'=s.gens from hm.gens)
     cases (show d'=s.drawn from hm.drawn)
     cases (show os'=s.os from hm.os)
     refine (show wpAny _ _ _ _ _ _ from lJd ?_)
     refine (show wpAny _ _ (ret Value.none) _ _ _ from lJd ⟨rfl,h',tk',rfl,hS',fun b o e=> ?_⟩)
     have hb:=lJj e
     refine hm.heap b o ?_ (up b o e)
     simp only[lJl,lKd,lKy,not_or]
     exact⟨lJw hb,by rw[lVm];exact lJw (Nat.lt_succ_of_lt hb)⟩
   ·cases r₂ with
    | error e=>exact hr₂
    | ok fl₂=>
     cases fl₂ with
     | ret r=>
      (obtain⟨rfl,h',tk,rfl,hS',hk'⟩:=hr₂)
      (repeat (any_goals (first | assumption | wp_step)))
      exact h _ _ hS' hk'
     | _=>exact hr₂.elim
  | _=>exact hr.elim
end
end
namespace Si
theorem own:Manifest.owners.lookup (String.ofList ['r','o','t','a','r','e','t','i','_','t','e','s'].reverse)=some Manifest.sig_set_iterator:=by kernel_rfl
theorem slot_next:Slot "set_iterator" "__next__" "set_iterator.__next__":=
 .of (owner:="set_iterator") (n:="__next__") (by rw[typeLookup_type,builtinLookup_eq_fast];kernel_rfl) (by decide +kernel) (by decide +kernel) (by decide +kernel) (by first | exact .inl (by decide +kernel) | exact .inr (by decide +kernel)) (by rw[isSubtype_type];kernel_rfl)
theorem entry_next:entryFor table "set_iterator.__next__"=some Builtin.«set_iterator.__next__» :=entryFor_of_tree (by kernel_rfl)
theorem args_next (a:Value):argsOk "set_iterator.__next__" ⟨[a],[]⟩:=by
 unfold argsOk;rw[signature?_of (id:="set_iterator.__next__") (n:=['_','_','t','x','e','n','_','_']) (o:=['r','o','t','a','r','e','t','i','_','t','e','s']) (by kernel_rfl) own];kernel_rfl
theorem entry_iter:entryFor table "set.__iter__"=some Builtin.«frozenset.__iter__» :=entryFor_alias (id':="frozenset.__iter__") (by kernel_rfl) rfl (by decide +kernel) (by kernel_rfl)
theorem slot_iter:Slot "set_iterator" "__iter__" "set_iterator.__iter__":=
 .of (owner:="set_iterator") (n:="__iter__") (by rw[typeLookup_type,builtinLookup_eq_fast];kernel_rfl) (by decide +kernel) (by decide +kernel) (by decide +kernel) (by first | exact .inl (by decide +kernel) | exact .inr (by decide +kernel)) (by rw[isSubtype_type];kernel_rfl)
theorem entry_it:entryFor table "set_iterator.__iter__"=some Builtin.«dict_keyiterator.__iter__» :=entryFor_alias (id':="dict_keyiterator.__iter__") (by kernel_rfl) rfl (by decide +kernel) (by kernel_rfl)
theorem args_it (a:Value):argsOk "set_iterator.__iter__" ⟨[a],[]⟩:=by
 unfold argsOk;rw[signature?_of (id:="set_iterator.__iter__") (n:=['_','_','r','e','t','i','_','_']) (o:=['r','o','t','a','r','e','t','i','_','t','e','s']) (by kernel_rfl) own];kernel_rfl
end Si
section
variable {prog:Program} {w:World} {A:Around} {E:Value->Shared->Prop} {s:Shared}
theorem SetD.stateB {h0:Heap} {S:Addr} {o:Obj} {arr:Array (Int×Value)} {ep:Nat} {t:SetTable} {es:List (TKey×Addr)} (d:SetD prog w h0 S o arr ep t es) (hg:s.heap.get? S=some o) {Q:(Array (Int×Value)×Nat×SetTable)->Shared->Prop} (h:Q (arr,ep,t) s):wpAny (model prog w) A (setState S) Q E s:=
 wpAny_setState_of hg d.data d.fits h
theorem qYc {S:Addr} {o:Obj} {arr:Array (Int×Value)} {ep:Nat} {t:SetTable} {es:List (TKey×Addr)} (d:SetD prog w s.heap S o arr ep t es) {Q:Value->Shared->Prop}
  (hQ:Q (.ref s.heap.objs.size) {s with heap:=s.heap.push {cls:= .type "set_iterator",data:= .fields #[.int 0 0,.int 0 0,.ref S,.int es.length 0,.int ep 0]} }):wpAny (model prog w) A (pyIter (.ref S)) Q E s:=by
 have hT:s.TypeIs (.ref S) "set":=⟨o,d.get,d.exact_.1⟩
 refine wpAny_pyIter_slot hT PySem.F.slot_set_iter (lQm PySem.F.slot_set_iter hT Si.entry_iter ?_ (PySem.F.args_set_iter_1 _))
 unfold Builtin.«frozenset.__iter__» Builtin.Frozenset.slot0 slotArgs
 (simp only[List.isEmpty_nil,Bool.not_true,lKq,↓reduceIte,bind_assoc,lK3,bne_self_eq_false])
 (unfold Builtin.Frozenset.addrOf Builtin.Frozenset.sizeOf)
 refine lJa (lJd ?_)
 try dsimp only
 refine lJa (lJd ?_)
 simp only[setEntries,setDrawn,bind_assoc]
 refine lJa (d.state ?_)
 refine lJa (lJd (lJa (lJd (lJa (d.state ?_)))))
 dsimp only[setsByText]
 refine lJa (lJa (lXk (lJd (lJa (lJd ?_)))))
 rw[lJb (fun z=> ?_)]
 ·(refine lJa (lJd ?_))
  unfold setEpoch
  refine lJa (lJa (d.state (lJd ?_)))
  refine lJa (lQc (lJd ⟨_,rfl,"set_iterator",_,⟨_,lJ3 _ rfl,rfl⟩,Si.slot_next.lookup,?_⟩))
  have:=d.size
  simpa[rawInt,this] using hQ
 ·have z':(!(w.params.followText "set-order")&&(!t.plain&&decide (arr.size>1)))=true:=z
  rw[d.plain] at z'
  simp at z'
theorem kKt {α:Type}:∀ {l:List α} {i:Nat} (h:i<l.length),(l[i]::l.eraseIdx i).Perm l
 | a::l,0,_=> .refl _
 | a::l,i+1,h=>by
  have hi:i<l.length:=by simpa using h
  exact (List.Perm.swap _ _ _).trans (List.Perm.cons a (kKt hi))
theorem qQm {α:Type} (next:Nat->Nat):∀(fuel k:Nat) (left:List α) (out:Array α),fuel=left.length->(pickOrder.go next fuel k left out).toList.Perm (out.toList++left)
 | 0,k,left,out,h=>by
  have:left=[]:=lX1 h.symm
  subst this
  rw[lQn];exact .refl _
 | fuel+1,k,left,out,h=>by
  have hl:next k%left.length<left.length:=lK7 _ (by omega)
  unfold pickOrder.go
  rw[lJg hl]
  dsimp only
  refine (qQm next fuel (k+1) _ _ (by rw[List.length_eraseIdx_of_lt hl];omega)).trans ?_
  rw[Array.toList_push,lXp]
  (refine List.Perm.append_left _ ?_)
  rw[List.singleton_append]
  exact kKt hl
theorem qQl {α:Type} (next:Nat->Nat) (xs:Array α):(pickOrder next xs).toList.Perm xs.toList:=by
 have:=qQm next xs.size 0 xs.toList #[] (by simp)
 rw[show (#[]:Array α).toList++xs.toList=xs.toList from rfl] at this
 exact this
def ordS (w:World) (S:Addr) (ep:Nat) (arr:Array (Int×Value)):Array (Int×Value):=if bt w=true then pickOrder (w.params.setOrder S ep) arr else arr
theorem jXz (w:World) (S:Addr) (ep:Nat) (arr:Array (Int×Value)):(ordS w S ep arr).toList.Perm arr.toList:=by
 unfold ordS
 split
 ·exact qQl _ _
 ·exact .refl _
def jV1 (w:World) (t:SetTable) (i:Nat):Nat:=if bt w=true then 0 else if i=0 then 0 else t.place.getD (i-1) 0+1
theorem qJ0 {t:SetTable} {hs:List Int} (g:St.Good t hs) (hb:bt w=false) {i:Nat} (hi:i<=t.place.size):SetTable.below t.place (jV1 w t i)=i:=by
 unfold jV1
 rw[hb,lJb (by decide)]
 by_cases c:i=0
 ·subst c;exact St.below_zero g.ris
 ·rw[lJb c,St.getD_at (by omega),St.below_next g.ris (by omega)]
  omega
theorem kKj {h0:Heap} {S:Addr} {o:Obj} {arr:Array (Int×Value)} {ep:Nat} {t:SetTable} {es:List (TKey×Addr)} (d:SetD prog w h0 S o arr ep t es) (hg:s.heap.get? S=some o) (hl:t.led= !bt w) {i:Nat} (hi:i<=arr.size) {Q:Option (Value×Nat)->Shared->Prop}
  (hQ:Q (((ordS w S ep arr)[i]?).map fun e=>(e.2,jV1 w t (i+1))) s):wpAny (model prog w) A (setNext S (jV1 w t i) i ep) Q E s:=by
 have hp:t.place.size=arr.size:=by
  have l:=d.good.len
  unfold hashes at l
  rw[lJf] at l
  rw[l,d.size]
 unfold setNext
 refine lJa (d.stateB hg ?_)
 dsimp only[setsByText]
 (refine lJa (lJa (lXk (lJd ?_))))
 refine (show wpAny _ _ (if bt w=true then _ else _) _ _ _ from ?_)
 cases hb:bt w with
 | true=>
  rw[lJc rfl,lJb (by simp)]
  unfold setWalk
  refine lJa (lJa (d.stateB hg ?_))
  dsimp only[setsByText]
  (refine lJa (lJa (lXk (lJd ?_))))
  refine (show wpAny _ _ (if bt w=true then _ else _) _ _ _ from ?_)
  rw[hb,lJc rfl]
  refine lJa (lXk (lJd (lJd ?_)))
  have e1:jV1 w t i=jV1 w t (i+1):=by unfold jV1;rw[hb];rfl
  unfold ordS at hQ
  rw[hb,lJc rfl,<-e1] at hQ
  exact hQ
 | false=>
  rw[lJb (by decide)]
  rw[lJb (fun z=> ?_)]
  ·refine lJa (m:=(if (!t.led&& !arr.isEmpty)=true then unsupported "set:maker-not-led" else pure ())) ?_
   rw[hl,hb]
   simp only[Bool.not_false,Bool.not_true,Bool.false_and,lKq,↓reduceIte]
   (refine lJd (lJd ?_))
   rw[qJ0 d.good hb (by omega)]
   unfold ordS at hQ
   rw[hb,lJb (by decide)] at hQ
   by_cases c:i<arr.size
   ·have hi':i<t.place.size:=by omega
    rw[lQi c,lQi hi']
    rw[lQi c] at hQ
    dsimp only
    have e1:jV1 w t (i+1)=t.place[i]+1:=by
     unfold jV1
     rw[hb,lJb (by decide),lJb (by omega),Nat.add_sub_cancel,St.getD_at hi']
    rw[e1] at hQ
    exact hQ
   ·rw[lQ3 (by omega)]
    rw[lQ3 (by omega)] at hQ
    exact hQ
  ·have z':(!t.plain&&decide (arr.size>1))=true:=z
   rw[d.plain] at z'
   simp at z'
def qJs (S:Addr) (ep n slot i:Nat):Obj:={cls:= .type "set_iterator",dict:=none,data:= .fields #[.int slot 0,.int i 0,.ref S,.int n 0,.int ep 0],slots:= #[]}
theorem qXz {h0:Heap} {S I:Addr} {o:Obj} {arr:Array (Int×Value)} {ep:Nat} {t:SetTable} {es:List (TKey×Addr)} (d:SetD prog w h0 S o arr ep t es) (hl:t.led= !bt w) (hg:s.heap.get? S=some o) {i:Nat} (hI:s.heap.get? I=some (qJs S ep arr.size (jV1 w t i) i)) {e:Int×Value} (he:(ordS w S ep arr)[i]? =some e) {Q:Option Value->Shared->Prop}
  (hQ:∀h',Heap.SameBut I s.heap h'->h'.get? I=some (qJs S ep arr.size (jV1 w t (i+1)) (i+1))->Q (some e.2) {s with heap:=h'}):wpAny (model prog w) A (pyNext (.ref I)) Q E s:=by
 have hT:s.TypeIs (.ref I) "set_iterator":=⟨_,hI,rfl⟩
 have hsz:(ordS w S ep arr).size=arr.size:=by rw[<-lKi,(jXz w S ep arr).length_eq,lKi]
 have hi:i<arr.size:=by have:=(Array.getElem?_eq_some_iff.mp he).1;omega
 unfold pyNext
 refine lJa (wpAny_attempt (lV5 (name:=Str.ofString "__next__") hT Si.slot_next (lQm Si.slot_next hT Si.entry_next ?_ (Si.args_next _))))
 unfold Builtin.«set_iterator.__next__»
 refine lJa (lJd ?_)
 refine lJa (wpAny_fieldsOf hI rfl ?_)
 dsimp only
 unfold setEntries
 refine lJa (lJa (d.stateB hg (lJd ?_)))
 dsimp only
 rw[lJb (by simp)]
 simp only[lXq]
 refine lJa (kKj d hg hl (lVc hi) ?_)
 rw[he]
 dsimp only[Option.map_some]
 refine lJa (wpAny_setField_rec hI (by simp) fun h1 e1 sb1=> ?_)
 refine lJa (wpAny_setField_rec (s:={s with heap:=h1}) e1 (by simp) fun h2 e2 sb2=> ?_)
 refine lJd ⟨_,rfl,lJd (hQ h2 (sb1.trans sb2) ?_)⟩
 simpa[rawInt,qJs] using e2
theorem uKz {h0:Heap} {S I:Addr} {o:Obj} {arr:Array (Int×Value)} {ep:Nat} {t:SetTable} {es:List (TKey×Addr)} (d:SetD prog w h0 S o arr ep t es) (hl:t.led= !bt w) (hh:A.handled=none) (hg:s.heap.get? S=some o) (hI:s.heap.get? I=some (qJs S ep arr.size (jV1 w t arr.size) arr.size)) {Q:Option Value->Shared->Prop}
  (hQ:∀h',Heap.ExtBut I s.heap h'->Q none {s with heap:=h'}):wpAny (model prog w) A (pyNext (.ref I)) Q E s:=by
 have hT:s.TypeIs (.ref I) "set_iterator":=⟨_,hI,rfl⟩
 have hsz:(ordS w S ep arr).size=arr.size:=by rw[<-lKi,(jXz w S ep arr).length_eq,lKi]
 unfold pyNext
 refine lJa (wpAny_attempt (lV5 (name:=Str.ofString "__next__") hT Si.slot_next (lQm Si.slot_next hT Si.entry_next ?_ (Si.args_next _))))
 unfold Builtin.«set_iterator.__next__»
 refine lJa (lJd ?_)
 refine lJa (wpAny_fieldsOf hI rfl ?_)
 dsimp only
 unfold setEntries
 refine lJa (lJa (d.stateB hg (lJd ?_)))
 dsimp only
 rw[lJb (by simp)]
 simp only[lXq]
 refine lJa (kKj d hg hl (lJh _) ?_)
 rw[lQ3 (by omega)]
 dsimp only[Option.map_none]
 refine lJa (wpAny_setField_rec hI (by simp) fun h1 e1 sb1=> ?_)
 refine (show wpAny _ _ (newExc (.type "StopIteration") [] >>= _) _ _ _ from lJa ?_)
 simp only[newExc,newTuple];refine lJa (lQc ?_ (by size_fits));refine lJa (m:=firstArgMember _ _) (wpAny_of_eq (a:=Value.none) (by first | rfl | (simp only[firstArgMember];rfl)) (lQc ?_ (by size_fits)))
 simp only[raiseNew];refine lJa (wpAny_handled ?_);rw[show A.in1.handled=none from hh];refine lJa (lJd (wpAny_throw ?_))
 exact lJa (wpAny_isInstance (T:="StopIteration") (b:=true) ⟨_,lJ3 _ rfl,rfl⟩ isSubtype_stop (lJd (hQ _ ((sb1.extBut.push _).push _))))
theorem qJ8 {h0:Heap} {S I:Addr} {o:Obj} {arr:Array (Int×Value)} {ep:Nat} {t:SetTable} {es:List (TKey×Addr)} (d:SetD prog w h0 S o arr ep t es) (hl:t.led= !bt w) (hh:A.handled=none) (hIS:I≠S):
  WalksS prog w A I [I,S] [I] (fun a b=>b=a) arr.size (fun i v=>((ordS w S ep arr)[i]?).map (·.2)=some v) (fun i s=>s.heap.get? S=some o/\s.heap.get? I=some (qJs S ep arr.size (jV1 w t i) i)) where
 sub:=fun b hb=>by rw[lJ1.mp hb];exact lJu ..
 grefl:=fun _=>rfl
 gtrans:=fun _ _ _ h1 h2=>(h2.trans h1)
 frame:=fun i s h' _ st _ hk=>⟨hk S (by simp) _ st.1,hk I (by simp) _ st.2⟩
 item:=by
  intro i s Q E hi st hQ
  have hsz:(ordS w S ep arr).size=arr.size:=by rw[<-lKi,(jXz w S ep arr).length_eq,lKi]
  refine qXz d hl st.1 st.2 (e:=(ordS w S ep arr)[i]) (lQi (by omega)) fun h' sb e=> ?_
  refine hQ _ _ (by rw[lQi (by omega)];rfl) ⟨(sb.2 S (fun z=>hIS z.symm)).trans st.1,e⟩ ⟨fun b ob hb e=> ?_,rfl,rfl,rfl,lJh _⟩
  exact (sb.2 b (fun z=>hb (lJ1.mpr z))).trans e
 done:=by
  intro s Q E st hQ
  refine uKz d hl hh st.1 st.2 fun h' eb=>hQ _ ⟨fun b ob hb e=> ?_,rfl,rfl,rfl,lJh _⟩
  exact eb b ob (fun z=>hb (lJ1.mpr z)) e
 self:=by
  intro i s Q E st hQ
  have hT:s.TypeIs (.ref I) "set_iterator":=⟨_,st.2,rfl⟩
  refine wpAny_pyIter_slot hT Si.slot_iter (lQm Si.slot_iter hT Si.entry_it ?_ (Si.args_it _))
  exact (show wpAny _ _ (ret (.ref I)) _ _ s from lJd ⟨_,rfl,"set_iterator",_,hT,Si.slot_next.lookup,hQ⟩)
theorem qYl {S:Addr} {o:Obj} (hg:s.heap.get? S=some o) (hc:o.cls= .type "set") {Q:Bool->Shared->Prop} (h:Q false s):wpAny (model prog w) A (Builtin.List.listLengthHint (.ref S)) Q E s:=by
 have hT:s.TypeIs (.ref S) "set":=⟨o,hg,hc⟩
 (unfold Builtin.List.listLengthHint)
 refine lJa (wpAny_specialOf hT PySem.F.slot_set_len.lookup ?_)
 generalize hn:("set.__len__":String)=nm
 wp_delta
 rw[show splitId nm=some ("set","__len__") by subst hn;decide +kernel];subst hn
 refine lJa (wpAny_isInstance (T:="set") (b:=true) hT (by rw[isSubtype_type];kernel_rfl) (wpAny_ite_split (fun z=>absurd z (by decide)) fun _=> ?_))
 refine wpAny_ite_split (fun _=> ?_) fun z=>absurd (by decide +kernel) z
 exact lJa (lV6 hT (lJd h))
theorem qJy {R:Result->Shared->Prop} {S L:Addr} {o:Obj} {arr:Array (Int×Value)} {ep:Nat} {t:SetTable} {es:List (TKey×Addr)} (d:SetD prog w s.heap S o arr ep t es) (hl:t.led= !bt w) (hh:A.handled=none) (res:Value) (c0:Nat)
  (hL:s.heap.get? L=some {cls:= .type "list",data:= .seq #[] c0}) (hLS:L≠S)
  (hR:∀(g:Heap) (tk:Nat) (acc:Array Value) (c':Nat),(∀b ob,b≠L->s.heap.get? b=some ob->g.get? b=some ob)->g.get? L=some {cls:= .type "list",dict:=none,data:= .seq acc c',slots:= #[]}->ItemsOf (fun i v=>((ordS w S ep arr)[i]?).map (·.2)=some v) acc arr.size->R (.ok (.ret res)) {s with heap:=g,toks:=tk}):
  wpAny (model prog w) A.in1 (Builtin.List.listExtendWith (.ref L) (.ref S) res) (fun fin z=>match fin with | .done f=>R (.ok f) z | .again c'=>c'.quiet=true/\codeAny (model prog w) A c' R z) (fun e z=>R (.error e) z) s:=by
 have hT:s.TypeIs (.ref S) "set":=⟨o,d.get,d.exact_.1⟩
 have hIS:s.heap.objs.size≠S:=lVd (lJj d.get)
 have hIL:L≠s.heap.objs.size:=lJw (lJj hL)
 have hSf:L∉[s.heap.objs.size,S]:=by simp[hIL,hLS]
 have asz:arr.size<=sizeLine:=by
  rw[d.size,lKe]
  rcases d.mask with ⟨_,z⟩ | ⟨_,z⟩ | ⟨_,z⟩<;>omega
 (unfold Builtin.List.listExtendWith)
 (refine lJa (lV6 hT ?_))
 have z1:Builtin.List.listSameRef (.ref L) (.ref S)=false:=by simp[Builtin.List.listSameRef,hLS]
 have z2:(Value.type "set" == Value.type "list")=false:=by decide
 have z3:(Value.type "set" == Value.type "tuple")=false:=by decide
 simp only[z1,z2,z3,Bool.or_false,lKq,lJt]
 refine lJa (qYc d ?_)
 refine lJa (lK4 (qYl (o:=o) (lJm _ d.get) d.exact_.1 ?_))
 refine wpAny_ite_split (fun _=> ?_) fun z=>absurd (by decide +kernel) z
 refine lJa (wpAny_rule ?_)
 generalize hg1:s.heap.push {cls:=Value.type "set_iterator",data:=Data.fields #[Value.int 0 0,Value.int 0 0,Value.ref S,Value.int (es.length:Int) 0,Value.int (ep:Int) 0]}=h1
 have hI1:h1.get? s.heap.objs.size=some (qJs S ep arr.size (jV1 w t 0) 0):=by
  rw[<-hg1,d.size,show jV1 w t 0=0 by unfold jV1;split<;>rfl]
  exact lJ3 _ rfl
 have up:∀b ob,s.heap.get? b=some ob->h1.get? b=some ob:=fun b ob e=>by rw[<-hg1];exact lJm _ e
 have hL1:=up L _ hL
 refine lJa ?_
 refine (show wpAny _ A.in1 (updateSeq L (·.push .none) >>= fun _=>updateSeq L (·.pop)) _ _ {s with heap:=h1} from ?_)
 refine lJa (wpAny_updateSeq hL1 rfl ?_)
 have hL2:=lV8 (Obj.mapSeq (·.push Value.none)) hL1 rfl
 refine wpAny_updateSeq (s:={s with heap:=h1.update L (Obj.mapSeq (·.push Value.none))}) hL2 rfl ?_
 have hL3:=lV8 (Obj.mapSeq (·.pop)) hL2 rfl
 have oth:∀b ob,b≠L->h1.get? b=some ob->((h1.update L (Obj.mapSeq (·.push Value.none))).update L (Obj.mapSeq (·.pop))).get? b=some ob:=
  fun b ob hb e=>(lXo _ _ (Ne.symm hb)).trans ((lXo _ _ (Ne.symm hb)).trans e)
 refine lJd ⟨plainId_quiet F.plain_extend_loop _,?_⟩
 refine codeAny_extend_loopS (qJ8 (A:=A.in1) d hl hh hIS) asz L hSf res arr.size 0 _ #[] _ rfl (lJs _) ⟨oth S o (Ne.symm hLS) (up S o d.get),oth _ _ (Ne.symm hIL) hI1⟩ hL3 (ItemsOf.nil _) fun z acc c' hm hL' hacc=> ?_
 rw[Moved.eq_with hm]
 refine hR z.heap z.toks acc c' (fun b ob hb e=>hm.heap b ob ?_ (oth b ob hb (up b ob e))) hL' hacc
 simp only[lJl,lKd,lKy,not_or]
 exact⟨hb,lJw (lJj e)⟩
theorem kX7 {S:Addr} {o:Obj} {arr:Array (Int×Value)} {ep:Nat} {t:SetTable} {es:List (TKey×Addr)} (d:SetD prog w s.heap S o arr ep t es) (hl:t.led= !bt w) (hh:A.handled=none) {Q:List Value->Shared->Prop}
  (hQ:∀(g:Heap) (tk:Nat) (acc:List Value),(∀b ob,s.heap.get? b=some ob->g.get? b=some ob)->s.heap.objs.size<g.objs.size->acc.Perm (es.map fun e=> .ref e.2)->Q acc {s with heap:=g,toks:=tk}):wpAny (model prog w) A (collect (.ref S)) Q E s:=by
 have hLS:s.heap.objs.size≠S:=lVd (lJj d.get)
 have key:∀R:Result->Shared->Prop,(∀(g:Heap) (tk:Nat) (acc:Array Value) (c':Nat),(∀b ob,s.heap.get? b=some ob->g.get? b=some ob)->g.get? s.heap.objs.size=some {cls:= .type "list",dict:=none,data:= .seq acc c',slots:= #[]}->ItemsOf (fun i v=>((ordS w S ep arr)[i]?).map (·.2)=some v) acc arr.size->R (.ok (.ret (.ref s.heap.objs.size))) {s with heap:=g,toks:=tk})->
   codeAny (model prog w) A (.builtin "proto.collect" ⟨[.ref S],[]⟩) R s:=by
  intro R hR
  refine lV7 F.entry_proto_collect ?_
  (rw[lXh F.plain_proto_collect _])
  refine (show wpAny _ A.in1 (newList [] >>= fun l=>again (.builtin "list.__iadd__" ⟨[l,.ref S],[]⟩)) _ _ s from lJa (lQc (lJd ⟨plainId_quiet F.plain_list_iadd _,lV7 F.entry_list_iadd ?_⟩)))
  (rw[lXh F.plain_list_iadd _])
  have hS1:(s.heap.push {cls:= .type "list",data:= .seq ([]:List Value).toArray}).get? s.heap.objs.size=some {cls:= .type "list",data:= .seq ([]:List Value).toArray}:=lJ3 _ rfl
  have d1:SetD prog w (s.heap.push {cls:= .type "list",data:= .seq ([]:List Value).toArray}) S o arr ep t es:=d.move (lJm _ d.get) fun b ob e _=>lJm _ e
  exact qJy (A:=A) (R:=R) (s:={s with heap:=s.heap.push {cls:= .type "list",data:= .seq ([]:List Value).toArray} }) d1 hl hh (.ref s.heap.objs.size) 0 hS1 hLS fun g tk acc c' kp hL' hacc=>hR g tk acc c' (fun b ob e=>kp b ob (lJw (lJj e)) (lJm _ e)) hL' hacc
 unfold collect
 refine lJa (wpAny_runValue (key _ fun g tk acc c' kp hL' hacc=>(show wpAny _ A (load s.heap.objs.size >>= _) _ _ _ from lJa (wpAny_load hL' (lJd (hQ g tk acc.toList kp (lJj hL') ?_))))))
 have e1:acc.toList=(ordS w S ep arr).toList.map (·.2):=by
  have hsz:(ordS w S ep arr).size=arr.size:=by rw[<-lKi,(jXz w S ep arr).length_eq,lKi]
  apply lK1
  intro i
  rw[lJn,lQu,lQu]
  by_cases hi:i<acc.size
  ·have:=hacc.2 i acc[i] (lQi hi)
   rw[lQi hi]
   exact this.symm
  ·rw[lQ3 (by omega),lQ3 (by rw[hsz,<-hacc.1];omega)]
   rfl
 rw[e1]
 refine ((jXz w S ep arr).map _).trans ?_
 rw[d.arr_,lJ6]
 exact .refl _
end
end L3
namespace L3
open PySem PySem.Spec PyProof.Rows L2
noncomputable def lexLt {K:Type} [DecidableEq K] (lt:K->K->Option Bool):List K->List K->Option Bool
 | [],[]=>some false
 | [],_::_=>some true
 | _::_,[]=>some false
 | x::xs,y::ys=>if x=y then lexLt lt xs ys else lt x y
def ltI:Key->Key->Option Bool
 | .inl i,.inl j=>some (decide (i<j))
 | _,_=>none
def ltS {K:Type} [DecidableEq K] (lt:K->K->Option Bool):Key ⊕ List K->Key ⊕ List K->Option Bool
 | .inl x,.inl y=>ltI x y
 | .inr x,.inr y=>lexLt lt x y
 | _,_=>none
def ltK:TKey->TKey->Option Bool:=lexLt (ltS (ltS ltI))
section
variable {prog:Program} {w:World} {K:Type} [DecidableEq K] {c:Nat}
def LtV (V:KeyV prog w K c) (lt:K->K->Option Bool):Prop:=∀ {A:Around} {E:Value->Shared->Prop} {s:Shared} {x y:K} {u v:Value} {b:Bool} {Q:Value->Shared->Prop},A.units+c<cLine->V.is s.heap x u->V.is s.heap y v->lt x y=some b->Q (.bool b) s->wpAny (model prog w) A (compareOp .Lt u v) Q E s
theorem qQ2:LtV (jYy prog w) ltI:=by
 intro A E s x y u v b Q _ hx hy hl h
 rcases jJt (show jXh x u=true from hx) with ⟨i,t,rfl,rfl⟩ | ⟨i,t,rfl,rfl⟩
 ·rcases jJt (show jXh y v=true from hy) with ⟨j,t',rfl,rfl⟩ | ⟨j,t',rfl,rfl⟩
  ·cases hl
   exact PyProof.Rows.lt_int h
  ·cases hl
 ·cases hl
open PySem.SeqAt in
open PySem.AutoSeq1 (wpAny_loadPart') in
open PySem.MeetsSeq PySem.MeetsSeq2 PySem.MeetsSeq3 in
theorem lt_tup {V:KeyV prog w K c} {lt:K->K->Option Bool} (hV:LtV V lt):LtV (jUq V) (lexLt lt):=by
 rintro A E s x y u v b Q hu ⟨a1,o1,its1,n1,rfl,ho1,hc1,hd1,hi1⟩ ⟨a2,o2,its2,n2,rfl,ho2,hc2,hd2,hi2⟩ hl h
 obtain⟨cls,dd,data,sl⟩:=o1
 obtain⟨cls2,dd2,data2,sl2⟩:=o2
 simp only at hc1 hd1 hc2 hd2
 subst hc1 hd1 hc2 hd2
 have hT1:s.TypeIs (.ref a1) "tuple":=⟨_,ho1,rfl⟩
 have hT2:s.TypeIs (.ref a2) "tuple":=⟨_,ho2,rfl⟩
 refine (show wpAny _ _ (richCompare .Lt (.ref a1) (.ref a2)) _ _ s from wpAny_richCompare_same_room hT1 hT2 PySem.F.slot_tuple_lt (lQm PySem.F.slot_tuple_lt hT1 PySem.F.entry_tuple_lt ?_ (PySem.F.args_tuple_lt_2 _ _)) (by omega))
 have f2:=AutoSeq1.sub_tuple_tuple
 (obtain⟨hp,g,d,tk,os⟩:=s)
 have z1:its1.size=x.length:=by rw[hi1.length];simp
 have z2:its2.size=y.length:=by rw[hi2.length];simp
 wp_walk using wpAny_loadPart' ho1,wpAny_loadPart' ho2,wpAny_forIn_list _ (fun rest bb s'=>bb.1=none/\s'=⟨hp,g,d,tk,os⟩/\∃(vs ws:List Value) (x' y':List K),rest=vs.zip ws/\ItemsV V hp x' vs/\ItemsV V hp y' ws/\x'.length+its2.size=y'.length+its1.size/\lexLt lt x' y'=some b) _
 case turn=>
  rintro⟨p,q⟩ rest bb s' ⟨hb',rfl,vs,ws,x',y',hz,hv1,hv2,hlen,hR⟩
  cases hv1 with
  | nil=>rw[List.zip_nil_left] at hz;cases hz
  | @cons k1 v1 ks1 vs1 h1 hv1'=>
   cases hv2 with
   | nil=>rw[List.zip_nil_right] at hz;cases hz
   | @cons k2 v2 ks2 vs2 h2 hv2'=>
    rw[lVr] at hz
    injection hz with hyx hrest
    injection hyx with hy hx
    subst hy hx
    simp only[lJz] at hlen
    have he:=V.eqAt (A:=A.in1) (s:=⟨hp,g,d,tk,os⟩) (by rw[lK5];omega) h1 h2
    refine lJa (he prog w _ _ ?_)
    by_cases e:k1=k2
    ·have hR':lexLt lt ks1 ks2=some b:=by
      have:=hR
      unfold lexLt at this
      rw[lJc e] at this;exact this
     rw[lKa e]
     wp_walk
     exact⟨rfl,rfl,_,_,_,_,hrest,hv1',hv2',by omega,hR'⟩
    ·have hR':lt k1 k2=some b:=by
      have:=hR
      unfold lexLt at this
      rw[lJb e] at this;exact this
     rw[lJ0 e]
     have hri:∀ {Q':Value->Shared->Prop} {E':Value->Shared->Prop},Q' (.bool b) ⟨hp,g,d,tk,os⟩->wpAny (model prog w) A.in1 (richCompare .Lt p q) Q' E' ⟨hp,g,d,tk,os⟩:=fun hq=>(hV (A:=A.in1) (s:=⟨hp,g,d,tk,os⟩) (by rw[lK5];omega) h1 h2 hR' hq:wpAny (model prog w) A.in1 (compareOp .Lt p q) _ _ _)
     wp_walk using hri
     exact⟨_,rfl,(fun z=>nomatch z),h⟩
 case fin=>
  rintro⟨b1,b2⟩ s' ⟨hb',rfl,vs,ws,x',y',hz,hv1,hv2,hlen,hR⟩
  simp only at hb'
  subst hb'
  have hv:b=decide (its1.size<its2.size):=by
   cases hv1 with
   | nil=>
    cases hv2 with
    | nil=>simp only[lK3] at hlen;cases hR;exact (lJ0 (by omega)).symm
    | cons _ _=>simp only[lK3,lJz] at hlen;cases hR;exact (lKa (by omega)).symm
   | cons _ hv1'=>
    cases hv2 with
    | nil=>simp only[lK3,lJz] at hlen;cases hR;exact (lJ0 (by omega)).symm
    | cons _ _=>rw[lVr] at hz;cases hz
  wp_walk
  refine⟨_,rfl,(fun z=>nomatch z),?_⟩
  simpa[Builtin.Tuple.tupleCompareSizes,<-hv] using h
 case h=>
  exact⟨rfl,rfl,its1.toList,its2.toList,x,y,rfl,hi1,hi2,by omega,hl⟩
theorem qZy {V:KeyV prog w K c} {lt:K->K->Option Bool} (hV:LtV V lt):LtV (kZ1 V) (ltS lt):=by
 rintro A E s (x | x) (y | y) u v b Q hu hx hy hl h
 ·exact qQ2 (by omega) hx hy hl h
 ·cases hl
 ·cases hl
 ·exact lt_tup hV hu hx hy hl h
end
end L3
namespace L3
open PySem PySem.Spec PyProof.Rows L2 PySem.W
def Rn {α:Type} (n:Nat) (lt:Nat->Nat->Bool):KasT α->(α->Prop)->Prop
 | .ret a,Q=>Q a
 | .ask i j k,Q=>i<n/\j<n/\Rn n lt (k (lt i j)) Q
theorem Rn.mono {α:Type} {n:Nat} {lt:Nat->Nat->Bool} {Q Q':α->Prop} (hq:∀a,Q a->Q' a):∀ {t:KasT α},Rn n lt t Q->Rn n lt t Q'
 | .ret a,h=>hq a h
 | .ask i j k,h=>⟨h.1,h.2.1,Rn.mono hq (t:=k (lt i j)) h.2.2⟩
theorem Rn.bind {α β:Type} {n:Nat} {lt:Nat->Nat->Bool} {f:α->KasT β} {Q:β->Prop}:∀ {t:KasT α},Rn n lt t (fun a=>Rn n lt (f a) Q)->Rn n lt (t.bind f) Q
 | .ret a,h=>h
 | .ask i j k,h=>⟨h.1,h.2.1,Rn.bind (t:=k (lt i j)) h.2.2⟩
theorem Rn.wp {α:Type} {n:Nat} {lt:Nat->Nat->Bool} {cmp:Nat->Nat->(Bool->Shared->Prop)->Shared->Prop} {s:Shared} {Q:α->Prop} {R:α->Shared->Prop} (hc:∀i j C,i<n->j<n->C (lt i j) s->cmp i j C s) (hr:∀a,Q a->R a s):∀ {t:KasT α},Rn n lt t Q->t.kasWp cmp R s
 | .ret a,h=>hr a h
 | .ask i j k,h=>hc i j _ h.1 h.2.1 (Rn.wp hc hr (t:=k (lt i j)) h.2.2)
structure SOrd (n:Nat) (lt:Nat->Nat->Bool):Prop where
 neg:∀i j,i<n->j<n->i≠j->lt j i= !lt i j
 tr:∀i j k,i<n->j<n->k<n->lt i j=true->lt j k=true->lt i k=true
section
variable {n:Nat} {lt:Nat->Nat->Bool}
def Pm (n:Nat) (p:Array Nat):Prop:=p.toList.Perm (List.range n)
theorem Pm.size {p:Array Nat} (h:Pm n p):p.size=n:=by have:=h.length_eq;simpa using this
theorem Pm.bd {p:Array Nat} (h:Pm n p) (hn:0<n) (i:Nat):p.getD i 0<n:=by
 by_cases c:i<p.size
 ·have e:p.getD i 0=p[i]:=by simp[Array.getD,c]
  rw[e]
  have:p[i]∈List.range n:=h.mem_iff.mp (by simp)
  exact lJy.mp this
 ·have e:p.getD i 0=0:=by simp[Array.getD,c]
  rw[e];exact hn
theorem Pm.ne {p:Array Nat} (h:Pm n p) {i j:Nat} (hi:i<n) (hj:j<n) (hij:i≠j):p.getD i 0≠p.getD j 0:=by
 have hs:=h.size
 have nd:p.toList.Nodup:=h.nodup_iff.mpr lXf
 have e1:p.getD i 0=p[i]:=by simp[Array.getD,hs,hi]
 have e2:p.getD j 0=p[j]:=by simp[Array.getD,hs,hj]
 rw[e1,e2]
 intro z
 have:=(List.getElem_inj (xs:=p.toList) (h₀:=by simpa[hs] using hi) (h₁:=by simpa[hs] using hj) nd).mp (by simpa using z)
 exact hij this
theorem Pm.rev {p:Array Nat} (h:Pm n p) (i j:Nat):Pm n (kas_rev p i j):=(Array.perm_iff_toList_perm.mp (mirror_perm p i j _)).trans h
theorem Pm.bub {p:Array Nat} (h:Pm n p) (i j:Nat):Pm n (bubble p i j):=(Array.perm_iff_toList_perm.mp (bubble_perm p i j)).trans h
def Srt (lt:Nat->Nat->Bool) (p:Array Nat) (m:Nat):Prop:=∀a b,a<b->b<m->lt (p.getD a 0) (p.getD b 0)=true
theorem qVo (O:SOrd n lt) {p:Array Nat} (hp:Pm n p) (hn:0<n):∀(f a:Nat),1<=a->a+f<=n->Srt lt p a->Rn n lt (kas_asc p f a) (fun m=>a<=m/\m<=a+f/\Srt lt p m/\(m<a+f->lt (p.getD m 0) (p.getD (m-1) 0)=true))
 | 0,a,_,_,hs=>⟨lJh _,lJh _,hs,fun z=>absurd z (by omega)⟩
 | f+1,a,h1,hf,hs=>by
  refine⟨hp.bd hn _,hp.bd hn _,?_⟩
  cases c:lt (p.getD a 0) (p.getD (a-1) 0) with
  | true=>dsimp only;rw[if_pos rfl];exact⟨Nat.le_refl _,by omega,hs,fun _=>c⟩
  | false=>
   dsimp only
   rw[lJb (by decide)]
   have up:lt (p.getD (a-1) 0) (p.getD a 0)=true:=by
    have:=O.neg _ _ (hp.bd hn a) (hp.bd hn (a-1)) (hp.ne (by omega) (by omega) (by omega))
    rw[c] at this;exact this
   have hs':Srt lt p (a+1):=by
    intro x y hxy hy
    by_cases e:y=a
    ·subst e
     by_cases e2:x=y-1
     ·subst e2;exact up
     ·exact O.tr _ _ _ (hp.bd hn _) (hp.bd hn _) (hp.bd hn _) (hs x (y-1) (by omega) (by omega)) up
    ·exact hs x y hxy (by omega)
   refine (qVo O hp hn f (a+1) (by omega) (by omega) hs').mono fun m hm=>⟨by omega,by omega,hm.2.2.1,fun z=>hm.2.2.2 (by omega)⟩
def Dsc (lt:Nat->Nat->Bool) (p:Array Nat) (m:Nat):Prop:=∀a b,a<b->b<m->lt (p.getD b 0) (p.getD a 0)=true
theorem qU2 (O:SOrd n lt) {p:Array Nat} (hp:Pm n p) (hn:0<n):∀(f a:Nat),1<=a->a+f<=n->Dsc lt p a->Rn n lt (kas_desc f p a 0) (fun r=>r.1=p/\a<=r.2.1/\r.2.1<=a+f/\r.2.2=0/\Dsc lt p r.2.1)
 | 0,a,_,_,hs=>⟨rfl,lJh _,lJh _,rfl,hs⟩
 | f+1,a,h1,hf,hs=>by
  refine⟨hp.bd hn _,hp.bd hn _,?_⟩
  cases c:lt (p.getD a 0) (p.getD (a-1) 0) with
  | true=>
   dsimp only
   rw[lJc rfl,lJb (by omega)]
   have hs':Dsc lt p (a+1):=by
    intro x y hxy hy
    by_cases e:y=a
    ·subst e
     by_cases e2:x=y-1
     ·subst e2;exact c
     ·exact O.tr _ _ _ (hp.bd hn _) (hp.bd hn _) (hp.bd hn _) c (hs x (y-1) (by omega) (by omega))
    ·exact hs x y hxy (by omega)
   exact (qU2 O hp hn f (a+1) (by omega) (by omega) hs').mono fun r hr=>⟨hr.1,by omega,by omega,hr.2.2.2⟩
  | false=>
   dsimp only
   rw[lJb (by decide)]
   have up:lt (p.getD (a-1) 0) (p.getD a 0)=true:=by
    have:=O.neg _ _ (hp.bd hn a) (hp.bd hn (a-1)) (hp.ne (by omega) (by omega) (by omega))
    rw[c] at this;exact this
   refine⟨hp.bd hn _,hp.bd hn _,?_⟩
   rw[up]
   dsimp only
   rw[lJc rfl]
   exact⟨rfl,lJh _,lXi _ _,rfl,hs⟩
theorem qK1 {p:Array Nat} {m k:Nat} (hm:m<=p.size) (hk:k<m):(kas_rev p 0 m).getD k 0=p.getD (m-1-k) 0:=by
 have:=getElem?_mirror_all (xs:=p) (i:=0) (j:=m) hm k
 rw[lJc ⟨lJs _,hk⟩,Nat.zero_add] at this
 unfold kas_rev
 rw[lVi,lVi,this]
theorem uJl {p:Array Nat} {m:Nat} (hm:m<=p.size) (h:Dsc lt p m):Srt lt (kas_rev p 0 m) m:=by
 intro a b hab hb
 rw[qK1 hm (by omega),qK1 hm hb]
 exact h _ _ (by omega) (by omega)
theorem qZ8 (O:SOrd n lt) {p:Array Nat} (hp:Pm n p) (hn:0<n) {m:Nat} (h1:1<=m) (hm:m<=n) (h:Dsc lt p m):Rn n lt (kas_tail3 m n p) (fun r=>Pm n r.2/\1<=r.1/\r.1<=n/\Srt lt r.2 r.1):=by
 unfold kas_tail3
 refine Rn.bind ((qVo O (hp.rev 0 m) hn (n-m) m h1 (by omega) (uJl (by rw[hp.size];exact hm) h)).mono fun x hx=> ?_)
 exact⟨hp.rev 0 m,by omega,by omega,hx.2.2.1⟩
theorem qY3 (O:SOrd n lt) {p:Array Nat} (hp:Pm n p) (hn:0<n):Rn n lt (kas_count n p) (fun r=>Pm n r.2/\1<=r.1/\r.1<=n/\Srt lt r.2 r.1):=by
 unfold kas_count
 refine Rn.bind ((qVo O hp hn (n-1) 1 (lJh _) (by omega) (fun a b h1 h2=>by omega)).mono fun m hm=> ?_)
 by_cases e:m=n
 ·rw[lJc (by simpa using e)]
  exact⟨hp,by omega,by omega,hm.2.2.1⟩
 ·rw[lJb (by simpa using e)]
  have dn:=hm.2.2.2 (by omega)
  by_cases c:m>1
  ·rw[lJc c]
   refine⟨hp.bd hn _,hp.bd hn _,?_⟩
   rw[hm.2.2.1 0 (m-1) (by omega) (by omega)]
   dsimp only
   rw[lJc rfl]
   exact⟨hp,by omega,by omega,hm.2.2.1⟩
  ·rw[lJb c]
   have m1:m=1:=by omega
   subst m1
   unfold kas_descPart
   refine Rn.bind ((qU2 O hp hn (n-(1+1)) (1+1) (by omega) (by omega) ?_).mono fun r hr=> ?_)
   ·intro a b h1 h2
    have:a=0:=by omega
    have:b=1:=by omega
    subst a;subst b
    exact dn
   ·obtain⟨q,a,z⟩:=r
    obtain⟨r1,r2,r3,r4,r5⟩:=hr
    simp only at r1 r2 r3 r4 r5
    subst r1;subst r4
    rw[lJb (by simp)]
    exact qZ8 O hp hn (m:=a) (by omega) (by omega) r5
theorem kQq (O:SOrd n lt) {p:Array Nat} (hp:Pm n p) (hn:0<n) {k:Nat} (hk:k<n) (hs:Srt lt p k):∀(f l r:Nat),l<=r->r<=k->r-l<=f->(∀i,i<l->lt (p.getD i 0) (p.getD k 0)=true)->(∀i,r<=i->i<k->lt (p.getD k 0) (p.getD i 0)=true)->
  Rn n lt (kas_place p k f l r) (fun m=>m<=k/\(∀i,i<m->lt (p.getD i 0) (p.getD k 0)=true)/\(∀i,m<=i->i<k->lt (p.getD k 0) (p.getD i 0)=true))
 | 0,l,r,h1,h2,h3,h4,h5=>by
  have e:r=l:=by omega
  subst e
  exact⟨h2,h4,h5⟩
 | f+1,l,r,h1,h2,h3,h4,h5=>by
  unfold kas_place
  by_cases c:l>=r
  ·rw[lJc c]
   have e:r=l:=by omega
   subst e
   exact⟨h2,h4,h5⟩
  ·rw[lJb c]
   refine⟨hp.bd hn _,hp.bd hn _,?_⟩
   cases q:lt (p.getD k 0) (p.getD ((l+r) / 2) 0) with
   | true=>
    dsimp only
    rw[lJc rfl]
    refine kQq O hp hn hk hs f l _ (by omega) (by omega) (by omega) h4 fun i hi1 hi2=> ?_
    by_cases e:i=(l+r) / 2
    ·subst e;exact q
    ·exact O.tr _ _ _ (hp.bd hn _) (hp.bd hn _) (hp.bd hn _) q (hs _ _ (by omega) hi2)
   | false=>
    dsimp only
    rw[lJb (by decide)]
    have up:lt (p.getD ((l+r) / 2) 0) (p.getD k 0)=true:=by
     have:=O.neg _ _ (hp.bd hn k) (hp.bd hn ((l+r) / 2)) (hp.ne hk (by omega) (by omega))
     rw[q] at this;exact this
    refine kQq O hp hn hk hs f _ r (by omega) h2 (by omega) (fun i hi=> ?_) h5
    by_cases e:i=(l+r) / 2
    ·subst e;exact up
    ·exact O.tr _ _ _ (hp.bd hn _) (hp.bd hn _) (hp.bd hn _) (hs _ _ (by omega) (by omega)) up
theorem qVg {p:Array Nat} {k l x:Nat} (hk:k<p.size) (hl:l<=k):(bubble p k (k-l)).getD x 0=if x=l then p.getD k 0 else if l<x/\x<=k then p.getD (x-1) 0 else p.getD x 0:=by
 have:=getElem?_bubble hk (k-l) (by omega) x
 rw[show k-(k-l)=l by omega] at this
 simp only[lVi]
 rw[this]
 split
 ·rfl
 ·split<;>rfl
theorem qZ5 (O:SOrd n lt) (hn:0<n):∀(f:Nat) (p:Array Nat) (k:Nat),Pm n p->k+f=n->Srt lt p k->Rn n lt (kas_bin f p k) (fun q=>Pm n q/\Srt lt q n)
 | 0,p,k,hp,hf,hs=>by
  have:k=n:=by omega
  subst this
  exact⟨hp,hs⟩
 | f+1,p,k,hp,hf,hs=>by
  unfold kas_bin
  refine Rn.bind ((kQq O hp hn (by omega) hs k 0 k (lJs _) (lJh _) (by omega) (fun i hi=>by omega) (fun i h1 h2=>by omega)).mono fun l hl=> ?_)
  refine qZ5 O hn f _ (k+1) (hp.bub k (k-l)) (by omega) ?_
  obtain⟨l1,l2,l3⟩:=hl
  have hk:k<p.size:=by rw[hp.size];omega
  intro a b hab hb
  rw[qVg hk l1,qVg hk l1]
  by_cases ea:a=l
  ·rw[lJc ea,lJb (by omega),lJc (by omega)]
   exact l3 _ (by omega) (by omega)
  ·rw[lJb ea]
   by_cases eb:b=l
   ·rw[lJb (by omega),lJc eb]
    exact l2 a (by omega)
   ·rw[lJb eb]
    by_cases ca:l<a/\a<=k
    ·rw[lJc ca,lJc (by omega)]
     (exact hs _ _ (by omega) (by omega))
    ·rw[lJb ca]
     by_cases cb:l<b/\b<=k
     ·rw[lJc cb]
      (exact hs _ _ (by omega) (by omega))
     ·rw[lJb cb]
      (exact hs _ _ (by omega) (by omega))
theorem uJb (O:SOrd n lt) (hn:0<n):Rn n lt (kas_sort n) (fun p=>Pm n p/\Srt lt p n):=by
 unfold kas_sort
 have hp:Pm n (List.toArray (List.range n)):= .refl _
 refine Rn.bind ((qY3 O hp hn).mono fun r hr=> ?_)
 obtain⟨m,q⟩:=r
 obtain⟨h1,h2,h3,h4⟩:=hr
 simp only at h1 h2 h3 h4 ⊢
 by_cases c:m<n
 ·rw[lJc c,show max m 1=m by omega]
  exact qZ5 O hn (n-m) q m h1 (by omega) h4
 ·rw[lJb c]
  have:m=n:=by omega
  subst this
  exact⟨h1,h4⟩
end
structure KOrd {K:Type} (lt:K->K->Option Bool):Prop where
 neg:∀ {a b},a≠b->∀ {c},lt a b=some c->lt b a=some !c
 tr:∀ {a b c},a≠b->b≠c->lt a b=some true->lt b c=some true->lt a c=some true
 ir:∀ {a b},a≠b->lt a b=some true->lt b a=some true->False
theorem kord_I:KOrd ltI:=by
 refine⟨?_,?_,?_⟩
 ·rintro (a | a) (b | b) h c e
  ·have hab:a≠b:=fun z=>h (by rw[z])
   simp only[ltI,lQ7] at e ⊢
   rw[<-e]
   by_cases q:a<b
   ·rw[lKa q,lJ0 (by omega)];rfl
   ·rw[lJ0 q,lKa (by omega)];rfl
  ·cases e
  ·cases e
  ·cases e
 ·rintro (a | a) (b | b) (c | c) _ _ e1 e2<;>first | cases e1;done | cases e2;done | skip
  simp only[ltI,lQ7,lVa] at e1 e2 ⊢
  omega
 ·rintro (a | a) (b | b) _ e1 e2<;>first | cases e1;done | skip
  simp only[ltI,lQ7,lVa] at e1 e2
  omega
section
variable {K:Type} [DecidableEq K] {lt:K->K->Option Bool}
theorem kXx (o:KOrd lt):∀ {a b:List K},a≠b->∀ {c},lexLt lt a b=some c->lexLt lt b a=some !c
 | [],[],h,_,_=>absurd rfl h
 | [],_::_,_,c,e=>by cases e;rfl
 | _::_,[],_,c,e=>by cases e;rfl
 | x::xs,y::ys,h,c,e=>by
  unfold lexLt at e ⊢
  by_cases q:x=y
  ·rw[lJc q] at e;rw[lJc q.symm]
   exact kXx o (fun z=>h (by rw[q,z])) e
  ·rw[lJb q] at e;rw[lJb (fun z=>q z.symm)]
   exact o.neg q e
theorem kY2 (o:KOrd lt):∀ {a b c:List K},lexLt lt a b=some true->lexLt lt b c=some true->lexLt lt a c=some true
 | [],[],_,e,_=>by cases e
 | _::_,[],_,e,_=>by cases e
 | [],_::_,[],_,e=>by cases e
 | [],_::_,_::_,_,_=>(rfl)
 | _::_,_::_,[],_,e=>by cases e
 | x::xs,y::ys,z::zs,e1,e2=>by
  unfold lexLt at e1 e2 ⊢
  by_cases q1:x=y
  ·subst q1
   rw[lJc rfl] at e1
   by_cases q2:x=z
   ·rw[lJc q2] at e2 ⊢
    exact kY2 o e1 e2
   ·rw[lJb q2] at e2 ⊢
    exact e2
  ·rw[lJb q1] at e1
   by_cases q2:y=z
   ·subst q2
    rw[lJb q1]
    exact e1
   ·rw[lJb q2] at e2
    by_cases q3:x=z
    ·subst q3
     exact (o.ir q1 e1 e2).elim
    ·rw[lJb q3]
     exact o.tr q1 q2 e1 e2
theorem kQv (o:KOrd lt):KOrd (lexLt lt):=by
 refine⟨?_,?_,?_⟩
 ·intro a b h c e;exact kXx o h e
 ·intro a b c _ _ e1 e2;exact kY2 o e1 e2
 ·intro a b h e1 e2
  have:=kXx o h e1
  rw[e2] at this;cases this
theorem kY3 (o:KOrd lt):KOrd (ltS lt):=by
 refine⟨?_,?_,?_⟩
 ·rintro (a | a) (b | b) h c e
  ·exact kord_I.neg (fun z=>h (by rw[z])) e
  ·cases e
  ·cases e
  ·exact (kQv o).neg (fun z=>h (by rw[z])) e
 ·rintro (a | a) (b | b) (c | c) h1 h2 e1 e2<;>first | cases e1;done | cases e2;done | skip
  ·exact kord_I.tr (fun z=>h1 (by rw[z])) (fun z=>h2 (by rw[z])) e1 e2
  ·exact kY2 o e1 e2
 ·rintro (a | a) (b | b) h e1 e2<;>first | cases e1;done | skip
  ·exact kord_I.ir (fun z=>h (by rw[z])) e1 e2
  ·exact (kQv o).ir (fun z=>h (by rw[z])) e1 e2
end
theorem kord:KOrd ltK:=kQv (kY3 (kY3 kord_I))
theorem uKf {a b c:TKey} (h1:ltK a b=some true) (h2:ltK b c=some true):ltK a c=some true:=kY2 (kY3 (kY3 kord_I)) h1 h2
def kVc:TKey->Bool->Prop
 | .inl _::_,b=>b=true
 | .inr _::_,b=>b=false
 | [],_=>False
section
variable {prog:Program} {w:World} {A:Around} {E:Value->Shared->Prop} {s:Shared}
theorem kU7 {Q:Bool->Shared->Prop} {b:Bool} {n1 n2:Nat} {c:Bool} (hu:A.units+6<cLine) (hq:Q c s):∀(i:Nat) (x y:TKey) (vs ws:List Value),ItemsV (vk2 prog w) s.heap x vs->ItemsV (vk2 prog w) s.heap y ws->x.length+n2=y.length+n1->lexLt (ltS (ltS ltI)) x y=some c->((b&&i == 0)=true->(∀k,k∈x->i=0->x.head? =some k->∃z,k= .inl z)/\(∀k,k∈y->i=0->y.head? =some k->∃z,k= .inl z))->
  KatLex prog w A b (decide (n1<n2)) Q (vs.zip ws) i s
 | i,_,_,_,_,.nil,.nil,hn,hl,_=>by
  simp only[lK3] at hn
  cases hl
  refine kat_nil ?_
  rw[lJ0 (by omega)];exact hq
 | i,_,_,_,_,.nil,.cons _ _,hn,hl,_=>by
  simp only[lK3,lJz] at hn
  cases hl
  refine kat_nil ?_
  rw[lKa (by omega)];exact hq
 | i,_,_,_,_,.cons _ _,.nil,hn,hl,_=>by
  simp only[lK3,lJz] at hn
  cases hl
  refine kat_nil ?_
  rw[lJ0 (by omega)];exact hq
 | i,_,_,_,_,@ItemsV.cons _ _ _ _ _ _ _ k1 v1 ks1 vs1 h1 t1,@ItemsV.cons _ _ _ _ _ _ _ k2 v2 ks2 vs2 h2 t2,hn,hl,hb=>by
  simp only[lJz] at hn
  rw[lVr]
  refine kat_cons (((vk2 prog w).eqAt (by omega) h1 h2) prog w _ _ ?_)
  unfold lexLt at hl
  by_cases e:k1=k2
  ·rw[lJc e] at hl
   rw[lKa e]
   refine kat_yes (kU7 hu hq (i+1) _ _ _ _ t1 t2 (by omega) hl fun z=> ?_)
   simp at z
  ·rw[lJb e] at hl
   rw[lJ0 e]
   refine kat_no ?_
   cases q:(b&&i == 0) with
   | false=>exact kat_one _ _ (qZy (qZy qQ2) (by omega) h1 h2 hl hq)
   | true=>
    have hi:i=0:=by simp at q;exact q.2
    obtain⟨z1,z2⟩:=hb q
    obtain⟨a,rfl⟩:=z1 k1 (lJu ..) hi rfl
    obtain⟨a',rfl⟩:=z2 k2 (lJu ..) hi rfl
    rcases jJt (show jXh a v1=true from h1) with ⟨p,t,rfl,rfl⟩ | ⟨p,t,rfl,rfl⟩
    ·rcases jJt (show jXh a' v2=true from h2) with ⟨p',t',rfl,rfl⟩ | ⟨p',t',rfl,rfl⟩
     ·cases hl
      exact oneLt_int hq
     ·cases hl
    ·cases hl
theorem ask_ok {b:Bool} {x y:TKey} {a1 a2:Addr} {c:Bool} {Q:Bool->Shared->Prop} (hu:A.units+6<cLine) (h1:(jJh prog w).is s.heap x a1) (h2:(jJh prog w).is s.heap y a2) (hl:ltK x y=some c) (hx:kVc x b) (hy:kVc y b) (hq:Q c s):wpAny (model prog w) A (keyLt' (tuples' b) (.ref a1) (.ref a2)) Q E s:=by
 obtain⟨p1,o1,its1,n1,e1,ho1,hc1,hd1,hi1⟩:=(show kJ1 _ _ _ _ from h1)
 obtain⟨p2,o2,its2,n2,e2,ho2,hc2,hd2,hi2⟩:=(show kJ1 _ _ _ _ from h2)
 cases e1;cases e2
 refine kat_lt ho1 hd1 ho2 hd2 (kU7 hu hq 0 x y _ _ hi1 hi2 ?_ hl fun z=> ?_)
 ·have l1:=hi1.length
  have l2:=hi2.length
  simp at l1 l2
  omega
 ·have hb:b=true:=by simpa using z
  subst hb
  refine⟨fun k _ _ hk=> ?_,fun k _ _ hk=> ?_⟩
  ·match x,hx,hk with
   | .inl u::_,_,e=>cases e;exact⟨u,rfl⟩
  ·match y,hy,hk with
   | .inl u::_,_,e=>cases e;exact⟨u,rfl⟩
def tyOf (b:Bool):Value:=if b=true then .type "int" else .type "tuple"
theorem kU6 {b:Bool}:∀(es:List (TKey×Addr)),(∀e,e∈es->(jJh prog w).is s.heap e.1 e.2/\kVc e.1 b/\intT e.1=true)->∃fs,KatTups s.heap (es.map fun e=> .ref e.2) fs/\fs.length=es.length/\∀v,v∈fs->Looks (model prog w) s.heap (typeOf v) (tyOf b)
 | [],_=>⟨[],.nil,rfl,fun v hv=>absurd hv (lKd)⟩
 | (k,a)::es,h=>by
  obtain⟨fs,t,l,hf⟩:=kU6 es fun e he=>h e (lJx _ he)
  obtain⟨h1,h2,h3⟩:=h (k,a) (lJu ..)
  obtain⟨p1,o1,its1,n1,e1,ho1,hc1,hd1,hi1⟩:=(show kJ1 _ _ _ _ from h1)
  cases e1
  match k,h2,h3,hi1 with
  | .inl u::ks,hb,h3,hi=>
   cases (show b=true from hb)
   generalize hits:its1.toList=its at hi
   cases hi with
   | @cons _ v _ vs hv ht=>
    refine⟨v::fs,.cons ho1 hc1 hd1 (by rw[<-lQu,hits];rfl) t,by simp[l],fun x hx=> ?_⟩
    (rcases lJl.mp hx with rfl | hx)
    ·rcases jJt (show jXh u x=true from hv) with ⟨i,tk,_,rfl⟩ | ⟨i,tk,rfl,rfl⟩
     ·exact Looks.of_pure rfl
     ·simp[intT,intS,intK] at h3
    ·exact hf x hx
  | .inr u::ks,hb,h3,hi=>
   cases (show b=false from hb)
   generalize hits:its1.toList=its at hi
   cases hi with
   | @cons _ v _ vs hv ht=>
    obtain⟨p2,o2,its2,n2,e2,ho2,hc2,hd2,hi2⟩:=(show kJ1 _ _ u v from hv)
    subst e2
    refine⟨.ref p2::fs,.cons ho1 hc1 hd1 (by rw[<-lQu,hits];rfl) t,by simp[l],fun x hx=> ?_⟩
    (rcases lJl.mp hx with rfl | hx)
    ·have:=(Looks.ld (M:=model prog w) (part:=none) ho2).andThen (f:=fun o=>pure o.cls) .now
     rw[hc2] at this
     exact this
    ·exact hf x hx
theorem uKi {b:Bool} {es:List (TKey×Addr)} (h:∀e,e∈es->(jJh prog w).is s.heap e.1 e.2/\kVc e.1 b/\intT e.1=true) (hne:0<es.length) {Q:SortKind->Shared->Prop} (hq:Q (tuples' b) s):wpAny (model prog w) A (keyKind' (List.toArray (es.map fun e=>Value.ref e.2))) Q E s:=by
 obtain⟨fs,t,l,hf⟩:=kU6 es h
 refine kat_kind (T:=tyOf b) t (by omega) hf (by cases b<;>decide) ?_
 rw[show (tyOf b != Value.type "tuple")=b by cases b<;>decide]
 exact hq
theorem qKo {a n:Nat} {b:Bool} {es:List (TKey×Addr)} (ho:s.heap.get? a=some (seqObj "list" (List.toArray (es.map fun e=>Value.ref e.2)) n)) (hu:A.units+6<cLine) (h:∀e,e∈es->(jJh prog w).is s.heap e.1 e.2/\kVc e.1 b/\intT e.1=true) (hlt:∀e,e∈es->∀e',e'∈es->(ltK e.1 e'.1).isSome=true) (hnd:(es.map (·.1)).Nodup) (h64:es.length<64) {P:PySem.Fin->Shared->Prop}
  (k:∀(es':List (TKey×Addr)) (h':Heap) (c:Nat),es'.Perm es->es'.Pairwise (fun x y=>ltK x.1 y.1=some true)->h'.get? a=some (seqObj "list" (List.toArray (es'.map fun e=>Value.ref e.2)) c)->(∀p o,p≠a->s.heap.get? p=some o->h'.get? p=some o)->P (.done (.ret .none)) {s with heap:=h'}):wpAny (model prog w) A (Builtin.«list.sort» ⟨[.ref a],[]⟩) P E s:=by
 (have ha:a<s.heap.objs.size:=lJj ho)
 have hlen:(es.map fun e=>Value.ref e.2).length=es.length:=lJf ..
 rw[list_sort_plain]
 (refine lJa (listItems_at ho rfl ?_))
 refine lJa (listUpdate_at ho rfl ?_ (by rw[lJv,hlen,lKe];omega) (lJs _))
 (obtain⟨e1,ho1⟩:∃e1,(s.heap.update a (Obj.mapSeq fun _=>(#[]:Array Value))).get? a=some (seqObj "list" #[] e1):=⟨_,get?_update_seq ho fun _=> #[]⟩)
 (refine lJa (seqEpoch_at ho1 rfl ?_))
 refine lJa (wpAny_newTuple ?_ (by show (es.map fun e=>Value.ref e.2).length<=_;rw[hlen,lKe];omega))
 (refine lJa (wpAny_newList ?_ (lJs _)))
 refine lK4 ?_
 generalize hg:((s.heap.update a (Obj.mapSeq fun _=>(#[]:Array Value))).push (seqObj "tuple" (List.toArray (es.map fun e=>Value.ref e.2)) 0)).push (seqObj "list" #[] 0)=h1
 refine (show wpAny (model prog w) A _ P E {s with heap:=h1} from ?_)
 have oth:∀p o,p≠a->s.heap.get? p=some o->h1.get? p=some o:=by
  intro p o hp e
  rw[<-hg]
  exact lJm _ (lJm _ ((Heap.get?_update_ne _ _ _ _ hp).trans e))
 have ho6:h1.get? a=some (seqObj "list" #[] e1):=by
  rw[<-hg]
  exact lJm _ (lJm _ ho1)
 have tk:TupKept s.heap h1:=by
  intro p o e hc
  refine oth p o ?_ e
  rintro rfl
  rw[ho] at e;cases e
  exact absurd hc (show ¬ Value.type "list"=Value.type "tuple" by decide)
 have hk1:∀e,e∈es->(jJh prog w).is h1 e.1 e.2/\kVc e.1 b/\intT e.1=true:=fun e he=>⟨jQg tk (h e he).1,(h e he).2⟩
 have fin:∀(out:List (TKey×Addr)),out.Perm es->out.Pairwise (fun x y=>ltK x.1 y.1=some true)->∀st':SortSt,(arrOf st').map (·.2)=List.toArray (out.map fun e=>Value.ref e.2)->failedOf st'=none->
   wpAny (model prog w) A (do
    let touched:=(<-seqEpoch a) != e1
    Builtin.List.listUpdate (.ref a) fun _=>(arrOf st').map (·.2)
    if let some e:=failedOf st' then rule "list.sort.comparison-raised"; throw e
    if (touched) then rule "list.sort.modified"; raiseError "ValueError" "list modified during sort"
    ret .none) P E {s with heap:=h1}:=by
  intro out hp hs st' hout hf
  rw[hout,hf]
  have hol:out.length=es.length:=hp.length_eq
  refine lJa (seqEpoch_at (s:={s with heap:=h1}) ho6 rfl ?_)
  refine lJa (listUpdate_at (s:={s with heap:=h1}) ho6 rfl ?_ (lJs _) (by rw[lJv,lJf,hol,lKe];omega))
  (simp only[bne_self_eq_false,lKq,lJt])
  refine lJd (k out _ _ hp hs (get?_update_seq ho6 fun _=>List.toArray (out.map fun e=>Value.ref e.2)) fun p o hpa e=>(Heap.get?_update_ne _ _ _ _ hpa).trans (oth p o hpa e))
 dsimp only
 by_cases h2:(List.toArray (es.map fun e=>Value.ref e.2)).size<2
 ·rw[lJc h2,lJc h2]
  refine lJa (lJd ?_)
  rw[StateT.run_pure]
  refine lJa (lJd ?_)
  refine fin es (.refl _) ?_ _ ?_ rfl
  ·rw[lJv,hlen] at h2
   match es,h2 with
   | [],_=>exact .nil
   | [_],_=>exact List.pairwise_singleton _ _
  ·apply Array.toList_inj.mp
   show (((List.toArray (es.map fun e=>Value.ref e.2)).zip (List.toArray (es.map fun e=>Value.ref e.2))).map (·.2)).toList=_
   rw[Array.toList_map,ksk_zip,List.map_snd_zip (lJh _)]
 ·rw[lJb h2,lJb h2]
  rw[lJv,hlen] at h2
  refine lJa (uKi (s:={s with heap:=h1}) hk1 (by omega) ?_)
  have at_:∀i,i<es.length->∃e,e∈es/\es[i]? =some e/\(es.map fun e=>Value.ref e.2).getD i Value.none= .ref e.2:=by
   intro i hi
   refine⟨es[i],lXg hi,lJg hi,?_⟩
   simp[hi]
  let lt:Nat->Nat->Bool:=fun i j=>match es[i]?,es[j]? with
   | some x,some y=>ltK x.1 y.1 == some true
   | _,_=>false
  have lt_eq:∀(i j:Nat) (x y:TKey×Addr),es[i]? =some x->es[j]? =some y->lt i j=(ltK x.1 y.1 == some true):=by
   intro i j x y h1 h2
   show (match es[i]?,es[j]? with | some x,some y=>ltK x.1 y.1 == some true | _,_=>false)=_
   rw[h1,h2]
  have key_ne:∀(i j:Nat) (x y:TKey×Addr),i≠j->es[i]? =some x->es[j]? =some y->x.1≠y.1:=by
   intro i j x y hij h1 h2 z
   have e1:(es.map (·.1))[i]? =some x.1:=by rw[lJn,h1];rfl
   have e2:(es.map (·.1))[j]? =some x.1:=by rw[lJn,h2,z];rfl
   exact hij ((lQ8 (lJe.mp e1).1 hnd).mp (e1.trans e2.symm))
  have O:SOrd es.length lt:=by
   refine⟨fun i j hi hj hij=> ?_,fun i j q hi hj hq h1 h2=> ?_⟩
   ·obtain⟨x,mx,ex,_⟩:=at_ i hi
    obtain⟨y,my,ey,_⟩:=at_ j hj
    obtain⟨c,hc⟩:=lXm.mp (hlt x mx y my)
    rw[lt_eq _ _ _ _ ey ex,lt_eq _ _ _ _ ex ey,hc,kord.neg (key_ne i j x y hij ex ey) hc]
    cases c<;>rfl
   ·obtain⟨x,mx,ex,_⟩:=at_ i hi
    obtain⟨y,my,ey,_⟩:=at_ j hj
    obtain⟨z,mz,ez,_⟩:=at_ q hq
    rw[lt_eq _ _ _ _ ex ey] at h1
    rw[lt_eq _ _ _ _ ey ez] at h2
    rw[lt_eq _ _ _ _ ex ez]
    have:=uKf (eq_of_beq h1) (eq_of_beq h2)
    rw[this];rfl
  refine lJa (lQb (kat_run (prog:=prog) (w:=w) (A:=A) (κ:=tuples' b) (vs:=es.map fun e=>Value.ref e.2) (ks:=es.map fun e=>Value.ref e.2) (s:={s with heap:=h1}) (Q:=fun st' s'=>s'={s with heap:=h1}/\∃p:Array Nat,Pm es.length p/\Srt lt p es.length/\arrOf st'=p.map (kas_item ((List.toArray (es.map fun e=>Value.ref e.2)).zip (List.toArray (es.map fun e=>Value.ref e.2))))/\failedOf st'=none) (G:=fun p s'=>s'={s with heap:=h1}/\Pm es.length p/\Srt lt p es.length)
   rfl (by rw[hlen];omega) (by rw[hlen];exact h64) (fun p st' s' a1 a2 a3 a4=>⟨a4.1,p,a4.2.1,a4.2.2,a2,a3⟩) ?_) ?_ fun _ _ x=>x)
  ·rw[hlen]
   refine Rn.wp (n:=es.length) (lt:=lt) (Q:=fun p=>Pm es.length p/\Srt lt p es.length) (fun i j C hi hj hC=> ?_) (fun p hp=>⟨rfl,hp⟩) (uJb O (by omega))
   obtain⟨x,mx,ex,vx⟩:=at_ i hi
   obtain⟨y,my,ey,vy⟩:=at_ j hj
   obtain⟨c,hc⟩:=lXm.mp (hlt x mx y my)
   unfold kas_ask
   rw[vx,vy]
   refine ask_ok (s:={s with heap:=h1}) hu (hk1 x mx).1 (hk1 y my).1 hc (hk1 x mx).2.1 (hk1 y my).2.1 ?_
   rw[lt_eq _ _ _ _ ex ey,hc] at hC
   cases c<;>exact hC
  ·rintro⟨⟨⟩,st'⟩ s' ⟨rfl,p,hp,hs,har,hf⟩
   have hout:=kat_snds (ks:=es.map fun e=>Value.ref e.2) (vs:=es.map fun e=>Value.ref e.2) rfl har
   have pe:(p.toList.filterMap (es[·]?)).Perm es:=kKm hp
   have ge:∀l:List Nat,(∀i,i∈l->i<es.length)->l.map (fun i=>(es.map fun e=>Value.ref e.2).getD i Value.none)=(l.filterMap (es[·]?)).map fun e=>Value.ref e.2:=by
    intro l hl
    induction l with
    | nil=>rfl
    | cons i l ih=>
     obtain⟨x,mx,ex,vx⟩:=at_ i (hl i (lJu ..))
     rw[lVx ex,lJq,lJq,vx,ih fun j hj=>hl j (lJx _ hj)]
   refine fin (p.toList.filterMap (es[·]?)) pe ?_ st' ?_ hf
   ·rw[List.pairwise_filterMap]
    refine lX2.mpr fun i j hi hj hij x hx y hy=> ?_
    have hi':i<p.size:=by simpa using hi
    have hj':j<p.size:=by simpa using hj
    have:=hs i j hij (by rw[<-hp.size];exact hj')
    rw[lt_eq _ _ x y (by rw[St.getD_at hi'];simpa using hx) (by rw[St.getD_at hj'];simpa using hy)] at this
    exact eq_of_beq this
   ·rw[hout,ge p.toList fun i hi=>lJy.mp (hp.mem_iff.mp hi)]
end
theorem kXl {α β:Type} {f:α->β} {l l':List β} (h:l.Perm l'):∀es:List α,l'=es.map f->∃es':List α,es'.Perm es/\l=es'.map f:=by
 induction h with
 | nil=>intro es e;cases es with | nil=>exact⟨[],.refl _,rfl⟩ | cons _ _=>cases e
 | cons x _ ih=>
  intro es e
  cases es with
  | nil=>cases e
  | cons a es=>
   rw[lJq,lK9] at e
   obtain⟨es',h1,h2⟩:=ih es e.2
   exact⟨a::es',h1.cons a,by rw[lJq,e.1,h2]⟩
 | swap x y l=>
  intro es e
  match es,e with
  | a::b::es,e=>
   rw[lJq,lJq,lK9,lK9] at e
   exact⟨b::a::es,.swap _ _ _,by rw[lJq,lJq,e.1,e.2.1,e.2.2]⟩
 | trans _ _ ih1 ih2=>
  intro es e
  obtain⟨es',h1,h2⟩:=ih2 es e
  obtain⟨es'',h3,h4⟩:=ih1 es' h2
  exact⟨es'',h3.trans h1,h4⟩
section
variable {prog:Program} {w:World} {A:Around} {E:Value->Shared->Prop} {s:Shared}
theorem kZ3 {S:Addr} {b:Bool} {kb:List (TKey×Addr)} (hS:SetIs prog w s.heap S kb) (hh:A.handled=none) (hu:A.units+20<cLine) (h:∀e,e∈kb->kVc e.1 b/\intT e.1=true) (hlt:∀e,e∈kb->∀e',e'∈kb->(ltK e.1 e'.1).isSome=true) {us:List TKey} (hus:us.length<64) (hkus:∀e,e∈kb->e.1∈us) {Q:Value->Shared->Prop}
  (k:∀(es:List (TKey×Addr)) (h':Heap) (tk:Nat) (D c:Nat),Put es kb->es.Pairwise (fun x y=>ltK x.1 y.1=some true)->s.heap.objs.size<=D->h'.get? D=some (seqObj "list" (List.toArray (es.map fun e=>Value.ref e.2)) c)->(∀p o,s.heap.get? p=some o->h'.get? p=some o)->Q (.ref D) {s with heap:=h',toks:=tk}):
  wpAny (model prog w) A (call (.builtin "sorted") [.ref S]) Q E s:=by
 obtain⟨o,arr,ep,t,es,d,p,l⟩:=hS
 have el:es.length<64:=Nat.lt_of_le_of_lt (p.few hkus) hus
 (refine Calls.call_function_entry kind_sorted plain_sorted entry_sorted (args_sorted1 _) ?_)
 unfold Builtin.«sorted»
 (refine lJa (m:=checkCount "sorted" 1 1 _) (lJd ?_))
 refine lJa (kX7 (A:=A.in1) d l (by simpa using hh) fun g tk acc kp big pe=> ?_)
 obtain⟨es2,pe2,rfl⟩:=kXl pe es rfl
 have l2:es2.length=es.length:=pe2.length_eq
 refine lJa (wpAny_newList ?_ (by rw[lJf,lKe];omega))
 have hoL:(g.push (seqObj "list" (List.toArray (es2.map fun e=>Value.ref e.2)) 0)).get? g.objs.size=some (seqObj "list" (List.toArray (es2.map fun e=>Value.ref e.2)) 0):=lJ3 _ rfl
 refine lJa (lK4 (lQm slot_list_sort ⟨_,hoL,rfl⟩ entry_list_sort ?_ (args_list_sort _)))
 have hsub:∀e,e∈es2->e∈kb:=fun e he=>p.sub e (pe2.mem_iff.mp he)
 refine qKo (s:={s with heap:=g.push (seqObj "list" (List.toArray (es2.map fun e=>Value.ref e.2)) 0),toks:=tk}) (b:=b) hoL (by rw[lK5,lK5];omega) (fun e he=> ?_) (fun e he e' he'=>hlt e (hsub e he) e' (hsub e' he')) ((pe2.map _).nodup_iff.mpr p.nod) (by omega) fun es' h' c pe' so hD oth=> ?_
 ·exact⟨jQg (fun b ob e _=>lJm _ (kp b ob e)) (d.are e (pe2.mem_iff.mp he)),h e (hsub e he)⟩
 ·refine⟨_,rfl,lJd ⟨_,rfl,k es' h' tk _ c ?_ so (lVc big) hD fun q ob e=>oth q ob ?_ (lJm _ (kp q ob e))⟩⟩
  ·have pp:=pe'.trans pe2
   exact⟨fun e he=>p.sub e (pp.mem_iff.mp he),fun e he=>(pp.map (·.1)).mem_iff.mpr (p.all e he),(pp.map _).nodup_iff.mpr p.nod⟩
  ·exact lJw (lKb (lJj e) (lVc big))
end
theorem kJh {x y:T} {k:Key} (h1:jXg x=some k) (h2:jXg y=some k):x=y:=by
 cases x<;>cases h1<;>(cases y<;>cases h2;rfl)
theorem jZo {κ:Type} {f:T->Option κ} (hf:∀x y k,f x=some k->f y=some k->x=y):∀ {xs ys:List T} {ks:List κ},allK f xs=some ks->allK f ys=some ks->xs=ys
 | [],[],_,_,_=>rfl
 | [],y::ys,_,h1,h2=>by
  cases h1
  unfold allK at h2
  cases e1:f y<;>cases e2:allK f ys<;>rw[e1,e2] at h2<;>cases h2
 | x::xs,[],_,h1,h2=>by
  cases h2
  unfold allK at h1
  cases e1:f x<;>cases e2:allK f xs<;>rw[e1,e2] at h1<;>cases h1
 | x::xs,y::ys,ks,h1,h2=>by
  unfold allK at h1 h2
  cases e1:f x with
  | none=>rw[e1] at h1;cases h1
  | some k1=>
   cases e2:allK f xs with
   | none=>rw[e1,e2] at h1;cases h1
   | some k2=>
    rw[e1,e2] at h1;cases h1
    cases e3:f y with
    | none=>rw[e3] at h2;cases h2
    | some k3=>
     cases e4:allK f ys with
     | none=>rw[e3,e4] at h2;cases h2
     | some k4=>
      rw[e3,e4] at h2;cases h2
      rw[hf _ _ _ e1 e3,jZo hf e2 e4]
theorem qYb (x y:T) (k:K1) (h1:key1 x=some k) (h2:key1 y=some k):x=y:=by
 cases k with
 | inl k=>
  have f:∀z:T,key1 z=some (.inl k)->jXg z=some k:=by
   intro z hz
   cases z with
   | tup ts=>
    obtain⟨_,_,e⟩:=lKg.mp (show (allK jXg ts).map Sum.inr=some (Sum.inl k) from hz)
    cases e
   | int i=>cases hz;rfl
   | str i=>cases hz;rfl
   | _=>cases hz
  exact kJh (f x h1) (f y h2)
 | inr ks=>
  have f:∀z:T,key1 z=some (.inr ks)->∃ts,z= .tup ts/\allK jXg ts=some ks:=by
   intro z hz
   cases z with
   | tup ts=>
    obtain⟨k',h,e⟩:=lKg.mp (show (allK jXg ts).map Sum.inr=some (Sum.inr ks) from hz)
    cases e
    exact⟨ts,rfl,h⟩
   | _=>cases hz
  obtain⟨t1,rfl,e1⟩:=f x h1
  obtain⟨t2,rfl,e2⟩:=f y h2
  rw[jZo (fun _ _ _=>kJh) e1 e2]
theorem qX9 (x y:T) (k:K2) (h1:key2 x=some k) (h2:key2 y=some k):x=y:=by
 cases k with
 | inl k=>
  have f:∀z:T,key2 z=some (.inl k)->jXg z=some k:=by
   intro z hz
   cases z with
   | tup ts=>
    obtain⟨_,_,e⟩:=lKg.mp (show (allK key1 ts).map Sum.inr=some (Sum.inl k) from hz)
    cases e
   | int i=>cases hz;rfl
   | str i=>cases hz;rfl
   | _=>cases hz
  exact kJh (f x h1) (f y h2)
 | inr ks=>
  have f:∀z:T,key2 z=some (.inr ks)->∃ts,z= .tup ts/\allK key1 ts=some ks:=by
   intro z hz
   cases z with
   | tup ts=>
    obtain⟨k',h,e⟩:=lKg.mp (show (allK key1 ts).map Sum.inr=some (Sum.inr ks) from hz)
    cases e
    exact⟨ts,rfl,h⟩
   | _=>cases hz
  obtain⟨t1,rfl,e1⟩:=f x h1
  obtain⟨t2,rfl,e2⟩:=f y h2
  rw[jZo qYb e1 e2]
theorem qJo {xs ys:List T} {k:TKey} (h1:jQe xs=some k) (h2:jQe ys=some k):xs=ys:=jZo qX9 h1 h2
def SKey (b:Bool) (ts:List T) (k:TKey):Prop:=jQe ts=some k/\kVc k b/\intT k=true
theorem jQ4 {K:PySem.W.Frag} {H:Hp} {b:Bool}:∀ {tks:List (List T×TKey)} {vs:List V} {its:List Value},(∀e,e∈tks->SKey b e.1 e.2)->Reps K H (tks.map fun e=> .tup e.1) vs->Vals vs its->
  ∃tb:List ((List T×TKey)×Addr),tb.map (·.1)=tks/\vs=tb.map (fun e=> .ref e.2)/\its=tb.map (fun e=>Value.ref e.2)/\∀e,e∈tb->TKeyAt H e.1.2 e.2/\Rep K H (.tup e.1.1) (.ref e.2)
 | [],_,_,_,r,v=>by
  cases (show _=[] from r)
  cases v
  exact⟨[],rfl,rfl,rfl,fun e he=>absurd he (lKd)⟩
 | (ts,k)::tks,_,its,hk,⟨v,ws,e,r1,r2⟩,vv=>by
  subst e
  cases vv with
  | @cons _ u _ us hr hrs=>
  obtain⟨tb,h1,h2,h3,h4⟩:=jQ4 (fun e he=>hk e (lJx _ he)) r2 hrs
  obtain⟨a,vs',e,ha,hrep⟩:=(show ∃a vs',v= .ref a/\H a=some (.tup vs')/\Reps K H ts vs' from r1)
  subst e
  cases (show u=Value.ref a from hr)
  refine⟨((ts,k),a)::tb,by rw[lJq,h1],by rw[lJq,h2],by rw[lJq,h3],fun e he=> ?_⟩
  (rcases lJl.mp he with rfl | he)
  ·exact⟨jQq (hk _ (lJu ..)).1 ha hrep,r1⟩
  ·exact h4 e he
theorem qQk {tb:List ((List T×TKey)×Addr)}:∀(es:List (TKey×Addr)),(∀e,e∈es->e∈tb.map fun x=>(x.1.2,x.2))->∃tb':List ((List T×TKey)×Addr),tb'.map (fun x=>(x.1.2,x.2))=es/\∀e,e∈tb'->e∈tb
 | [],_=>⟨[],rfl,fun e he=>absurd he (lKd)⟩
 | e::es,h=>by
  obtain⟨tb',h1,h2⟩:=qQk es fun x hx=>h x (lJx _ hx)
  obtain⟨x,hx,ex⟩:=lJk.mp (h e (lJu ..))
  refine⟨x::tb',by rw[lJq,h1,ex],fun y hy=> ?_⟩
  (rcases lJl.mp hy with rfl | hy)
  ·exact hx
  ·exact h2 y hy
theorem qK2 {K:PySem.W.Frag} {H:Hp}:∀(tb:List ((List T×TKey)×Addr)),(∀e,e∈tb->Rep K H (.tup e.1.1) (.ref e.2))->Reps K H (tb.map fun e=> .tup e.1.1) (tb.map fun e=>V.ref e.2)
 | [],_=>rfl
 | e::tb,h=>⟨_,_,rfl,h e (lJu ..),qK2 tb fun x hx=>h x (lJx _ hx)⟩
theorem kKf:∀(bs:List ((List T×TKey)×Addr)),Vals (bs.map fun e=>V.ref e.2) (bs.map fun e=>Value.ref e.2)
 | []=> .nil
 | e::bs=> .cons rfl (kKf bs)
section
variable {X:Cx}
structure Rising (xs ys:List T) (kys:List (List T×TKey)):Prop where
 eq:ys=kys.map fun e=> .tup e.1
 keys:∀e,e∈kys->jQe e.1=some e.2
 mem:∀t,t∈ys↔t∈xs
 up:kys.Pairwise fun x y=>ltK x.2 y.2=some true
noncomputable def qKf (ta:TA3):TE3:=fun τ G Q=>ta τ G fun vs G1=>∃(x:T) (b:Bool) (tks:List (List T×TKey)),vs=[x]/\jQ8 G1 x=some (tks.map fun e:List T×TKey=> .tup e.1)/\(∃us:List TKey,us.length<64/\∀e,e∈tks->e.2∈us)/\(∀e,e∈tks->SKey b e.1 e.2)/\(∀e,e∈tks->∀e',e'∈tks->(ltK e.2 e'.2).isSome=true)/\
 ∀(p:Addr) (ys:List T) (kys:List (List T×TKey)),G1 p=none->Rising (tks.map fun e=> .tup e.1) ys kys->Q (.ref p) (gup G1 p (.lst ys))
theorem qZ3 {pos pos' p p':Pos} {a:Expr} {ta:TA3} (hc:X.calm=true) (hu:X.A.units+20<cLine) (hl:Gl X "sorted") (hlm:X.mg "sorted"=none) (hlv:bootBuiltins "sorted"=some (.builtin "sorted")) (hg:Gl X "set") (hm:X.mg "set"=none) (hv:bootBuiltins "set"=some (.type "set")) (ha:PA3 X [a] ta) (hs:starEach [a] X.env=[(false,eval a X.env)]:=by rfl)
  (hs':starEach [Expr.Call (.Name "set" p) [a] [] pos] X.env=[(false,eval (.Call (.Name "set" p) [a] [] pos) X.env)]:=by rfl):
  PE3 X (.Call (.Name "sorted" p') [.Call (.Name "set" p) [a] [] pos] [] pos') (qKf ta):=by
 intro pins s τ G H Q I h
 obtain⟨σ,I0,_,_⟩:=id I
 refine Call_ (jUu I0 hl hlm hlv (PyProof.Rows.callWith_builtin1 ?_ hs' rfl))
 rw[hs']
 refine Calls.spliced_cons (Call_ (jUu I0 hg hm hv (lQg (thn (ha pos pins s τ G H _ I h) fun us s1 w_=>w_.el fun ys G1 H1 e1 i_ r_ q1=>i_.el fun σ1 I1 hs1 hg1=>r_.el fun as ras rvs=> ?_) hs rfl)))
 obtain⟨x,b,tks,e,hx,⟨us,hus,hkus⟩,hk,hlt,q⟩:=q1
 subst e
 obtain⟨v,rfl,rv⟩:=jVl ras
 obtain⟨u,rfl,ru⟩:=rvs.one
 obtain⟨pa,vs,rfl,hq,r⟩:=jU6 hg1 rv hx
 cases ru
 obtain⟨its,rvv,pl,hz⟩:=I1.list hq
 obtain⟨tb,t1,t2,t3,t4⟩:=jQ4 hk r rvv
 have tl:tb.length=tks.length:=by rw[<-t1,lJf]
 have hmem:∀e,e∈tb->e.1∈tks:=fun e he=>by rw[<-t1];exact lJk.mpr ⟨e,he,rfl⟩
 have hkb:∀e,e∈(tb.map fun e=>(e.1.2,e.2))->e.1∈us:=by
  intro e he
  obtain⟨y,hy,rfl⟩:=lJk.mp he
  exact hkus _ (hmem y hy)
 refine kQb (kb:=tb.map fun e=>(e.1.2,e.2)) (I1.ok.hd hc) hu pl.isList (by rw[List.toList_toArray,t3,lJ6];rfl) (fun e he=> ?_) (by omega) hkb fun h2 tk2 hS kp2=> ?_
 ·obtain⟨y,hy,rfl⟩:=lJk.mp he
  exact⟨(hk _ (hmem y hy)).2.2,jYt I1.hok (t4 y hy).1⟩
 refine Calls.spliced_nil ?_
 refine kZ3 (s:={s1 with heap:=h2,toks:=tk2}) (b:=b) hS (I1.ok.hd hc) hu (fun e he=> ?_) (fun e he e' he'=> ?_) hus hkb fun es h3 tk3 D c hp so hD hoD kp3=> ?_
 ·obtain⟨y,hy,rfl⟩:=lJk.mp he
  exact (hk _ (hmem y hy)).2
 ·obtain⟨y,hy,rfl⟩:=lJk.mp he
  obtain⟨y',hy',rfl⟩:=lJk.mp he'
  exact hlt _ (hmem y hy) _ (hmem y' hy')
 obtain⟨tb',p1,p2⟩:=qQk es fun e he=>hp.sub e he
 have kp:∀b o,s1.heap.get? b=some o->h3.get? b=some o:=fun b o e=>kp3 b o (kp2 b o e)
 have hD1:s1.heap.objs.size<=D:=by
  obtain⟨o,_,_,_,_,d,_⟩:=hS
  exact lJ8 (lVc (lJj d.get)) hD
 have fr:=I1.hok.fresh hD1
 have es_len:tb'.length<=us.length:=by
  have:=hp.few hkb
  rw[<-p1,lJf] at this
  exact this
 have I3:=I1.laid (a:=D) (o:= .lst (tb'.map fun e=>V.ref e.2)) (h':=h3) (t':=tk3) kp hD1 ⟨by rw[lJf,lKe];omega,tb'.map fun e=>Value.ref e.2,c,kKf tb',by rw[<-p1,lJ6] at hoD;exact hoD⟩
 have ext:Ext H1 (upd H1 D (.lst (tb'.map fun e=>V.ref e.2))):= .upd (.none fr)
 refine⟨.ref D,_,_,e1.trans ext,⟨σ1,I3,hs1.mono ext,hg1.lstNew (qK2 tb' fun e he=>(t4 e (p2 e he)).2) (.none fr)⟩,⟨.ref D,rfl,rfl⟩,?_⟩
 refine q D _ (tb'.map (·.1)) (hg1.fresh fr) ⟨by rw[lJ6];rfl,fun e he=> ?_,fun t=>⟨fun ht=> ?_,fun ht=> ?_⟩,?_⟩
 ·obtain⟨y,hy,rfl⟩:=lJk.mp he
  exact (hk _ (hmem y (p2 y hy))).1
 ·obtain⟨y,hy,rfl⟩:=lJk.mp ht
  exact lJk.mpr ⟨y.1,hmem y (p2 y hy),rfl⟩
 ·obtain⟨y,hy,rfl⟩:=lJk.mp ht
  rw[<-t1] at hy
  obtain⟨z,hz',rfl⟩:=lJk.mp hy
  have:=hp.all (z.1.2,z.2) (lJk.mpr ⟨z,hz',rfl⟩)
  rw[<-p1,lJ6] at this
  obtain⟨z',hz'',ez⟩:=lJk.mp this
  have ek:z'.1.2=z.1.2:=ez
  refine lJk.mpr ⟨z',hz'',?_⟩
  have k1:=(hk _ (hmem z' (p2 z' hz''))).1
  have k2:=(hk _ (hmem z hz')).1
  rw[ek] at k1
  rw[qJo k1 k2]
 ·rw[<-p1,List.pairwise_map] at so
  rw[List.pairwise_map]
  exact so
end
end L3
namespace L3
open PySem PySem.Spec PyProof.Rows L2
section
variable {X:Cx}
theorem jYq {P:Program} {w:World} {K:PySem.W.Frag} {H:Hp} {h:Heap} (ok:HOk P w H h):∀ {kys:List (List T×TKey)} {vs:List V} {its:List Value},(∀e,e∈kys->jQe e.1=some e.2)->Reps K H (kys.map fun e=> .tup e.1) vs->Vals vs its->∀(i:Nat) (u:Value),its[i]? =some u->∃e b,kys[i]? =some e/\u= .ref b/\(jJh P w).is h e.2 b
 | [],_,_,_,r,v,i,u,hu=>by
  cases (show _=[] from r);cases v;simp at hu
 | e::kys,_,_,hk,⟨v,ws,ev,r1,r2⟩,vv,i,u,hu=>by
  subst ev
  cases vv with
  | @cons _ u0 _ us hr hrs=>
  cases i with
  | zero=>
   cases hu
   obtain⟨a,vs',ea,ha,hrep⟩:=(show ∃a vs',v= .ref a/\H a=some (.tup vs')/\Reps K H e.1 vs' from r1)
   subst ea
   exact⟨e,a,rfl,hr,jYt ok (jQq (hk e (lJu ..)) ha hrep)⟩
  | succ i=>exact jYq ok (fun x hx=>hk x (lJx _ hx)) r2 hrs i u hu
noncomputable def jZ3:T->List T->Gp->VK3->Prop:=fun x as G Q=>∃(p:Addr) (kys:List (List T×TKey)) (ys:List T) (k:TKey) (j:Nat),x= .ref p/\as=[.tup ys]/\G p=some (.lst (kys.map fun e=> .tup e.1))/\(∀e,e∈kys->jQe e.1=some e.2)/\jQe ys=some k/\(kys.map (·.2))[j]? =some k/\(∀m,m<j->(kys.map (·.2))[m]? ≠some k)/\Q (.int j) G
theorem kYz (hu:X.A.units+20<cLine):Mt3 X "list.index" jZ3:=by
 rintro pins s τ G H x as v us Q ⟨σ,I,hs,hg⟩ ⟨a,ra,rv⟩ ⟨bs,rbs,rus⟩ ⟨p,kys,ys,k,j,ex,ea,hp,hks,hk,hj,hno,q⟩
 subst ex;subst ea
 cases (show a= .ref p from ra);cases rv
 obtain⟨b,rfl,rb⟩:=jVl rbs
 obtain⟨u,rfl,ru⟩:=rus.one
 obtain⟨vs,h1,h2⟩:=hg.lst hp
 obtain⟨hz,its,n,r,hl,e⟩:=I.lstM h1
 obtain⟨qa,vs',eb,hqa,hrep⟩:=(show ∃qa vs',b= .ref qa/\H qa=some (.tup vs')/\Reps X.K H ys vs' from rb)
 subst eb
 cases (show u=Value.ref qa from ru)
 have hkq:(jJh X.prog X.w).is s.heap k qa:=jYt I.hok (jQq hk hqa hrep)
 have at_:=jYq (P:=X.prog) (w:=X.w) I.hok hks h2 r
 have hlen:its.length=kys.length:=by have:=r.length;have:=h2.length;rw[lJf] at this;omega
 have hjl:j<kys.length:=by have:=(lJe.mp hj).1;rw[lJf] at this;exact this
 have hsl:=kJc
 let ef:Value->Bool:=fun w=> @decide (∃b,w= .ref b/\(jJh X.prog X.w).is s.heap k b) (Classical.propDecidable _)
 have ef_at:∀(i:Nat) (w:Value),its[i]? =some w->∃e b,kys[i]? =some e/\w= .ref b/\(jJh X.prog X.w).is s.heap e.2 b/\ef w=decide (e.2=k):=by
  intro i w hw
  obtain⟨e,b,e1,e2,e3⟩:=at_ i w hw
  refine⟨e,b,e1,e2,e3,?_⟩
  by_cases c:e.2=k
  ·rw[lKa c]
   exact @decide_eq_true _ (Classical.propDecidable _) ⟨b,e2,c▸e3⟩
  ·rw[lJ0 c]
   refine @decide_eq_false _ (Classical.propDecidable _) ?_
   rintro⟨b',e4,e5⟩
   rw[e2] at e4;cases e4
   exact c ((jJh X.prog X.w).inj e3 e5)
 refine call_meets F.slot_list_index ⟨_,e,rfl⟩ F.entry_list_index (F.args_list_index_2 _ _) (SeqAt.list_indexAt p its.toArray n none #[] (.ref qa) ef j (by simp;omega) (by omega) ?_ ?_) ⟨e,fun w hw=> ?_,?_⟩
 ·obtain⟨e,b,e1,_,_,e4⟩:=ef_at j its[j] (lJg (by omega))
  rw[lJn,e1] at hj
  have:e.2=k:=by simpa using hj
  rw[lKa this] at e4
  simpa using e4
 ·intro m hm hmj
  have hm':m<its.length:=by simpa using hm
  obtain⟨e,b,e1,_,_,e4⟩:=ef_at m its[m] (lJg hm')
  have:=hno m hmj
  rw[lJn,e1] at this
  have ne:e.2≠k:=fun z=>this (by rw[<-z];rfl)
  rw[lJ0 ne] at e4
  simpa using e4
 ·obtain⟨i,hi,ei⟩:=lQ4 (show w∈its by simpa using hw)
  obtain⟨e,b,e1,e2,e3,e4⟩:=ef_at i w (by rw[lJg hi,ei])
  rw[e4,e2]
  exact (jUq (vk2 X.prog X.w)).eqAt (by rw[lK5];omega) e3 hkq
 ·exact⟨.int _,G,H,.refl H,⟨σ,I.tok _,hs,hg⟩,⟨.int _,rfl,s.toks,rfl⟩,q⟩
end
section
variable {X:Cx}
end
end L3
namespace L3
open PySem PySem.Spec PyProof.Rows L2 PySem.W
section
variable {prog:Program} {w:World} {A:Around} {E:Value->Shared->Prop} {s:Shared} {d:Addr} {o:Obj} {es:Array DictEntry} {ep:Nat}
end
def hf (r d:Nat):Int:=reduceHash (Builtin.Tuple.tupleHashOf [hashInt r,hashInt d])
section
variable {X:Cx}
def qZi:R3:=fun x y G Q=>∃(p q:Addr) (xs:List T),x= .ref p/\y= .ref q/\G p=some (.lst xs)/\G q=some (.lst [])/\Q (.bl (!xs.isEmpty)) G
theorem uJ2 (hu:X.A.units+64<cLine):Op3 X (compareOp .NotEq) qZi:=by
 rintro pins s τ G H x y v u Q ⟨σ,I,hs,hg⟩ ⟨a,ra,rv⟩ ⟨b,rb,ru⟩ ⟨p,q',xs,ex,ey,hp,hq,q⟩
 subst ex;subst ey
 cases (show a= .ref p from ra);cases (show b= .ref q' from rb)
 cases rv;cases ru
 obtain⟨vs,h1,h2⟩:=hg.lst hp
 obtain⟨ws,h3,h4⟩:=hg.lst hq
 obtain⟨its,r1,p1,_⟩:=I.list (.of h1)
 obtain⟨its',r2,p2,_⟩:=I.list (.of h3)
 have l1:its.length=xs.length:=by rw[<-r1.length,<-h2.length]
 have l2:its'.length=0:=by rw[<-r2.length,<-h4.length];rfl
 cases xs with
 | nil=>
  refine PySem.SeqAt.RcNeAt.lists p1.isList p2.isList (e:=fun _=>true) (by simp at l1;simp[l1,l2]) (by omega) (fun j h1 h2=>absurd h1 (by simp at l1;simp[l1])) X.prog X.w _ _ ?_
  have e0:(!(List.range its.toArray.size).all fun _=>true)=false:=by simp at l1;simp[l1]
  rw[e0]
  exact⟨.bl false,G,H,.refl H,⟨σ,I,hs,hg⟩,⟨.bl false,rfl,rfl⟩,q⟩
 | cons t xs=>
  refine PySem.SeqAt.RcNeAt.lists_lengths p1.isList p2.isList (by simp at l1;simp[l1,l2]) (by omega) X.prog X.w _ _ ?_
  exact⟨.bl true,G,H,.refl H,⟨σ,I,hs,hg⟩,⟨.bl true,rfl,rfl⟩,q⟩
end
end L3
namespace L3
open PySem PySem.Spec PyProof.Rows L2
section
variable {A:Around} {E:Value->Shared->Prop} {s:Shared} {M:Model}
end
section
variable {X:Cx} {scope:Scope} {cl:List (Str×Addr)} {mask:List Bool}
end
section
variable {X:Cx} {scope:Scope} {cl:List (Str×Addr)} {mask:List Bool} {elt iter tg:Expr} {ifs:List Expr} {pos:Pos} {wi:TI3} {g:TG3} {tif:TT3} {te:TE3}
end
end L3
namespace W
open PySem L3
local macro_rules
 | `(tactic| wp_walk using 1, $ts,*) => do
  let ls ← ts.getElems.mapM fun t => `(Lean.Parser.Tactic.simpLemma| $t:term)
  let ns ← ("tSeq tIfS jJ1 tOp rGt rLt rGe rSub L3.rI0 L3.rI rIxF tVar tC tAsg tCB jJc tNil kXj rLen rAbs rMax qQd gTup jKl gNil gSub jJi jVs tRet tRetN jKr jK2 jJr tLst tTup tIf tNot tAnd tOr tAndV tOrV tNotV tPar jKh jVd rMod rFdiv rPow rIsN uJo kU9 tTru rTru truT tUn rNeg kZt qX0 qX2 qX1 uKw kQ1 uKl uKm at0 at1 at2 ix30 ix31 ix32 qV6 qV5 uKn kYq Option.map_some and_assoc T.int.injEq T.bl.injEq T.tup.injEq T.ref.injEq List.cons.injEq and_true true_and exists_eq_left exists_eq_left' exists_and_left exists_eq_right List.getElem?_cons_zero List.getElem?_cons_succ List.set_cons_zero List.set_cons_succ List.length_cons List.length_nil Nat.reduceAdd Option.some.injEq jJg kJn reduceCtorEq false_and exists_false exists_const Bool.true_eq Bool.not_eq_true' Bool.not_true Bool.not_false if_true if_false decide_eq_true_eq tBM jJ8 jZ2 jJ7 qV1 jV0 GO.lst.injEq msk List.zipWith_cons_cons List.zipWith_nil_left List.zipWith_nil_right Bool.false_eq_true qZ7".splitOn " ").toArray.mapM fun n => `(Lean.Parser.Tactic.simpLemma| $(Lean.mkIdent n.toName):term)
  let al:=ns++ls
  `(tactic| ((try dsimp only [$al,*]); (try simp only [$al,*])))
local macro_rules
 | `(tactic| omega) => `(tactic| first | exact szle rfl | lia)
def BoxAt (G:Gp) (b:Addr) (n:Nat):Prop:=∃x y z:Int,G b=some (.lst [.int x,.int y,.int z])/\0<=x/\0<=y/\y<2147483648/\0<=z/\z<=n
def Keep (b:Addr) (G G':Gp):Prop:=∀c o,c≠b->G c=some o->G' c=some o
theorem Keep.refl (b:Addr) (G:Gp):Keep b G G:=fun _ _ _ h=>h
theorem Keep.trans {b:Addr} {G G1 G2:Gp} (h:Keep b G G1) (h':Keep b G1 G2):Keep b G G2:=fun c o hc e=>h' c o hc (h c o hc e)
theorem Keep.gup {b:Addr} {G:Gp} {o:GO}:Keep b G (gup G b o):=fun c u hc e=>by rw[jJm hc];exact e
theorem Keep.new {b p:Addr} {G:Gp} {o:GO} (hp:G p=none):Keep b G (L3.gup G p o):=fun c u _ e=>by rw[jJm];exact e;rintro rfl;rw[hp] at e;cases e
abbrev RdOk (sp:Sp3) (rd:TS3) (N:List Str):Prop:=∀xs G Q,sp xs G Q->rd {nx:=fun _ G'=>Q .non G',rt:=Q} (jXl N xs) G
noncomputable def jJp:Sp3:=fun xs G Q=>∃(b:Addr) (m:Int) (n:Nat),xs=[.ref b,.int m]/\BoxAt G b n/\n<2^40/\1<=m/\m<2^29/\∀(r:Int) G',0<=r->r<m->BoxAt G' b (n+1)->Keep b G G'->Q (.int r) G'
def qZc:List Str:=["_law_box_here","_law_many","_law_found","_law_once"]
noncomputable def jZy:TS3:=
 (tSeq (tIfS (jJ1 (tOp rGt (tOp rIxF (tVar 0) (tC (.int 0))) (tC (.int 0)))) (tSeq (tAsg (tCB kXj (jJc (tOp rIxF (tVar 0) (tC (.int 0))) (jJc (tVar 1) tNil))) (gTup 2 (jKl (gSub (tVar 0) (tC (.int 0)) jVs) (jKl (jJi 2) gNil))))
 (tRet (tVar 2))) jKr)
 (tSeq (tAsg (tOp jKh (tOp rIxF (tVar 0) (tC (.int 2))) (tC (.int 1))) (gSub (tVar 0) (tC (.int 2)) jVs))
 (tSeq (tAsg (tOp rMod (tOp jVd (tOp jKh (tOp rIxF (tVar 0) (tC (.int 1))) (tOp jVd (tC (.int 39373)) (tOp rIxF (tVar 0) (tC (.int 2))))) (tOp jKh (tC (.int 48271)) (tOp rIxF (tVar 0) (tC (.int 2))))) (tC (.int 2147483647))) (jJi 3))
 (tSeq (tAsg (tOp rMod (tOp jKh (tOp jVd (tVar 3) (tOp jKh (tOp rMod (tVar 3) (tC (.int 40009))) (tC (.int 7)))) (tOp rIxF (tVar 0) (tC (.int 2)))) (tC (.int 2147483629))) (gSub (tVar 0) (tC (.int 1)) jVs))
 (tRet (tOp rMod (tOp rFdiv (tOp rMod (tOp jVd (tOp rIxF (tVar 0) (tC (.int 1))) (tOp jKh (tOp rMod (tOp rIxF (tVar 0) (tC (.int 1))) (tC (.int 1009))) (tC (.int 3)))) (tC (.int 998244353))) (tC (.int 7))) (tVar 1)))))))
theorem kXb:RdOk jJp jZy qZc:=by
 intro xs G Q h_;apply xe3 h_;clear h_;intro b m n h_;apply ae5 h_;clear h_;intro q0_ hn hm1 hm2 k
 obtain⟨x,y,z,hb,hx,hy0,hy1,hz0,hz1⟩:=q0_
 show jZy _ [some (.ref b),some (.int m),none,none] G
 wp_walk using 1,jZy,jKe hb,qKr hb
 have box:∀x' y' z':Int,0<=x'->0<=y'->y'<2147483648->0<=z'->z'<=n+1->BoxAt (gup G b (.lst [.int x',.int y',.int z'])) b (n+1):=fun x' y' z' h1 h2 h3 h4 h5=>⟨x',y',z',jJg,h1,h2,h3,h4,by omega⟩
 split
 ·refine⟨⟨by omega,by omega⟩,k _ _ (lVg _ (by omega)) (lVh _ (by omega)) (box _ _ _ (Int.ediv_nonneg hx (by omega)) hy0 hy1 hz0 (by omega)) .gup⟩
 ·have a0:=lVg ((y+39373*(z+1))*(48271+(z+1))) (b:=2147483647) (by decide)
  have a1:=lVh ((y+39373*(z+1))*(48271+(z+1))) (b:=2147483647) (by decide)
  refine⟨.inl (by decide),.inr ⟨by omega,by omega⟩,by decide,by decide,?_⟩
  generalize (y+39373*(z+1))*(48271+(z+1))%2147483647=u at a0 a1 ⊢
  have b0:=lVg (u*(u%40009+7)+(z+1)) (b:=2147483629) (by decide)
  have b1:=lVh (u*(u%40009+7)+(z+1)) (b:=2147483629) (by decide)
  refine⟨.inl ⟨by omega,by omega⟩,by decide,by decide,?_⟩
  generalize (u*(u%40009+7)+(z+1))%2147483629=v at b0 b1 ⊢
  refine⟨.inl ⟨by omega,by omega⟩,by decide,⟨by decide,by decide⟩,by omega,?_⟩
  exact k _ _ (lVg _ (by omega)) (lVh _ (by omega)) (box _ _ _ hx b0 (by omega) (by omega) (by omega)) .gup
abbrev jKs (ns:List Int):List T:=ns.map T.int
theorem sz:sizeLine=16777216:=PySem.sizeLine_eq
noncomputable def jZa:Sp3:=fun xs G Q=>∃(c:Addr) (ns:List Int) (k:Int),xs=[.ref c,.int k]/\G c=some (.lst (jKs ns))/\ns.length<=63/\0<=k/\k<100/\∀p G',G p=none->BoxAt G' p 0->Sub G G'->Q (.ref p) G'
def uQi:List Str:=["_law_script","_law_k","_law_cell"]
noncomputable def kQo:TS3:=
 (tSeq (tAsg (tOp rIxF (tOp jKh (tVar 0) (tOp jVd (tLst (jJc (tC (.int 0)) tNil)) (tOp jKh (tVar 1) (tC (.int 1))))) (tVar 1)) (jJi 2))
 (tRet (tLst (jJc (tOp jVd (tCB rAbs (jJc (tVar 2) tNil)) (tCB qQd (jJc (tOp rGe (tCB rAbs (jJc (tVar 2) tNil)) (tOp rPow (tC (.int 10)) (tC (.int 18)))) tNil))) (jJc (tOp rMod (tOp jVd (tOp jKh (tOp jKh (tOp rMod (tVar 2) (tC (.int 2147483647))) (tOp jVd (tC (.int 7919)) (tVar 1))) (tC (.int 11))) (tC (.int 48271))) (tC (.int 2147483629))) (jJc (tC (.int 0)) tNil))))))
theorem qJb:RdOk jZa kQo uQi:=by
 intro xs G Q h_;apply xe3 h_;clear h_;intro c ns k h_;apply ae5 h_;clear h_;intro hc hl hk0 hk1 kk
 show kQo _ [some (.ref c),some (.int k),none] G
 have hs:=sz
 wp_walk using 1,kQo
 refine⟨by omega,fun p hp=> ?_⟩
 have e1:mulR (gup G p (GO.lst [T.int 0])) (.ref p) (.int (k+1))=some (.newL (List.replicate (k+1).toNat [T.int 0]).flatten):=by
  simp only[mulR,jJg];rw[lJc];refine⟨?_,?_,?_⟩<;>simp<;>omega
 wp_walk using 1,e1
 intro q hq
 obtain⟨hqp,hq0⟩:=jKn hq
 have hcp:=jJf hc hp
 have hcq:=jJf hc hq0
 have hc2:gup (gup G p (GO.lst [T.int 0])) q (GO.lst (List.replicate (k+1).toNat [T.int 0]).flatten) c=some (.lst (jKs ns)):=by rw[jJm hcq,jJm hcp];exact hc
 have hfl:(List.replicate (k+1).toNat [T.int 0]).flatten=List.replicate (k+1).toNat (T.int 0):=by
  induction (k+1).toNat with
  | zero=>rfl
  | succ n ih=>rw[lK6,lQw,ih];rfl
 have e2:=kZs (q:=q) hc2 jJg (by rw[hfl];simp;omega)
 wp_walk using 1,e2
 intro r hr
 obtain⟨hrq,hr1⟩:=jKn hr
 obtain⟨hrp,hr0⟩:=jKn hr1
 obtain⟨v,hv⟩:∃v:Int,L2.atI (jKs ns++(List.replicate (k+1).toNat [T.int 0]).flatten) k=some (.int v):=by
  rw[atZ hk0,hfl]
  by_cases h:k.toNat<ns.length
  ·rw[lKr (by simpa using h)]
   exact⟨ns[k.toNat],by simp[h]⟩
  ·rw[lVf (by simpa using h),lXn]
   exact⟨0,by rw[lJc];simp;omega⟩
 wp_walk using 1,hv
 refine⟨⟨by decide,by decide,by decide⟩,.inr (by split<;>split<;>decide),by decide,.inl (by decide),.inr (by decide),by decide,by omega,fun b hbn=> ?_⟩
 obtain⟨hbr,hb1⟩:=jKn hbn
 obtain⟨hbq,hb2⟩:=jKn hb1
 obtain⟨hbp,hb0⟩:=jKn hb2
 refine kk b _ hb0 ⟨_,_,_,jJg,Int.mul_nonneg (by split<;>omega) (by split<;>split<;>decide),lVg _ (by decide),?_,Int.le_refl _,by simp⟩ ((((Sub.new hp).over hq0).over hr0).over hb0)
 have:=lVh ((v%2147483647+7919*k+11)*48271) (b:=2147483629) (by decide)
 omega
noncomputable def jU0:Sp3:=fun xs G Q=>∃(ns:List Int) (m:Int),xs=[.scr (jKs ns),.int m]/\ns.length<=63/\1<=m/\m<=63/\∀p G' (ms:List Int),G p=none->G' p=some (.lst (jKs ms))->ms.length<=m.toNat->ms.length<=63->Sub G G'->Q (.ref p) G'
def qJ6:List Str:=["_law_script","_law_many","_law_cells","_law_k","_law_cell"]
noncomputable def jXd:TS3:=
 (tSeq (tAsg (tCB qQc (jJc (tSl rSlF (tVar 0) kV0 (qKg (tVar 1))) tNil)) (jJi 2))
 (tSeq (tFor (kQx (jJc (tSl rSlF (tVar 0) (qKg (tVar 1)) (qKg (tC (.int 63)))) tNil)) (gTup 2 (jKl (jJi 3) (jKl (jJi 4) gNil))) (tAsg (tOp jKh (tOp rIxF (tVar 2) (tOp rMod (tVar 3) (tVar 1))) (tOp jVd (tVar 4) (tOp jKh (tVar 3) (tC (.int 2))))) (gSub (tVar 2) (tOp rMod (tVar 3) (tVar 1)) jVs)))
 (tRet (tVar 2))))
theorem kQh:RdOk jU0 jXd qJ6:=by
 intro xs G Q h_;apply xe2 h_;clear h_;intro ns m h_;apply ae4 h_;clear h_;intro hl hm1 hm2 kk
 show jXd _ [some (.scr (jKs ns)),some (.int m),none,none,none] G
 have hs:=sz
 wp_walk using 1,jXd,tSl,rSlF,slR,kV0,qKg,qQc,kXi,jJw,kQx
 intro p hp p1 hp1
 obtain⟨hpp,hp10⟩:=jKn hp1
 intro q hq
 obtain⟨hq1,hq2⟩:=jKn hq
 obtain⟨hqp,hq0⟩:=jKn hq2
 obtain⟨cs,hcs,lcs⟩:∃cs:List Int,cutT (jKs ns) none (some m)=jKs cs/\cs.length=min m.toNat ns.length:=by
  refine⟨ns.take (min m.toNat ns.length),?_,by simp⟩
  simp only[cutT,HT.sIx,lJf,List.drop_zero,Nat.sub_zero]
  rw[lJb (by omega)]
  simp[lVz]
 obtain⟨rs,hrs,lrs⟩:∃rs:List Int,cutT (jKs ns) (some m) (some 63)=jKs rs/\(rs.length<=63/\(0<rs.length->m.toNat<=ns.length)):=by
  refine⟨(ns.drop (min m.toNat ns.length)).take (min 63 ns.length-min m.toNat ns.length),?_,?_,?_⟩
  ·simp only[cutT,HT.sIx,lJf]
   simp only[show ¬ m<0 by omega,show ¬ (63:Int)<0 by decide,lJt]
   simp[lVz,List.map_drop]
  ·simp;omega
  ·simp;omega
 rw[hcs,hrs]
 refine⟨jKs rs,by simp only[jQ8,jJg,asL],?_⟩
 refine⟨fun i τ G'=>∃(v3 v4:Option T) (ms:List Int),τ=[some (.scr (jKs ns)),some (.int m),some (.ref p1),v3,v4]/\G' p1=some (.lst (jKs ms))/\ms.length=cs.length/\G' q=some (.lst (jKs rs))/\Sub G G',?_,?_,?_,?_⟩
 ·refine⟨none,none,cs,rfl,by rw[jJm hq1.symm,jJg],rfl,jJg,(((Sub.new hp).over hp10).over hq0)⟩
 ·intro i τ G' hi h_;apply xe3 h_;clear h_;intro v3 v4 ms h_;apply ae4 h_;clear h_;intro h1 h2 h3 h4
  simp only[jQ8,h3,asL]
 ·intro i x τ G' hx h_;apply xe3 h_;clear h_;intro v3 v4 ms h_;apply ae4 h_;clear h_;intro h1 h2 h3 h4
  have hi:i<rs.length:=by have:=(lJe.mp hx).1;simpa[jKk] using this
  have hri:(jKs rs)[i]? =some (.int rs[i]):=by simp[hi]
  rw[jU5 hri] at hx
  cases hx
  have hml:=lrs.2 (by omega)
  have hk0:(0:Int)<=(i:Int)%m:=lVg _ (by omega)
  have hk1:(i:Int)%m<m:=lVh _ (by omega)
  have hk:((i:Int)%m).toNat<ms.length:=by omega
  have hat:L2.atI (jKs ms) ((i:Int)%m)=some (.int ms[((i:Int)%m).toNat]):=by rw[atZ hk0];simp[hk]
  have hix:L2.ixN (jKs ms).length ((i:Int)%m)=some ((i:Int)%m).toNat:=ixZ hk0 (by simp;omega)
  wp_walk using 1,jKe h1,hat,jXt h1 hix
  refine⟨by omega,.inr ⟨by omega,by omega⟩,by omega,?_⟩
  exact⟨ms.set ((i:Int)%m).toNat (ms[((i:Int)%m).toNat]+rs[i]*((i:Int)+2)),by simp[jKs,List.map_set],by simpa using h2,by rw[jJm hq1];exact h3,h4.over hp10⟩
 ·intro τ G' h_;apply xe3 h_;clear h_;intro v3 v4 ms h_;apply ae4 h_;clear h_;intro h1 h2 h3 h4
  wp_walk using 1,tSeq
  exact kk p1 G' ms hp10 h1 (by omega) (by omega) h4
abbrev Web:=List (List (Nat×Nat))
def encE (e:Nat×Nat):T:= .tup [.int e.1,.int e.2]
def encR (r:List (Nat×Nat)):T:= .tup (r.map encE)
def encW (W:Web):T:= .tup (W.map encR)
def en (W:Web) (r i:Nat):Option (Nat×Nat):=(W[r]?).bind fun es=>es[i]?
def Sym (W:Web):Prop:=∀r i s j,en W r i=some (s,j)->en W s j=some (r,i)
def sw:Nat->Nat
 | 0=>1
 | 1=>0
 | n=>n
theorem sw_sw {n:Nat} (h:n<=2):sw (sw n)=n/\sw n<=2:=by
 have:n=0\/n=1\/n=2:=by omega
 rcases this with rfl | rfl | rfl<;>exact⟨rfl,by decide⟩
def RowsAt (G:Gp) (h:Addr) (Hs:Web) (rs:List Addr):Prop:=G h=some (.lst (rs.map T.ref))/\rs.length=Hs.length/\∀(i:Nat) (r:Addr),rs[i]? =some r->∃hs:List (Nat×Nat),Hs[i]? =some hs/\G r=some (.lst (hs.map encE))
theorem RowsAt.sub {G G':Gp} {h:Addr} {Hs:Web} {rs:List Addr} (s:Sub G G') (x:RowsAt G h Hs rs):RowsAt G' h Hs rs:=⟨s _ _ x.1,x.2.1,fun i r e=>let ⟨hs,h1,h2⟩:=x.2.2 i r e;⟨hs,h1,s _ _ h2⟩⟩
structure JoinOk (Hs:Web):Prop where
 len:Hs.length<=1000
 row:∀(r:Nat) (hs:List (Nat×Nat)),Hs[r]? =some hs->hs.length<=1000
 inj:∀r i r' i' h,en Hs r i=some h->en Hs r' i'=some h->r=r'/\i=i'
 part:∀r i t s,en Hs r i=some (t,s)->s<=2/\∃r' i',en Hs r' i'=some (t,sw s)
def keyE (e:Nat×Nat):L2.TKey:=[.inl (.inl (e.1:Int)),.inl (.inl (e.2:Int))]
theorem kY6 {a b:Nat×Nat} (h:keyE a=keyE b):a=b:=by
 obtain⟨a1,a2⟩:=a;obtain⟨b1,b2⟩:=b
 simp only[keyE,lK9,Sum.inl.injEq,and_true] at h
 obtain⟨h1,h2⟩:=h
 rw[Int.ofNat.inj h1,Int.ofNat.inj h2]
theorem jUv {a b:Int}:jQe [.int a,.int b]=some [.inl (.inl a),.inl (.inl b)]:=rfl
theorem qVx {κ:Type} [DecidableEq κ] (kvs:List (κ×T)) (k j:κ) (v:T):valT (putT kvs k v) j=if k=j then some v else valT kvs j:=by
 unfold putT valT
 by_cases h:(kvs.any fun kv=>decide (kv.1=k))=true
 ·rw[lJc h]
  induction kvs with
  | nil=>simp at h
  | cons p ps ih=>
   rw[lJq,lQf,lQf]
   by_cases hp:p.1=k
   ·rw[lJc hp]
    by_cases hj:k=j
    ·simp[hp,hj]
    ·have h1:¬ p.1=j:=fun z=>hj (hp.symm.trans z)
     simp only[h1,decide_false,hj,lJt]
     by_cases h2:(ps.any fun kv=>decide (kv.1=k))=true
     ·have:=ih h2;rw[lJb hj] at this;exact this
     ·have hm:ps.map (fun kv=>if kv.1=k then (kv.1,v) else kv)=ps:=by
       rw[lXt (g:=id)];· simp
       intro a ha
       have:¬ a.1=k:=fun z=>h2 (List.any_eq_true.mpr ⟨a,ha,by simp[z]⟩)
       simp[this]
      rw[hm]
   ·rw[lJb hp]
    have h2:(ps.any fun kv=>decide (kv.1=k))=true:=by
     rw[lQe,lJ0 hp,Bool.false_or] at h;exact h
    have:=ih h2
    by_cases hj:p.1=j
    ·have:¬ k=j:=fun z=>hp (hj.trans z.symm)
     simp[hj,this]
    ·simp only[hj,decide_false];exact this
 ·rw[lJb h,List.find?_append]
  have hn:(kvs.find? fun kv=>decide (kv.1=j))=none\/∃p,(kvs.find? fun kv=>decide (kv.1=j))=some p:=by
   cases kvs.find? fun kv=>decide (kv.1=j) with
   | none=>exact .inl rfl
   | some p=>exact .inr ⟨p,rfl⟩
  by_cases hj:k=j
  ·subst hj
   have:(kvs.find? fun kv=>decide (kv.1=k))=none:=by
    rw[List.find?_eq_none]
    intro a ha z
    exact h (List.any_eq_true.mpr ⟨a,ha,z⟩)
   simp[this]
  ·rcases hn with e | ⟨p,e⟩
   ·simp[e,hj]
   ·simp[e,hj]
theorem qXk {κ:Type} [DecidableEq κ] (kvs:List (κ×T)) (k:κ) (v:T):(putT kvs k v).length<=kvs.length+1:=by
 unfold putT;split<;>simp
theorem qU6 {G:Gp} {p:Addr} {kvs:List (L2.TKey×T)} {ys:List T} {ks:L2.TKey} (h:G p=some (.dct kvs)) (hk:jQe ys=some ks):dAt G (.ref p) (.tup ys)=some (valT kvs ks):=by simp only[dAt,h,hk]
theorem uKo {G:Gp} {p:Addr} {kvs:List (L2.TKey×T)} {ys:List T} {ks:L2.TKey} {t:T} (h:G p=some (.dct kvs)) (hk:jQe ys=some ks) (ht:valT kvs ks=some t):ixR G (.ref p) (.tup ys)=some t:=by
 simp only[ixR,seqT,h,asL,qU6 h hk,ht]
theorem kYp {G:Gp} {p:Addr} {kvs:List (L2.TKey×T)} {ys:List T} {ks:L2.TKey} {v:T} (h:G p=some (.dct kvs)) (hk:jQe ys=some ks) (hz:kvs.length<sizeLine):setR G (.ref p) (.tup ys) v=some (gup G p (.dct (putT kvs ks v))):=by
 simp only[setR,h,hk,hz,lJ2]
theorem jK0 {W:Web} {r i:Nat} {e:Nat×Nat} (h:en W r i=some e):∃es,W[r]? =some es/\es[i]? =some e:=by
 unfold en at h
 cases e1:W[r]? with
 | none=>rw[e1] at h;cases h
 | some es=>rw[e1] at h;exact⟨es,rfl,h⟩
theorem jK1 {W:Web} {r i:Nat} {es:List (Nat×Nat)} {e:Nat×Nat} (h1:W[r]? =some es) (h2:es[i]? =some e):en W r i=some e:=by unfold en;rw[h1];exact h2
structure Joined (Hs W:Web):Prop where
 len:W.length=Hs.length
 row:∀(r:Nat) (hs:List (Nat×Nat)),Hs[r]? =some hs->∃es,W[r]? =some es/\es.length=hs.length
 to:∀r i t sd s j,en Hs r i=some (t,sd)->en Hs s j=some (t,sw sd)->en W r i=some (s,j)
theorem Joined.sym {Hs W:Web} (J:Joined Hs W) (ok:JoinOk Hs):Sym W:=by
 intro r i s j h
 obtain⟨es,h1,h2⟩:=jK0 h
 have hr:r<Hs.length:=by rw[<-J.len];exact (lJe.mp h1).1
 obtain⟨es',h3,h4⟩:=J.row r _ (lJg hr)
 rw[h1] at h3;cases h3
 have hi:i<Hs[r].length:=by rw[<-h4];exact (lJe.mp h2).1
 have e1:en Hs r i=some (Hs[r][i]):=jK1 (lJg hr) (lJg hi)
 generalize Hs[r][i]=e0 at e1
 obtain⟨t,sd⟩:=e0
 obtain⟨hsd,r',i',e2⟩:=ok.part r i t sd e1
 have e3:=J.to r i t sd r' i' e1 e2
 rw[h] at e3
 cases e3
 refine J.to s j t (sw sd) r i e2 ?_
 rw[(sw_sw hsd).1];exact e1
open Classical in
def oth (Hs:Web) (e:Nat×Nat):Nat×Nat:=if h:∃p:Nat×Nat,en Hs p.1 p.2=some (e.1,sw e.2) then h.choose else (0,0)
theorem qZn {Hs:Web} {e:Nat×Nat} {r i:Nat} (h:en Hs r i=some (e.1,sw e.2)):en Hs (oth Hs e).1 (oth Hs e).2=some (e.1,sw e.2):=by
 unfold oth
 have:∃p:Nat×Nat,en Hs p.1 p.2=some (e.1,sw e.2):=⟨(r,i),h⟩
 rw[dif_pos this];exact this.choose_spec
theorem qJq {Hs:Web} (ok:JoinOk Hs):Joined Hs (Hs.map (List.map (oth Hs))) where
 len:=by simp
 row:=fun r hs h=>⟨hs.map (oth Hs),by simp[h],by simp⟩
 to:=fun r i t sd s j h1 h2=>by
  obtain⟨es,q1,q2⟩:=jK0 h1
  have:en (Hs.map (List.map (oth Hs))) r i=some (oth Hs (t,sd)):=jK1 (es:=es.map (oth Hs)) (by simp[q1]) (by simp[q2])
  rw[this]
  have h3:=qZn (e:=(t,sd)) h2
  obtain⟨z1,z2⟩:=ok.inj _ _ _ _ _ h3 h2
  rw[<-z1,<-z2]
def jV7:Sp3:=fun xs G Q=>∃(h:Addr) (Hs:Web) (rs:List Addr),xs=[.ref h]/\RowsAt G h Hs rs/\JoinOk Hs/\∀G' W,Sub G G'->Joined Hs W->Q (encW W) G'
def qJ5:List Str:=["_law_halves","_law_at","_law_room","_law_door","_law_half","_law_web_here","_law_doors","_law_tie","_law_side"]
noncomputable def jXc:TS3:=
 (tSeq (tAsg kV2 (jJi 1))
 (tSeq (tFor (jJ6 (jJc (tCB rLen (jJc (tVar 0) tNil)) tNil)) (jJi 2) (tFor (kQx (jJc (tOp rIxF (tVar 0) (tVar 2)) tNil)) (gTup 2 (jKl (jJi 3) (jKl (jJi 4) gNil))) (tAsg (tTup (jJc (tVar 2) (jJc (tVar 3) tNil))) (gSub (tVar 1) (tVar 4) jVs))))
 (tSeq (tAsg (tLst tNil) (jJi 5))
 (tSeq (tFor (iSeq (tVar 0)) (jJi 6) (jK2 (tBM "list" jJ8 (tVar 5) (jJc (tCB jJ7 (jJc (jQu [false,false,false,false,false,false,false,true,true] (iSeq (tVar 6)) (gTup 2 (jKl (jJi 7) (jKl (jJi 8) gNil))) jV0 (tOp rIxF (tVar 1) (tTup (jJc (tVar 7) (jJc (tOp rIxF (tLst (jJc (tC (.int 1)) (jJc (tC (.int 0)) (jJc (tC (.int 2)) tNil)))) (tVar 8)) tNil))))) tNil)) tNil))))
 (tRet (tCB jJ7 (jJc (tVar 5) tNil)))))))
def Tab (Hs:Web) (kvs:List (L2.TKey×T)) (done:Nat->Nat->Prop):Prop:=∀r i e,en Hs r i=some e->done r i->valT kvs (keyE e)=some (encE (r,i))
theorem jQ0 {n i:Nat} {x:T} (h:(rngT 0 n)[i]? =some x):i<n/\x= .int i:=by
 unfold rngT at h
 rw[lJn] at h
 have hi:i<n:=by
  rcases lKk i n with z | z
  ·exact z
  ·rw[lJ4 (by simpa using z)] at h;cases h
 simp[hi] at h
 exact⟨hi,h.symm⟩
theorem jKu {n:Nat}:(rngT 0 n).length=n:=by simp[rngT]
theorem kQg:RdOk jV7 jXc qJ5:=by
 intro xs G Q h_;apply xe3 h_;clear h_;intro h Hs rs h_;apply ae3 h_;clear h_;intro q0_ ok kk
 obtain⟨hh,hlen,hrow⟩:=q0_
 show jXc _ [some (.ref h),none,none,none,none,none,none,none,none] G
 have hs:=sz
 have hL:=ok.len
 wp_walk using 1,jXc,kV2,jJw,jJ6
 refine .inl fun d hd=> ?_
 have hhd:=jJf hh hd
 have hrl:(rs.map T.ref).length=Hs.length:=by simp[hlen]
 refine⟨rs.map T.ref,by simp only[seqT,jJm hhd,hh,asL],by rw[hrl];omega,by rw[hrl];omega,?_⟩
 rw[hrl,show ((Hs.length:Int)).toNat=Hs.length by omega]
 refine⟨fun r τ G'=>∃(v2 v3 v4:Option T) (kvs:List (L2.TKey×T)),τ=[some (.ref h),some (.ref d),v2,v3,v4,none,none,none,none]/\G' d=some (.dct kvs)/\kvs.length<=1000*r/\Tab Hs kvs (fun r' _=>r'<r)/\Sub G G',?_,?_,?_,?_⟩
 ·exact⟨none,none,none,[],rfl,jJg,lJs _,fun r i e _ z=>absurd z (lKx _),.new hd⟩
 ·intros;trivial
 ·intro r x τ G1 hx h_;apply xe4 h_;clear h_;intro v2 v3 v4 kvs h_;apply ae4 h_;clear h_;intro hdk hkl tab sb
  obtain⟨hr,rfl⟩:=jQ0 hx
  have hri:r<rs.length:=by omega
  obtain⟨hs',hH,hG⟩:=hrow r rs[r] (lJg hri)
  have hh1:=sb _ _ hh
  have hG1:=sb _ _ hG
  have hat:L2.atI (rs.map T.ref) (r:Int)=some (.ref rs[r]):=by rw[atN];simp[hri]
  have hrow1000:=ok.row r hs' hH
  wp_walk using 1,jJw,kQx,jKe hh1,hat
  refine⟨hs'.map encE,by simp only[jQ8,hG1,asL],?_⟩
  refine⟨fun i τ G'=>∃(v3 v4:Option T) (kvs:List (L2.TKey×T)),τ=[some (.ref h),some (.ref d),some (.int r),v3,v4,none,none,none,none]/\G' d=some (.dct kvs)/\kvs.length<=1000*r+i/\Tab Hs kvs (fun r' i'=>r'<r\/(r'=r/\i'<i))/\Sub G G',?_,?_,?_,?_⟩
  ·exact⟨v3,v4,kvs,rfl,hdk,hkl,fun r' i' e he hd'=>tab r' i' e he (by rcases hd' with z | ⟨_,z⟩;exact z;exact absurd z (lKx _)),sb⟩
  ·intro i τ G' hi h_;apply xe3 h_;clear h_;intro v3 v4 kvs h_;apply ae4 h_;clear h_;intro h1 h2 h3 h4
   simp only[jQ8,h4 _ _ hG,asL]
  ·intro i x τ G2 hx h_;apply xe3 h_;clear h_;intro v3 v4 kvs h_;apply ae4 h_;clear h_;intro h1 h2 h3 h4
   have hi:i<hs'.length:=by have:=(lJe.mp hx).1;simpa[jKk] using this
   have hri2:(hs'.map encE)[i]? =some (encE hs'[i]):=by simp[hi]
   rw[jU5 hri2] at hx
   cases hx
   have hz:kvs.length<sizeLine:=by omega
   wp_walk using 1,encE,kYp h1 jUv hz
   refine⟨by omega,?_⟩
   refine⟨putT kvs (keyE hs'[i]) (encE (r,i)),rfl,by have:=qXk kvs (keyE hs'[i]) (encE (r,i));omega,fun r' i' e he hd'=> ?_,h4.over hd⟩
   show valT (putT kvs (keyE hs'[i]) _) (keyE e)=_
   rw[qVx]
   have eri:en Hs r i=some hs'[i]:=jK1 hH (lJg hi)
   by_cases hk:keyE hs'[i]=keyE e
   ·rw[lJc hk]
    have:=kY6 hk
    subst this
    obtain⟨z1,z2⟩:=ok.inj _ _ _ _ _ eri he
    subst z1;subst z2;rfl
   ·rw[lJb hk]
    refine h3 r' i' e he ?_
    rcases hd' with z | ⟨z1,z2⟩
    ·exact .inl z
    ·subst z1
     by_cases hii:i'=i
     ·subst hii;rw[eri] at he;cases he;exact absurd rfl hk
     ·exact .inr ⟨rfl,by omega⟩
  ·intro τ G' h_;apply xe3 h_;clear h_;intro v3 v4 kvs h_;apply ae4 h_;clear h_;intro h1 h2 h3 h4
   refine⟨some (.int r),v3,v4,rfl,kvs,h1,?_,fun r' i' e he hd'=>h3 r' i' e he ?_,h4⟩
   ·simp only[jKk,lJf] at h2;omega
   ·rcases lKk r' r with z | z
    ·exact .inl z
    ·have:r'=r:=by omega
     subst this
     obtain⟨es,q1,q2⟩:=jK0 he
     rw[hH] at q1;cases q1
     exact .inr ⟨rfl,by simpa[jKk] using (lJe.mp q2).1⟩
 ·intro τ G1 h_;apply xe4 h_;clear h_;intro v2 v3 v4 kvs h_;apply ae4 h_;clear h_;intro hdk hkl tab sb
  rw[jKu] at tab
  wp_walk using 1,jJw,iSeq
  refine⟨lJs _,fun w hw=> ?_⟩
  have hdw:=jJf hdk hw
  have hhw:=jJf (sb _ _ hh) hw
  refine⟨rs.map T.ref,by simp only[seqT,jJm hhw,sb _ _ hh,asL],?_⟩
  refine⟨fun i τ G'=>∃(v6:Option T),τ=[some (.ref h),some (.ref d),v2,v3,v4,some (.ref w),v6,none,none]/\G' w=some (.lst ((Hs.take i).map fun hs=>encR (hs.map (oth Hs))))/\Sub G1 G',?_,?_,?_,?_⟩
  ·exact⟨none,rfl,by simp[jJg],.new hw⟩
  ·intro i τ G' hi h_;apply xe1 h_;clear h_;intro v6 h_;apply ae2 h_;clear h_;intro h1 h2
   simp only[seqT,h2 _ _ (sb _ _ hh),asL]
  ·intro i x τ G2 hx0 h_;apply xe1 h_;clear h_;intro v6 h_;apply ae2 h_;clear h_;intro h1 h2
   obtain⟨ra,hx,rfl⟩:=jK5 hx0
   obtain⟨hs',hH,hG⟩:=hrow i ra hx
   have hG2:=h2 _ _ (sb _ _ hG)
   have hrow1000:=ok.row i hs' hH
   wp_walk using 1,iSeq,jKd h1
   refine⟨hs'.map encE,jJn hG2,?_⟩
   refine jQb (fun e=>encE (oth Hs e)) (by omega) (fun G' s=>jJn (s _ _ hG2)) ?_ ?_
   ·intro j e he G' K K0 s hk
    obtain⟨t,sd⟩:=e
    have hen:=jK1 hH he
    obtain⟨hsd,r',i',e2⟩:=ok.part _ _ _ _ hen
    have hv:=qZn (e:=(t,sd)) e2
    have hr':(oth Hs (t,sd)).1<List.length Hs:=by obtain⟨es,q1,q2⟩:=jK0 hv;exact (lJe.mp q1).1
    have ht:=tab _ _ _ hv hr'
    have hd3:=s _ _ (h2 _ _ hdk)
    wp_walk using 1,encE
    refine⟨by omega,fun p hp=> ?_⟩
    have hdp:=jJf hd3 hp
    have hsw:L2.atI [T.int 1,T.int 0,T.int 2] (sd:Int)=some (.int (sw sd:Int)):=by
     have:sd=0\/sd=1\/sd=2:=by omega
     rcases this with rfl | rfl | rfl<;>rw[atN]<;>rfl
    refine⟨_,hsw,by omega,_,uKo (ks:=[.inl (.inl (t:Int)),.inl (.inl (sw sd:Int))]) (by rw[jJm hdp];exact hd3) jUv ht,hk _ (.new hp)⟩
   ·intro D G3 hD h3 h4
    wp_walk using 1,jJn h3,h4 _ _ h1
    refine⟨by simp;omega,?_,((h2.trans h4).over hw)⟩
    rw[lQ2,hH];simp[encR]
  ·intro τ G' h_;apply xe1 h_;clear h_;intro v6 h_;apply ae2 h_;clear h_;intro h1 h2
   wp_walk using 1,jJn h1
   have e1:(Hs.take (rs.map T.ref).length).map (fun hs=>encR (hs.map (oth Hs)))=(Hs.map (List.map (oth Hs))).map encR:=by
    rw[hrl,lQs,lJ6];rfl
   rw[e1]
   exact kk G' _ (sb.trans h2) (qJq ok)
theorem BoxAt.mono {G:Gp} {b:Addr} {n m:Nat} (h:BoxAt G b n) (hm:n<=m):BoxAt G b m:=by
 obtain⟨x,y,z,h1,h2,h3,h4,h5,h6⟩:=h
 exact⟨x,y,z,h1,h2,h3,h4,h5,by omega⟩
theorem BoxAt.some {G:Gp} {b:Addr} {n:Nat} (h:BoxAt G b n):∃o,G b=some o:=by
 obtain⟨x,y,z,h1,_⟩:=h
 exact⟨_,h1⟩
theorem BoxAt.sub {G G':Gp} {b:Addr} {n:Nat} (h:BoxAt G b n) (s:Sub G G'):BoxAt G' b n:=by
 obtain⟨x,y,z,h1,h2,h3,h4,h5,h6⟩:=h
 exact⟨x,y,z,s _ _ h1,h2,h3,h4,h5,h6⟩
theorem BoxAt.gup {G:Gp} {b p:Addr} {n:Nat} {o:GO} (h:BoxAt G b n) (hp:b≠p):BoxAt (gup G p o) b n:=by
 obtain⟨x,y,z,h1,h2,h3,h4,h5,h6⟩:=h
 exact⟨x,y,z,by rw[jJm hp];exact h1,h2,h3,h4,h5,h6⟩
theorem Keep.sub {b:Addr} {G G':Gp} (h:Sub G G'):Keep b G G':=fun c o _ e=>h c o e
theorem Keep.over {b p:Addr} {G G':Gp} {o:GO} (h:Keep b G G') (hp:G p=none):Keep b G (L3.gup G' p o):=fun c u hc e=>by rw[jJm];exact h c u hc e;rintro rfl;rw[hp] at e;cases e
theorem RowsAt.keep {b:Addr} {G G':Gp} {h:Addr} {Hs:Web} {rs:List Addr} (s:Keep b G G') (hb:b∉h::rs) (x:RowsAt G h Hs rs):RowsAt G' h Hs rs:=by
 simp only[lJl,not_or] at hb
 exact⟨s _ _ (Ne.symm hb.1) x.1,x.2.1,fun i r e=>let ⟨hs,h1,h2⟩:=x.2.2 i r e;⟨hs,h1,s _ _ (by rintro rfl;exact hb.2 (lJi e)) h2⟩⟩
theorem RowsAt.set {G:Gp} {h:Addr} {Hs:Web} {rs:List Addr} {r:Nat} {a:Addr} {hs':List (Nat×Nat)} (x:RowsAt G h Hs rs) (hn:(h::rs).Nodup) (hr:rs[r]? =some a):RowsAt (gup G a (.lst (hs'.map encE))) h (Hs.set r hs') rs:=by
 rw[lKz] at hn
 have hrl:r<rs.length:=(lJe.mp hr).1
 refine⟨by rw[jJm];exact x.1;rintro rfl;exact hn.1 (lJi hr),by rw[lQq];exact x.2.1,fun i c e=> ?_⟩
 by_cases hi:i=r
 ·subst hi
  rw[hr] at e;cases e
  exact⟨hs',by rw[lKw];rw[<-x.2.1];exact hrl,jJg⟩
 ·obtain⟨hs,h1,h2⟩:=x.2.2 i c e
  refine⟨hs,by rw[lKl (Ne.symm hi)];exact h1,?_⟩
  rw[jJm];exact h2
  rintro rfl
  have hil:i<rs.length:=(lJe.mp e).1
  exact hi ((lQ8 hil hn.2).mp (e.trans hr.symm))
def hv (n t:Nat) (p:Nat×Nat):List (Nat×Nat×Nat):=if p.2=n then [(p.1,t,2)] else [(p.1,t,0),(p.2,t,1)]
def hvs (P:List (Nat×Nat)) (n k:Nat):List (Nat×Nat×Nat):=(List.range k).flatMap fun t=>match P[t]? with
 | some p=>hv n t p
 | none=>[]
theorem jU7 {P:List (Nat×Nat)} {n k:Nat} {p:Nat×Nat} (h:P[k]? =some p):hvs P n (k+1)=hvs P n k++hv n k p:=by
 unfold hvs
 rw[lQj,lXu]
 simp[h]
theorem kKr {n t:Nat} {p:Nat×Nat} {r t' s:Nat} (h:(r,t',s)∈hv n t p):t'=t/\s<=2/\((p.2=n/\s=2/\r=p.1)\/(p.2≠n/\s=0/\r=p.1)\/(p.2≠n/\s=1/\r=p.2)):=by
 unfold hv at h
 split at h
 ·rename_i hp;simp at h;obtain⟨rfl,rfl,rfl⟩:=h;exact⟨rfl,by omega,.inl ⟨hp,rfl,rfl⟩⟩
 ·rename_i hp;simp at h
  rcases h with ⟨rfl,rfl,rfl⟩ | ⟨rfl,rfl,rfl⟩
  ·exact⟨rfl,by omega,.inr (.inl ⟨hp,rfl,rfl⟩)⟩
  ·exact⟨rfl,by omega,.inr (.inr ⟨hp,rfl,rfl⟩)⟩
theorem kJm {P:List (Nat×Nat)} {n k:Nat} {r t s:Nat} (h:(r,t,s)∈hvs P n k):∃p,P[t]? =some p/\t<k/\(r,t,s)∈hv n t p:=by
 unfold hvs at h
 rw[List.mem_flatMap] at h
 obtain⟨t',h1,h2⟩:=h
 cases e:P[t']? with
 | none=>rw[e] at h2;cases h2
 | some p=>
  rw[e] at h2
  have h2:(r,t,s)∈hv n t' p:=h2
  have ht:=(kKr h2).1
  subst ht
  exact⟨p,e,lJy.mp h1,h2⟩
theorem kY9 {P:List (Nat×Nat)} {n k:Nat} {r t s:Nat} {p:Nat×Nat} (h:P[t]? =some p) (hk:t<k) (hm:(r,t,s)∈hv n t p):(r,t,s)∈hvs P n k:=by
 unfold hvs
 rw[List.mem_flatMap]
 exact⟨t,lJy.mpr hk,by rw[h];exact hm⟩
theorem kJl {P:List (Nat×Nat)} {n:Nat}:∀k,((hvs P n k).map fun x=>x.2).Nodup
 | 0=>by simp[hvs]
 | k+1=>by
  cases e:P[k]? with
  | none=>
   have:hvs P n (k+1)=hvs P n k:=by unfold hvs;rw[lQj,lXu];simp[e]
   rw[this];exact kJl k
  | some p=>
   rw[jU7 e,lQk,lVt]
   refine⟨kJl k,by unfold hv;split<;>simp,?_⟩
   intro a ha b hb
   obtain⟨⟨r,t,s⟩,h1,rfl⟩:=lJk.mp ha
   obtain⟨⟨r',t',s'⟩,h2,rfl⟩:=lJk.mp hb
   obtain⟨_,_,h3,_⟩:=kJm h1
   have h4:=(kKr h2).1
   intro z
   have:t=t':=lJ5 Prod.fst z
   omega
theorem kQy {P:List (Nat×Nat)} {n:Nat}:∀k,(hvs P n k).length<=2*k
 | 0=>by simp[hvs]
 | k+1=>by
  have ih:=kQy (P:=P) (n:=n) k
  cases e:P[k]? with
  | none=>
   have:hvs P n (k+1)=hvs P n k:=by unfold hvs;rw[lQj,lXu];simp[e]
   rw[this];omega
  | some p=>
   rw[jU7 e,lKf]
   have:(hv n k p).length<=2:=by unfold hv;split<;>simp
   omega
structure HalfL (L:List (Nat×Nat×Nat)) (n:Nat) (Hs:Web):Prop where
 len:Hs.length=n
 perm:∀(r:Nat) (hs:List (Nat×Nat)),Hs[r]? =some hs->hs.Perm ((L.filter fun x=>x.1 == r).map fun x=>x.2)
theorem ins_perm {α:Type} {xs:List α} {k:Nat} {y:α}:(xs.take k++y::xs.drop k).Perm (xs++[y]):=by
 have h1:(xs.take k++y::xs.drop k).Perm (y::(xs.take k++xs.drop k)):=List.perm_middle
 rw[lVy] at h1
 exact h1.trans (List.perm_append_comm (l₁:=[y]) (l₂:=xs))
theorem HalfL.ins {L:List (Nat×Nat×Nat)} {n:Nat} {Hs:Web} {r k:Nat} {hs:List (Nat×Nat)} {e:Nat×Nat} (h:HalfL L n Hs) (hr:Hs[r]? =some hs):HalfL (L++[(r,e)]) n (Hs.set r (hs.take k++e::hs.drop k)) where
 len:=by rw[lQq];exact h.len
 perm:=fun r' hs' h'=>by
  have hrl:r<Hs.length:=(lJe.mp hr).1
  rw[List.filter_append,lQk]
  by_cases hi:r'=r
  ·subst hi
   rw[lKw hrl] at h'
   cases h'
   have:=h.perm r' hs hr
   refine ins_perm.trans ?_
   simp
   exact this.append_right [e]
  ·rw[lKl (Ne.symm hi)] at h'
   have:=h.perm r' hs' h'
   have hne:¬ r=r':=fun z=>hi z.symm
   simp[hne]
   exact this
theorem HalfL.mem {L:List (Nat×Nat×Nat)} {n:Nat} {Hs:Web} {r i:Nat} {e:Nat×Nat} (h:HalfL L n Hs) (he:en Hs r i=some e):(r,e)∈L:=by
 obtain⟨es,h1,h2⟩:=jK0 he
 have:=(h.perm r es h1).mem_iff.mp (lJi h2)
 obtain⟨⟨r',e'⟩,h3,rfl⟩:=lJk.mp this
 obtain⟨h4,h5⟩:=lK2.mp h3
 have:r'=r:=by simpa using h5
 subst this;exact h4
theorem HalfL.of {L:List (Nat×Nat×Nat)} {n:Nat} {Hs:Web} {r:Nat} {e:Nat×Nat} (h:HalfL L n Hs) (hr:r<n) (he:(r,e)∈L):∃i,en Hs r i=some e:=by
 have hrl:r<Hs.length:=by rw[h.len];exact hr
 have h1:Hs[r]? =some Hs[r]:=lJg hrl
 have:e∈Hs[r]:=(h.perm r _ h1).mem_iff.mpr (lJk.mpr ⟨(r,e),lK2.mpr ⟨he,by simp⟩,rfl⟩)
 obtain⟨i,hi⟩:=lKc this
 exact⟨i,jK1 h1 hi⟩
def kQ7 (P:List (Nat×Nat)) (n:Nat):Prop:=∀p,p∈P->p.1<n/\p.2<=n
theorem HalfL.ok {P:List (Nat×Nat)} {n:Nat} {Hs:Web} (h:HalfL (hvs P n P.length) n Hs) (hp:kQ7 P n) (hn:n<=1000) (hl:P.length<=500):JoinOk Hs where
 len:=by rw[h.len];exact hn
 row:=fun r hs hr=>by
  rw[(h.perm r hs hr).length_eq,lJf]
  have h1:=lVj (fun x:Nat×Nat×Nat=>x.1 == r) (hvs P n P.length)
  have h2:=kQy (P:=P) (n:=n) P.length
  omega
 inj:=fun r i r' i' e h1 h2=>by
  obtain⟨t,s⟩:=e
  obtain⟨p,q1,q2,q3⟩:=kJm (h.mem h1)
  obtain⟨p',q1',q2',q3'⟩:=kJm (h.mem h2)
  rw[q1] at q1';cases q1'
  have m1:=(kKr q3).2.2
  have m2:=(kKr q3').2.2
  have hrr:r=r':=by
   rcases m1 with ⟨a,b,c⟩ | ⟨a,b,c⟩ | ⟨a,b,c⟩<;>rcases m2 with ⟨a',b',c'⟩ | ⟨a',b',c'⟩ | ⟨a',b',c'⟩<;>omega
  subst hrr
  refine⟨rfl,?_⟩
  obtain⟨es,z1,z2⟩:=jK0 h1
  obtain⟨es',z3,z4⟩:=jK0 h2
  rw[z1] at z3;cases z3
  have nd:es.Nodup:=by
   rw[(h.perm r es z1).nodup_iff]
   exact (List.filter_sublist.map _).nodup (kJl _)
  exact (lQ8 (lJe.mp z2).1 nd).mp (z2.trans z4.symm)
 part:=fun r i t s h1=>by
  obtain⟨p,q1,q2,q3⟩:=kJm (h.mem h1)
  obtain⟨_,h2,m⟩:=kKr q3
  refine⟨h2,?_⟩
  have hpp:=hp p (lJi q1)
  rcases m with ⟨a,rfl,c⟩ | ⟨a,rfl,c⟩ | ⟨a,rfl,c⟩
  ·exact⟨r,i,h1⟩
  ·obtain⟨i',h3⟩:=h.of (r:=p.2) (e:=(t,1)) (by omega) (kY9 q1 q2 (by unfold hv;rw[lJb a];simp))
   exact⟨p.2,i',h3⟩
  ·obtain⟨i',h3⟩:=h.of (r:=p.1) (e:=(t,0)) (by omega) (kY9 q1 q2 (by unfold hv;rw[lJb a];simp))
   exact⟨p.1,i',h3⟩
structure Made (P:List (Nat×Nat)) (n:Nat) (W:Web):Prop where
 len:W.length=n
 sym:Sym W
 deg:∀(r:Nat) (es:List (Nat×Nat)),W[r]? =some es->es.length=((hvs P n P.length).filter fun x=>x.1 == r).length
 tie:∀p,p∈P->p.2<n->∃i j,en W p.1 i=some (p.2,j)
theorem uJ6 {P:List (Nat×Nat)} {n:Nat} {Hs W:Web} (h:HalfL (hvs P n P.length) n Hs) (hp:kQ7 P n) (ok:JoinOk Hs) (J:Joined Hs W):Made P n W where
 len:=by rw[J.len,h.len]
 sym:=J.sym ok
 deg:=fun r es hr=>by
  have hrl:r<Hs.length:=by rw[<-J.len];exact (lJe.mp hr).1
  obtain⟨es',h1,h2⟩:=J.row r _ (lJg hrl)
  rw[hr] at h1;cases h1
  rw[h2,(h.perm r _ (lJg hrl)).length_eq,lJf]
 tie:=fun p hpm hpn=>by
  obtain⟨t,ht⟩:=lKc hpm
  have htl:t<P.length:=(lJe.mp ht).1
  have hne:¬ p.2=n:=by omega
  obtain⟨i,h1⟩:=h.of (r:=p.1) (e:=(t,0)) (hp p hpm).1 (kY9 ht htl (by unfold hv;rw[lJb hne];simp))
  obtain⟨j,h2⟩:=h.of (r:=p.2) (e:=(t,1)) hpn (kY9 ht htl (by unfold hv;rw[lJb hne];simp))
  exact⟨i,j,J.to _ _ _ _ _ _ h1 h2⟩
theorem Keep.none {b p:Addr} {G G':Gp} (h:Keep b G G') (hb:p≠b) (hp:G' p=none):G p=none:=by
 cases e:G p with
 | none=>rfl
 | some o=>rw[h p o hb e] at hp;cases hp
theorem qYd {xs:List (Nat×Nat)} {k:Nat} {y:Nat×Nat}:insT (xs.map encE) k (encE y)=(xs.take k++y::xs.drop k).map encE:=by simp[insT,lVz,List.map_drop]
theorem HalfL.len_le {L:List (Nat×Nat×Nat)} {n:Nat} {Hs:Web} {r:Nat} {hs:List (Nat×Nat)} (h:HalfL L n Hs) (hr:Hs[r]? =some hs):hs.length<=L.length:=by
 rw[(h.perm r hs hr).length_eq,lJf];exact lVj _ _
theorem kJt {E:Ends3} {G G2:Gp} {b D p:Addr} {rs:List Addr} {n k m':Nat} {S:List (Nat×Nat)} {L:List (Nat×Nat×Nat)} {Hs:Web} {w1 w2 w5 w6 w8 w9:Option T}
  (h1:HalfL L n Hs) (h2:RowsAt G2 D Hs rs) (h3:BoxAt G2 b m') (h4:Keep b G G2) (hnd:(D::rs).Nodup) (hbn:b∉D::rs) (hfr:∀r,r∈D::rs->G r=none) (hp:G2 p=some (.lst (S.map encE))) (hpn:p∉D::rs) (hpb:p≠b) (hS:∀x,x∈S->x.1<n) (hm:m'+S.length<2^40) (hL:L.length+S.length<10000)
  (kk:∀G' Hs' v8 v9,HalfL (L++S.map fun x=>(x.1,k,x.2)) n Hs'->RowsAt G' D Hs' rs->BoxAt G' b (m'+S.length)->Keep b G G'->E.nx [some (.ref b),w1,w2,some (.ref D),some (.int k),w5,w6,some (.ref p),v8,v9] G'):
  uQk (gTup 2 (jKl (jJi 8) (jKl (jJi 9) gNil))) (jK2 (tBM "list" jZ2 (tOp rIxF (tVar 3) (tVar 8)) (jJc (jJr jJp (jJc (tVar 0) (jJc (tOp jKh (tCB rLen (jJc (tOp rIxF (tVar 3) (tVar 8)) tNil)) (tC (T.int 1))) tNil))) (jJc (tTup (jJc (tVar 4) (jJc (tVar 9) tNil))) tNil)))) E
   [some (.ref b),w1,w2,some (.ref D),some (.int k),w5,w6,some (.ref p),w8,w9] (S.map encE) (fun G'=>seqT G' (.ref p)=some (S.map encE)) G2:=by
 have hs:=sz
 refine⟨fun j τ G'=>∃(v8 v9:Option T) (Hs:Web),τ=[some (.ref b),w1,w2,some (.ref D),some (.int k),w5,w6,some (.ref p),v8,v9]/\HalfL (L++(S.take j).map fun x=>(x.1,k,x.2)) n Hs/\RowsAt G' D Hs rs/\BoxAt G' b (m'+j)/\Keep b G G'/\G' p=some (.lst (S.map encE)),?_,?_,?_,?_⟩
 ·exact⟨w8,w9,Hs,rfl,by simpa using h1,h2,h3,h4,hp⟩
 ·intro j τ G' hj h_;apply xe3 h_;clear h_;intro v8 v9 Hs h_;apply ae5 h_;clear h_;intro i1 i2 i3 i4 i5
  exact jJn i5
 ·intro j x τ G' hx0 h_;apply xe3 h_;clear h_;intro v8 v9 Hs h_;apply ae5 h_;clear h_;intro i1 i2 i3 i4 i5
  obtain⟨⟨r,s⟩,hx,rfl⟩:=jK5 hx0
  have hj:j<S.length:=(lJe.mp hx).1
  have hr:r<n:=hS _ (lJi hx)
  have hrl:r<rs.length:=by rw[i2.2.1,i1.len];exact hr
  have hra:rs[r]? =some rs[r]:=lJg hrl
  generalize rs[r]=a at hra
  obtain⟨hs',hh1,hh2⟩:=i2.2.2 r a hra
  have hat:L2.atI (rs.map T.ref) (r:Int)=some (.ref a):=by rw[atN];simp[hra]
  have hle:=i1.len_le hh1
  have hlt:(L++(S.take j).map fun x=>(x.1,k,x.2)).length<10000:=by simp;omega
  wp_walk using 1,encE,jKe i2.1,hat,jKd hh2,jJn hh2,List.length_map
  refine⟨b,_,m'+j,rfl,i3,by omega,by omega,by omega,fun c G3 c0 c1 bx kp=> ?_⟩
  have ham:a∈D::rs:=lJx _ (lJi hra)
  have hab:a≠b:=by rintro rfl;exact hbn ham
  have hap:a≠p:=by rintro rfl;exact hpn ham
  have i2':=i2.keep kp hbn
  refine⟨by omega,hs'.map encE,c,rfl,kp _ _ hab hh2,c0,by simp;omega,by simp;omega,?_⟩
  rw[show T.tup [T.int (k:Int),T.int (s:Int)]=encE (k,s) from rfl,qYd]
  refine⟨Hs.set r (hs'.take c.toNat++(k,s)::hs'.drop c.toNat),?_,i2'.set hnd hra,?_,(i4.trans kp).over (hfr a ham),?_⟩
  ·have:=i1.ins (k:=c.toNat) (e:=(k,s)) hh1
   rw[lQ2,hx,lQk,<-lXp]
   exact this
  ·exact bx.gup hab.symm
  ·rw[jJm hap.symm];exact kp _ _ hpb i5
 ·intro τ G' h_;apply xe3 h_;clear h_;intro v8 v9 Hs h_;apply ae5 h_;clear h_;intro i1 i2 i3 i4 i5
  rw[lJf] at i1 i3
  rw[lQs] at i1
  exact kk G' Hs v8 v9 i1 i2 i3 i4
theorem jZd {xs:List T}:(numT xs).length=xs.length:=by simp[numT]
noncomputable def jUh:Sp3:=fun xs G Q=>∃(b pr:Addr) (P:List (Nat×Nat)) (n m:Nat),xs=[.ref b,.ref pr,.int n]/\BoxAt G b m/\m+2*P.length<2^40/\pr≠b/\G pr=some (.lst (P.map encE))/\kQ7 P n/\n<=1000/\P.length<=500/\∀W G',Made P n W->BoxAt G' b (m+2*P.length)->Keep b G G'->Q (encW W) G'
def kUb:List Str:=["_law_box_here","_law_pairs","_law_many","_law_halves","_law_tie","_law_one","_law_other","_law_sides","_law_room","_law_side"]
noncomputable def jUk:TS3:=
 (tSeq (tAsg (jQu [false,false,false,false,false,false,false,false,true,false] (jJ6 (jJc (tVar 2) tNil)) (jJi 8) jV0 (tLst tNil)) (jJi 3))
 (tSeq (tFor (kQx (jJc (tVar 1) tNil)) (gTup 2 (jKl (jJi 4) (jKl (gTup 2 (jKl (jJi 5) (jKl (jJi 6) gNil))) gNil))) (tSeq (tAsg (tIf (jJ1 (tOp rEqA (tVar 6) (tVar 2))) (tLst (jJc (tTup (jJc (tVar 5) (jJc (tC (.int 2)) tNil))) tNil)) (tLst (jJc (tTup (jJc (tVar 5) (jJc (tC (.int 0)) tNil))) (jJc (tTup (jJc (tVar 6) (jJc (tC (.int 1)) tNil))) tNil)))) (jJi 7))
 (tFor (iSeq (tVar 7)) (gTup 2 (jKl (jJi 8) (jKl (jJi 9) gNil))) (jK2 (tBM "list" jZ2 (tOp rIxF (tVar 3) (tVar 8)) (jJc (jJr jJp (jJc (tVar 0) (jJc (tOp jKh (tCB rLen (jJc (tOp rIxF (tVar 3) (tVar 8)) tNil)) (tC (.int 1))) tNil))) (jJc (tTup (jJc (tVar 4) (jJc (tVar 9) tNil))) tNil)))))))
 (tRet (jJr jV7 (jJc (tVar 3) tNil)))))
theorem jQz {n:Nat}:rngT 0 n=(List.range n).map fun (k:Nat)=>T.int k:=by simp[rngT]
theorem jY2:RdOk jUh jUk kUb:=by
 intro xs G Q h_;apply xe5 h_;clear h_;intro b pr P n m h_;apply ae8 h_;clear h_;intro hb hm hpb hpr hP hn hPl kk
 show jUk _ [some (.ref b),some (.ref pr),some (.int n),none,none,none,none,none,none,none] G
 have hs:=sz
 wp_walk using 1,jUk,jJw,jJ6,kQx
 refine⟨by omega,by omega,?_⟩
 rw[show ((n:Int)).toNat=n by omega,jQz]
 refine kKv (fun _=>[]) (by simp;omega) (fun _ _=>trivial) ?_ ?_
 ·intro i e he G' K K0 s hk
  wp_walk using 1,tSeq
  exact⟨lJs _,fun p hp=>hk p _ hp jJg (.new hp)⟩
 ·intro D rs G1 hD hD1 s1 hrl hnd hrs
  rw[lK8] at hrl
  obtain⟨bo,hbo⟩:=hb.some
  have hbn:b∉D::rs:=by
   intro z
   rw[lJl] at z
   rcases z with rfl | z
   ·rw[hD] at hbo;cases hbo
   ·obtain⟨j,hj⟩:=lKc z
    have hjl:j<rs.length:=(lJe.mp hj).1
    have:=(hrs j b j hj (by rw[lQ5 (by omega)])).1
    rw[this] at hbo;cases hbo
  have hfr:∀r,r∈D::rs->G r=none:=by
   intro r z
   rw[lJl] at z
   rcases z with rfl | z
   ·exact hD
   ·obtain⟨j,hj⟩:=lKc z
    have hjl:j<rs.length:=(lJe.mp hj).1
    exact (hrs j r j hj (by rw[lQ5 (by omega)])).1
  refine⟨P.map encE,by simp only[jQ8,s1 _ _ hpr,asL],?_⟩
  refine⟨fun k τ G'=>∃(v4 v5 v6 v7 v8 v9:Option T) (Hs:Web),τ=[some (.ref b),some (.ref pr),some (.int n),some (.ref D),v4,v5,v6,v7,v8,v9]/\HalfL (hvs P n k) n Hs/\RowsAt G' D Hs rs/\BoxAt G' b (m+2*k)/\Keep b G G',?_,?_,?_,?_⟩
  ·refine⟨none,none,none,none,none,none,List.replicate n [],rfl,⟨by simp,?_⟩,⟨hD1,by simp[hrl],?_⟩,hb.sub s1,.sub s1⟩
   ·intro r hs' h
    have:hs'=[]:=by rw[lXn] at h;split at h;cases h;rfl;cases h
    subst this;simp[hvs]
   ·intro i r h
    have hi:i<n:=by rw[<-hrl];exact (lJe.mp h).1
    exact⟨[],by simp[hi],(hrs i r i h (by simp[hi])).2⟩
  ·intro k τ G' hk h_;apply xe7 h_;clear h_;intro v4 v5 v6 v7 v8 v9 Hs h_;apply ae4 h_;clear h_;intro h1 h2 h3 h4
   simp only[jQ8,h4 _ _ hpb hpr,asL]
  ·intro k x τ G2 hx h_;apply xe7 h_;clear h_;intro v4 v5 v6 v7 v8 v9 Hs h_;apply ae4 h_;clear h_;intro h1 h2 h3 h4
   have hk:k<P.length:=by have:=(lJe.mp hx).1;simpa[jZd] using this
   rw[jU5 (x:=encE P[k]) (by simp[hk])] at hx
   cases hx
   generalize hpk:P[k]=p
   have hpe:P[k]? =some p:=by rw[lJg hk,hpk]
   obtain⟨a,c⟩:=p
   obtain⟨ha,hc⟩:=hP _ (lJi hpe)
   have ha:a<n:=ha
   have hc:c<=n:=hc
   wp_walk using 1,encE,rEqA,iSeq,jJw
   rw[show eqG G2 (T.int (c:Int)) (T.int (n:Int))=some (decide ((c:Int)=n)) from rfl]
   have hL:=kQy (P:=P) (n:=n) k
   refine⟨_,rfl,?_⟩
   have fresh:∀p,G2 p=none->p∉D::rs/\p≠b:=by
    intro p hp
    refine⟨fun z=> ?_,?_⟩
    ·rw[lJl] at z
     rcases z with rfl | z
     ·rw[h2.1] at hp;cases hp
     ·obtain⟨j,hj⟩:=lKc z
      obtain⟨_,_,q⟩:=h2.2.2 j p hj
      rw[q] at hp;cases hp
    ·rintro rfl
     obtain⟨o,ho⟩:=h3.some
     rw[ho] at hp;cases hp
   by_cases hcn:c=n
   ·rw[lJc (by simp[hcn])]
    refine⟨by omega,by omega,fun p hp=> ?_⟩
    obtain⟨f1,f2⟩:=fresh p hp
    refine kJt (S:=[(a,2)]) h1 (h2.sub (.new hp)) (h3.gup f2.symm) (h4.over (h4.none f2 hp)) hnd hbn hfr jJg f1 f2 (by simp[ha]) (by simp;omega) (by simp;omega) ?_
    intro G' Hs' v8 v9 i1 i2 i3 i4
    refine⟨_,_,_,_,_,_,rfl,Hs',?_,i2,i3.mono (by simp;omega),i4⟩
    rw[jU7 hpe];unfold hv;rw[lJc hcn];exact i1
   ·rw[lJb (by simp;omega)]
    refine⟨by omega,by omega,by omega,fun p hp=> ?_⟩
    obtain⟨f1,f2⟩:=fresh p hp
    refine kJt (S:=[(a,0),(c,1)]) h1 (h2.sub (.new hp)) (h3.gup f2.symm) (h4.over (h4.none f2 hp)) hnd hbn hfr jJg f1 f2 (by simp;omega) (by simp;omega) (by simp;omega) ?_
    intro G' Hs' v8 v9 i1 i2 i3 i4
    refine⟨_,_,_,_,_,_,rfl,Hs',?_,i2,i3.mono (by simp;omega),i4⟩
    rw[jU7 hpe];unfold hv;rw[lJb hcn];exact i1
  ·intro τ G' h_;apply xe7 h_;clear h_;intro v4 v5 v6 v7 v8 v9 Hs h_;apply ae4 h_;clear h_;intro h1 h2 h3 h4
   rw[jZd,lJf] at h1 h3
   wp_walk using 1,tSeq
   have ok:=h1.ok hP hn hPl
   refine⟨D,Hs,rs,rfl,h2,ok,fun G3 W s3 J=> ?_⟩
   exact kk W G3 (uJ6 h1 hP ok J) (h3.sub s3) (h4.trans (.sub s3))
def dgr (P:List (Nat×Nat)) (n r:Nat):Nat:=((hvs P n P.length).filter fun x=>x.1 == r).length
def jQt (n:Nat) (p:Nat×Nat):List Nat:=if p.2=n then [p.1] else [p.1,p.2]
theorem qUd {P Q:List (Nat×Nat)} {n:Nat}:∀k,k<=P.length->hvs (P++Q) n k=hvs P n k
 | 0,_=>rfl
 | k+1,h=>by
  have e:P[k]? =some P[k]:=lJg (by omega)
  rw[jU7 e,jU7 (p:=P[k]) (by rw[lKr (by omega)];exact e),qUd k (by omega)]
theorem qYj {P:List (Nat×Nat)} {n:Nat} {p:Nat×Nat}:hvs (P++[p]) n (P++[p]).length=hvs P n P.length++hv n P.length p:=by
 rw[lKf,List.length_singleton,jU7 (p:=p) (by simp),qUd _ (lJh _)]
theorem hv_cnt {n t r:Nat} {p:Nat×Nat}:((hv n t p).filter fun x=>x.1 == r).length=(jQt n p).count r:=by
 unfold hv jQt
 split
 ·by_cases h:p.1=r<;>simp[h]
 ·by_cases h:p.1=r<;>by_cases h':p.2=r<;>simp[h,h',lV0]
theorem jZj {P:List (Nat×Nat)} {n r:Nat} {p:Nat×Nat}:dgr (P++[p]) n r=dgr P n r+(jQt n p).count r:=by
 unfold dgr
 rw[qYj,List.filter_append,lKf,hv_cnt]
theorem qYp {L:List (Nat×Nat×Nat)} {k:Nat}:(L.filter fun x=>decide (x.1<k+1)).length=(L.filter fun x=>decide (x.1<k)).length+(L.filter fun x=>x.1 == k).length:=by
 induction L with
 | nil=>rfl
 | cons a as ih=>
  rw[lV0,lV0,lV0]
  rcases lQt a.1 k with h | h | h
  ·have h1:a.1<k+1:=by omega
   have h2:¬ a.1=k:=by omega
   simp[h,h1,h2,ih];omega
  ·have h1:a.1<k+1:=by omega
   simp[h,ih];omega
  ·have h1:¬ a.1<k+1:=by omega
   have h2:¬ a.1=k:=by omega
   have h3:¬ a.1<k:=by omega
   simp[h1,h2,h3,ih]
theorem qZm {L:List (Nat×Nat×Nat)} {d:Nat}:∀k,(∀r,r<k->d<=(L.filter fun x=>x.1 == r).length)->k*d<=(L.filter fun x=>decide (x.1<k)).length
 | 0,_=>by simp
 | k+1,h=>by
  rw[qYp,lQy]
  have h1:=qZm k fun r hr=>h r (by omega)
  have h2:=h k (by omega)
  omega
theorem qUm {P:List (Nat×Nat)} {n d k:Nat} (hd:2<=d) (hk:P.length<k):∃r,r<k/\dgr P n r<d:=by
 apply lKv
 intro h
 have h1:∀r,r<k->d<=((hvs P n P.length).filter fun x=>x.1 == r).length:=fun r hr=>by
  rcases lKk (dgr P n r) d with z | z
  ·exact absurd ⟨r,hr,z⟩ h
  ·exact z
 have h2:=qZm k h1
 have h3:=lVj (fun x:Nat×Nat×Nat=>decide (x.1<k)) (hvs P n P.length)
 have h4:=kQy (P:=P) (n:=n) P.length
 have h5:k*2<=k*d:=Nat.mul_le_mul_left k hd
 omega
theorem qY2 {P:List (Nat×Nat)} {n k r:Nat} (h:∀p,p∈P->p.1<k/\p.2<k) (hr:k<=r):dgr P n r=0:=by
 unfold dgr
 rw[lQh,List.filter_eq_nil_iff]
 rintro⟨a,t,s⟩ hx
 obtain⟨p,h1,h2,h3⟩:=kJm hx
 have h4:=h p (lJi h1)
 have h5:=(kKr h3).2.2
 simp
 omega
def jQ3 (n:Nat) (f:Nat->Nat):List T:=(List.range n).map fun r=>T.int (f r)
theorem kK0 {n:Nat} {f:Nat->Nat} {r:Nat} (h:r<n):L2.atI (jQ3 n f) (r:Int)=some (.int (f r)):=by rw[atN];simp[jQ3,h]
theorem qKa {n:Nat} {f:Nat->Nat}:(jQ3 n f).length=n:=by simp[jQ3]
theorem qJ9 {n:Nat} {f:Nat->Nat} {r v:Nat}:(jQ3 n f).set r (.int v)=jQ3 n fun x=>if x=r then v else f x:=by
 apply lK1
 intro i
 by_cases hi:i=r
 ·subst hi
  by_cases h:i<n
  ·rw[lKw (by simpa[jQ3] using h)];simp[jQ3,h]
  ·rw[lJ4 (by simp[jQ3];omega),lJ4 (by simp[jQ3];omega)]
 ·rw[lKl (Ne.symm hi)]
  by_cases h:i<n
  ·simp[jQ3,h,hi]
  ·rw[lJ4 (by simp[jQ3];omega),lJ4 (by simp[jQ3];omega)]
theorem bump {E:Ends3} {G2:Gp} {u:Addr} {n:Nat} {f:Nat->Nat} {es:List Nat} {stay:Gp->Prop} {w0 w1 w2 w4 w5 w6 w7 w8 w9 w10 w11:Option T} (hu:G2 u=some (.lst (jQ3 n f))) (hst:∀G',(∀c,c≠u->G' c=G2 c)->stay G') (hes:∀e,e∈es->e<n)
  (kk:∀G' v7,G' u=some (.lst (jQ3 n fun r=>f r+es.count r))->(∀c,c≠u->G' c=G2 c)->E.nx [w0,w1,w2,some (.ref u),w4,w5,w6,v7,w8,w9,w10,w11] G'):
  uQk (jJi 7) (tAsg (tOp jKh (tOp rIxF (tVar 3) (tVar 7)) (tC (.int 1))) (gSub (tVar 3) (tVar 7) jVs)) E [w0,w1,w2,some (.ref u),w4,w5,w6,w7,w8,w9,w10,w11] (es.map fun e=>T.int (e:Nat)) stay G2:=by
 refine⟨fun j τ G'=>∃v7,τ=[w0,w1,w2,some (.ref u),w4,w5,w6,v7,w8,w9,w10,w11]/\G' u=some (.lst (jQ3 n fun r=>f r+(es.take j).count r))/\(∀c,c≠u->G' c=G2 c),?_,?_,?_,?_⟩
 ·exact⟨w7,rfl,by simpa using hu,fun _ _=>rfl⟩
 ·intro j τ G' hj h_;apply xe1 h_;clear h_;intro v7 h_;apply ae2 h_;clear h_;intro h1 h2
  exact hst G' h2
 ·intro j x τ G' hx0 h_;apply xe1 h_;clear h_;intro v7 h_;apply ae2 h_;clear h_;intro h1 h2
  obtain⟨e,hx,rfl⟩:=jK5 hx0
  have he:=hes e (lJi hx)
  have hix:L2.ixN (jQ3 n fun r=>f r+(es.take j).count r).length (e:Int)=some e:=kQw (by rw[qKa];exact he)
  wp_walk using 1,jKe h1,kK0 he,jXt h1 hix
  refine⟨?_,fun c hc=>by rw[jJm hc];exact h2 c hc⟩
  rw[show T.int (((f e+(es.take j).count e:Nat):Int)+1)=T.int ((f e+(es.take j).count e+1:Nat):Int) by simp,qJ9]
  congr 1
  funext r
  rw[lQ2,hx,Option.toList_some,List.count_append]
  by_cases hr:r=e
  ·subst hr;simp;omega
  ·have:¬ e=r:=fun z=>hr z.symm
   simp[hr,this]
 ·intro τ G' h_;apply xe1 h_;clear h_;intro v7 h_;apply ae2 h_;clear h_;intro h1 h2
  rw[lJf,lQs] at h1
  exact kk G' v7 h1 h2
structure WebOk (n d:Nat) (W:Web):Prop where
 len:W.length=n
 sym:Sym W
 deg:∀(r:Nat) (es:List (Nat×Nat)),W[r]? =some es->es.length<=d
 low:∀r,1<=r->r<n->∃i a j,en W r i=some (a,j)/\a<r
structure POk (P:List (Nat×Nat)) (n d k:Nat):Prop where
 ok:kQ7 P n
 deg:∀r,r<n->dgr P n r<=d
 low:∀r,1<=r->r<k->∃p,p∈P/\p.2=r/\p.1<r
theorem POk.web {P:List (Nat×Nat)} {n d:Nat} {W:Web} (h:POk P n d n) (m:Made P n W):WebOk n d W where
 len:=m.len
 sym:=m.sym
 deg:=fun r es hr=>by
  rw[m.deg r es hr];exact h.deg r (by rw[<-m.len];exact (lJe.mp hr).1)
 low:=fun r h1 h2=>by
  obtain⟨p,q1,q2,q3⟩:=h.low r h1 h2
  obtain⟨i,j,q4⟩:=m.tie p q1 (by omega)
  have:=m.sym _ _ _ _ q4
  rw[q2] at this
  exact⟨j,p.1,i,this,q3⟩
noncomputable def jXm:Sp3:=fun xs G Q=>∃(b:Addr) (n d m:Nat),xs=[.ref b,.int n,.int d]/\BoxAt G b m/\m+300<2^40/\1<=n/\n<=24/\2<=d/\d<=100/\∀W G',WebOk n d W->BoxAt G' b (m+300)->Keep b G G'->Q (encW W) G'
def uQf:List Str:=["_law_box_here","_law_many","_law_most","_law_used","_law_pairs","_law_room","_law_free","_law_end","_law_turn_here","_law_pair","_law_ends_here","_law_one"]
noncomputable def kQl:TS3:=
 (tSeq (tAsg (tOp jVd (tLst (jJc (tC (.int 0)) tNil)) (tVar 1)) (jJi 3))
 (tSeq (tAsg (tLst tNil) (jJi 4))
 (tSeq (tFor (uKr (jJc (tC (.int 1)) (jJc (tVar 1) tNil))) (jJi 5) (tSeq (tAsg (jQu [false,false,false,false,false,false,false,false,false,false,false,true] (jJ6 (jJc (tVar 5) tNil)) (jJi 11) (jJ1 (tOp rLt (tOp rIxF (tVar 3) (tVar 11)) (tVar 2))) (tVar 11)) (jJi 6))
 (tSeq (jK2 (tBM "list" jJ8 (tVar 4) (jJc (tTup (jJc (tOp rIxF (tVar 6) (jJr jJp (jJc (tVar 0) (jJc (tCB rLen (jJc (tVar 6) tNil)) tNil)))) (jJc (tVar 5) tNil))) tNil)))
 (tFor (iSeq (tOp rIxF (tVar 4) (tUn rNeg (tC (.int 1))))) (jJi 7) (tAsg (tOp jKh (tOp rIxF (tVar 3) (tVar 7)) (tC (.int 1))) (gSub (tVar 3) (tVar 7) jVs))))))
 (tSeq (tFor (jJ6 (jJc (jJr jJp (jJc (tVar 0) (jJc (tOp jKh (tVar 1) (tC (.int 2))) tNil))) tNil)) (jJi 8) (tSeq (tAsg (tTup (jJc (jJr jJp (jJc (tVar 0) (jJc (tVar 1) tNil))) (jJc (jJr jJp (jJc (tVar 0) (jJc (tOp jKh (tVar 1) (tC (.int 1))) tNil))) tNil))) (jJi 9))
 (tSeq (tAsg (jQu [false,false,false,false,false,false,false,true,false,false,false,false] (iSeq (tVar 9)) (jJi 7) (jJ1 (tOp rLt (tVar 7) (tVar 1))) (tVar 7)) (jJi 10))
 (tIfS (jJ1 (tCB rAll (jJc (jQu [false,false,false,false,false,false,false,true,false,false,false,false] (iSeq (tVar 10)) (jJi 7) jV0 (tOp rLeF (tOp jKh (tOp rIxF (tVar 3) (tVar 7)) (tBM "list" kUs (tVar 10) (jJc (tVar 7) tNil))) (tVar 2))) tNil))) (tSeq (jK2 (tBM "list" jJ8 (tVar 4) (jJc (tVar 9) tNil)))
 (tFor (iSeq (tVar 10)) (jJi 7) (tAsg (tOp jKh (tOp rIxF (tVar 3) (tVar 7)) (tC (.int 1))) (gSub (tVar 3) (tVar 7) jVs)))) jKr))))
 (tRet (jJr jUh (jJc (tVar 0) (jJc (tVar 4) (jJc (tVar 1) tNil)))))))))
theorem qXc {n:Nat}:(List.replicate n [T.int 0]).flatten=jQ3 n fun _=>0:=by
 have:(List.replicate n [T.int 0]).flatten=List.replicate n (T.int 0):=by
  induction n with
  | zero=>rfl
  | succ n ih=>rw[lK6,lQw,ih];rfl
 rw[this]
 apply lK1
 intro i
 by_cases h:i<n
 ·simp[jQ3,h]
 ·rw[lJ4 (by simp;omega),lJ4 (by simp[jQ3];omega)]
theorem qK0 {lo n:Nat}:rngT lo n=(List.range n).map fun (k:Nat)=>T.int ((lo+k:Nat):Int):=by simp[rngT]
theorem uK6 {es:List Nat} {r:Nat}:(es.map fun e=>T.int (e:Nat)).countP (fun z=>eqT z (.int r))=es.count r:=by
 rw[List.countP_map,List.count]
 congr 1
 funext e
 simp only[eqT,Function.comp]
 by_cases h:e=r
 ·subst h;simp
 ·have h2:¬ (e:Int)=r:=by omega
  rw[beq_eq_false_iff_ne.mpr h,beq_eq_false_iff_ne.mpr h2]
theorem kVg {es:List Nat}:(es.map fun e=>T.int (e:Nat)).all jXi=true:=by
 rw[List.all_map,lQ0];intros;rfl
theorem kVu {α:Type} {f:α->Bool}:∀ {es:List α},kYa (es.map fun e=>T.bl (f e))=some (es.all f)
 | []=>rfl
 | e::es=>by rw[lJq,kYa,kVu,lQr]
theorem kZ8:RdOk jXm kQl uQf:=by
 intro xs G Q h_;apply xe4 h_;clear h_;intro b n d m h_;apply ae7 h_;clear h_;intro hb hm hn1 hn2 hd1 hd2 kk
 show kQl _ [some (.ref b),some (.int n),some (.int d),none,none,none,none,none,none,none,none,none] G
 have hs:=sz
 wp_walk using 1,kQl,jJw,jJ6,uKr
 refine⟨by omega,fun z hz=> ?_⟩
 have e1:mulR (gup G z (GO.lst [T.int 0])) (.ref z) (.int n)=some (.newL (jQ3 n fun _=>0)):=by
  rw[<-qXc]
  simp only[mulR,jJg];rw[lJc];congr;refine⟨?_,?_,?_⟩<;>simp<;>omega
 wp_walk using 1,e1
 intro u hu
 obtain⟨huz,hu0⟩:=jKn hu
 refine⟨lJs _,fun pr hpr=> ?_⟩
 obtain⟨hpu,hpr1⟩:=jKn hpr
 obtain⟨hpz,hpr0⟩:=jKn hpr1
 obtain⟨bo,hbo⟩:=hb.some
 have hbu:=jJf hbo hu0
 have hbp:=jJf hbo hpr0
 have hbz:=jJf hbo hz
 refine⟨by omega,by omega,by omega,by omega,?_⟩
 rw[show ((n:Int)-1).toNat=n-1 by omega,show rngT 1 (n-1)=rngT ((1:Nat):Int) (n-1) from rfl,qK0]
 let J1:Nat->St3->Gp->Prop:=fun k τ G'=>∃(v5 v6 v7:Option T) (P:List (Nat×Nat)),τ=[some (.ref b),some (.int n),some (.int d),some (.ref u),some (.ref pr),v5,v6,v7,none,none,none,none]/\P.length=k/\POk P n d (k+1)/\(∀p,p∈P->p.1<k+1/\p.2<k+1)/\G' u=some (.lst (jQ3 n (dgr P n)))/\G' pr=some (.lst (P.map encE))/\BoxAt G' b (m+k)/\Keep b G G'
 refine⟨J1,?_,?_,?_,?_⟩
 ·refine xi4 none none none [] rfl ⟨rfl,⟨by intro p h;simp at h,fun r _=>by simp[dgr,hvs],fun r h1 h2=>by omega⟩,by intro p h;simp at h,by rw[jJm hpu.symm,jJg];rfl,jJg,((hb.gup hbz).gup hbu).gup hbp,(((Keep.new hz).over hu0).over hpr0)⟩
 ·intros;trivial
 ·intro k x τ G1 hx0 h_;apply xe4 h_;clear h_;intro v5 v6 v7 P h_;apply ae7 h_;clear h_;intro hPl hP hlt hgu hgp hbx hkp
  obtain⟨e,hx,rfl⟩:=jK5 hx0
  obtain⟨hk,rfl⟩:k<n-1/\k=e:=by
   rw[lJe] at hx;obtain⟨q1,q2⟩:=hx;simp at q1 q2;exact⟨q1,q2⟩
  wp_walk using 1,iSeq,jJ6,jJw
  refine⟨by omega,by omega,?_⟩
  rw[show (((1+k:Nat)):Int).toNat=1+k by omega,jQz]
  refine jU9 (fun r=>if dgr P n r<d then some (T.int (r:Nat)) else none) (by simp;omega) (fun _ _=>trivial) ?_ ?_
  ·intro i r hr G2 K K0 s2 hK hK0
   obtain⟨hr1,rfl⟩:i<1+k/\i=r:=by
    rw[lJe] at hr;obtain⟨q1,q2⟩:=hr;simp at q1 q2;exact⟨q1,q2⟩
   wp_walk using 1,jKe (s2 _ _ hgu),kK0 (show i<n by omega)
   by_cases hdg:dgr P n i<d
   ·rw[lJc (by omega)]
    exact hK _ _ (by rw[lJc hdg]) (.refl _)
   ·rw[lJb (by omega)]
    exact hK0 (by rw[lJb hdg]) _ (.refl _)
  ·intro fr G2 hfr hfr2 s2
   obtain⟨F,hF1,hF2⟩:∃F:List Nat,(List.range (1+k)).filterMap (fun r=>if dgr P n r<d then some (T.int (r:Nat)) else none)=F.map (fun r=>T.int (r:Nat))/\F=(List.range (1+k)).filter fun r=>decide (dgr P n r<d):=by
    refine⟨_,?_,rfl⟩
    generalize List.range (1+k)=l
    induction l with
    | nil=>rfl
    | cons a as ih=>
     rw[lQo,lV0]
     by_cases h:dgr P n a<d<;>simp[h,ih]
   rw[hF1] at hfr2
   have hFl:F.length<=1+k:=by rw[hF2];have:=lVj (fun r=>decide (dgr P n r<d)) (List.range (1+k));rw[lK8] at this;exact this
   have hF0:1<=F.length:=by
    obtain⟨r,q1,q2⟩:=qUm (P:=P) (n:=n) (d:=d) (k:=1+k) hd1 (by omega)
    have:r∈F:=by rw[hF2,lK2];exact⟨lJy.mpr q1,by simpa using q2⟩
    exact List.length_pos_of_mem this
   have hgp2:=s2 _ _ hgp
   wp_walk using 1,jKd hgp2,jJn hfr2,List.length_map
   refine⟨b,_,m+k,rfl,hbx.sub s2,by omega,by omega,by omega,fun c G3 c0 c1 bx kp=> ?_⟩
   have hfb:fr≠b:=by rintro rfl;obtain⟨o,ho⟩:=hbx.some;rw[ho] at hfr;cases hfr
   have hcF:c.toNat<F.length:=by omega
   have hca:L2.atI (F.map fun r=>T.int (r:Nat)) c=some (.int (F[c.toNat]:Nat)):=by rw[atZ c0];simp[hcF]
   have hmem:F[c.toNat]∈F:=lXg hcF
   generalize F[c.toNat]=a at hca hmem
   rw[hF2,lK2] at hmem
   have ha1:a<1+k:=lJy.mp hmem.1
   have ha2:dgr P n a<d:=by simpa using hmem.2
   have hgp3:=kp _ _ hbp.symm hgp2
   have hgu3:=kp _ _ hbu.symm (s2 _ _ hgu)
   wp_walk using 1,jKe (kp _ _ hfb hfr2),hca,hgp3
   refine⟨by omega,by simp;omega,_,qVl,[T.int (a:Nat),T.int ((1+k:Nat):Int)],rfl,?_⟩
   have hne:u≠pr:=hpu.symm
   have hE:jQt n (a,1+k)=[a,1+k]:=by unfold jQt;rw[lJb (show ¬ (1+k)=n by omega)]
   refine bump (es:=[a,1+k]) (n:=n) (f:=dgr P n) (by rw[jJm hne];exact hgu3) (fun _ _=>rfl) (by simp;omega) ?_
   intro G4 v7 hu4 hk4
   have hlt':∀p,p∈P++[(a,1+k)]->p.1<k+1+1/\p.2<k+1+1:=by
    intro p hp
    rw[lKh,lJ1] at hp
    rcases hp with hp | rfl
    ·have:=hlt p hp;omega
    ·exact⟨by show a<_;omega,by show 1+k<_;omega⟩
   refine xi4 _ _ _ (P++[(a,1+k)]) rfl ⟨by simp[hPl],⟨?_,?_,?_⟩,hlt',?_,?_,?_,?_⟩
   ·intro p hp
    have:=hlt' p hp;omega
   ·intro r hr
    rw[jZj,hE]
    have h0:=hP.deg r hr
    have hz1:=qY2 (n:=n) (r:=1+k) hlt (by omega)
    by_cases h1:r=a
    ·subst h1
     have:¬ 1+k=r:=by omega
     simp[this];omega
    ·have h1':¬ a=r:=fun z=>h1 z.symm
     by_cases h2:1+k=r
     ·subst h2;simp[h1'];omega
     ·simp[h1',h2];omega
   ·intro r h1 h2
    by_cases h3:r<k+1
    ·obtain⟨p,q1,q2⟩:=hP.low r h1 h3
     exact⟨p,lQp _ q1,q2⟩
    ·exact⟨(a,1+k),by simp,by show 1+k=r;omega,by show a<r;omega⟩
   ·rw[hu4,show (fun r=>dgr P n r+List.count r [a,1+k])=dgr (P++[(a,1+k)]) n from funext fun r=>by rw[jZj,hE]]
   ·rw[hk4 pr hpu,jJg];simp[encE]
   ·obtain⟨x,y,w,z1,z2⟩:=bx
    exact⟨x,y,w,by rw[hk4 b hbu,jJm hbp];exact z1,z2⟩
   ·intro c o hc he
    have hcu:=jJf he hu0
    have hcp:=jJf he hpr0
    rw[hk4 c hcu,jJm hcp]
    exact kp _ _ hc (s2 _ _ (hkp _ _ hc he))
 ·intro τ G1 h_;apply xe4 h_;clear h_;intro v5 v6 v7 P h_;apply ae7 h_;clear h_;intro hPl hP hlt hgu hgp hbx hkp
  rw[lJf,lK8] at hPl hP hbx
  rw[show n-1+1=n by omega] at hP
  wp_walk using 1,jJw,jJ6
  refine⟨b,_,m+(n-1),rfl,hbx,by omega,by omega,by omega,fun q G2 q0 q1 bx kp=> ?_⟩
  refine⟨q,rfl,by omega,by omega,?_⟩
  let J2:Nat->St3->Gp->Prop:=fun k τ G'=>∃(v7 v8 v9 v10 v11:Option T) (P:List (Nat×Nat)),τ=[some (.ref b),some (.int n),some (.int d),some (.ref u),some (.ref pr),v5,v6,v7,v8,v9,v10,v11]/\P.length<=n+k/\POk P n d n/\G' u=some (.lst (jQ3 n (dgr P n)))/\G' pr=some (.lst (P.map encE))/\BoxAt G' b (m+n+2*k)/\Keep b G G'
  refine⟨J2,?_,?_,?_,?_⟩
  ·exact xi6 _ _ _ _ _ P rfl ⟨by omega,hP,kp _ _ hbu.symm hgu,kp _ _ hbp.symm hgp,bx.mono (by omega),hkp.trans kp⟩
  ·intros;trivial
  ·intro k x τ G3 hx0 h_;apply xe6 h_;clear h_;intro v7 v8 v9 v10 v11 P h_;apply ae6 h_;clear h_;intro hPl hP hgu hgp hbx hkp
   have hk:k<q.toNat:=by have:=(lJe.mp hx0).1;rw[jKu] at this;exact this
   wp_walk using 1,jJw,iSeq
   refine⟨b,_,_,rfl,hbx,by omega,by omega,by omega,fun c G4 c0 c1 bx4 kp4=> ?_⟩
   refine⟨b,_,_,rfl,bx4,by omega,by omega,by omega,fun e G5 e0 e1 bx5 kp5=> ?_⟩
   obtain⟨a,rfl⟩:=lKj c0
   obtain⟨y,rfl⟩:=lKj e0
   have ha:a<n:=by omega
   have hy:y<=n:=by omega
   have kp35:=kp4.trans kp5
   have hgu5:=kp35 _ _ hbu.symm hgu
   have hgp5:=kp35 _ _ hbp.symm hgp
   refine⟨by omega,?_⟩
   have hEn:∀e',e'∈jQt n (a,y)->e'<n:=by
    intro e' he'
    unfold jQt at he'
    split at he'<;>simp at he'<;>simp at * <;>omega
   have hEl:(jQt n (a,y)).length<=2:=by unfold jQt;split<;>simp
   refine jU9 (es:=[a,y]) (enc:=fun r:Nat=>T.int r) (fun r=>if r<n then some (T.int (r:Nat)) else none) (by simp;omega) (fun _ _=>trivial) ?_ ?_
   ·intro i r hr G6 K K0 s6 hK hK0
    wp_walk using 1,tSeq
    by_cases hrn:r<n
    ·rw[lJc (by omega)]
     exact hK _ _ (by rw[lJc hrn]) (.refl _)
    ·rw[lJb (by omega)]
     exact hK0 (by rw[lJb hrn]) _ (.refl _)
   ·intro en G6 hen hen6 s6
    have hEE:List.filterMap (fun r=>if r<n then some (T.int (r:Nat)) else none) [a,y]=(jQt n (a,y)).map fun r=>T.int (r:Nat):=by
     unfold jQt
     by_cases hyn:y=n
     ·simp[ha,hyn]
     ·have:y<n:=by omega
      simp[ha,hyn,this]
    rw[hEE] at hen6
    refine⟨_,jJn hen6,?_⟩
    refine jQb (fun r=>T.bl (decide (dgr P n r+(jQt n (a,y)).count r<=d))) (by omega) (fun G' s=>jJn (s _ _ hen6)) ?_ ?_
    ·intro i r hr G7 K K0 s7 hK
     have hrn:=hEn r (lJi hr)
     wp_walk using 1,jKe (s7 _ _ (s6 _ _ hgu5)),kK0 hrn,jKd (s7 _ _ hen6),kUs,s7 _ _ hen6,rLeF
     refine⟨rfl,kVg,?_⟩
     rw[uK6,show decide (((dgr P n r:Nat):Int)+((jQt n (a,y)).count r:Nat)<=(d:Nat))=decide (dgr P n r+(jQt n (a,y)).count r<=d) from decide_eq_decide.mpr (by omega)]
     exact hK _ (.refl _)
    ·intro al G7 hal hal7 s7
     refine⟨al,_,_,rfl,hal7,kVu,_,rfl,?_⟩
     have s57:=s6.trans s7
     have hgp7:=s57 _ _ hgp5
     have hgu7:=s57 _ _ hgu5
     have henp:en≠pr:=(jJf hgp5 hen).symm
     have henu:en≠u:=(jJf hgu5 hen).symm
     have hkp7:Keep b G G7:=(hkp.trans kp35).trans (.sub s57)
     split
     ·rename_i hall
      rw[lQ0] at hall
      refine⟨by rw[jKd hgp7];trivial,_,hgp7,by simp;omega,_,jJn (by rw[jJm henp];exact s7 _ _ hen6),?_⟩
      refine bump (es:=jQt n (a,y)) (n:=n) (f:=dgr P n) (by rw[jJm hpu.symm];exact hgu7) (fun G' hG'=>jJn (by rw[hG' _ henu,jJm henp];exact s7 _ _ hen6)) hEn ?_
      intro G8 w7 hu8 hk8
      refine xi6 _ _ _ _ _ (P++[(a,y)]) rfl ⟨by simp;omega,⟨?_,?_,?_⟩,?_,?_,?_,?_⟩
      ·intro p hp
       rw[lKh,lJ1] at hp
       rcases hp with hp | rfl
       ·exact hP.ok p hp
       ·exact⟨ha,hy⟩
      ·intro r hr
       rw[jZj]
       by_cases hm:r∈jQt n (a,y)
       ·simpa using hall r hm
       ·rw[List.count_eq_zero_of_not_mem hm];exact hP.deg r hr
      ·intro r h1 h2
       obtain⟨p,q1,q2⟩:=hP.low r h1 h2
       exact⟨p,lQp _ q1,q2⟩
      ·rw[hu8,show (fun r=>dgr P n r+List.count r (jQt n (a,y)))=dgr (P++[(a,y)]) n from funext fun r=>by rw[jZj]]
      ·rw[hk8 pr hpu,jJg];simp[encE]
      ·obtain⟨x1,y1,w,z1,z2⟩:=(bx5.sub s57).mono (show m+n+2*k+1+1<=m+n+2*(k+1) by omega)
       exact⟨x1,y1,w,by rw[hk8 b hbu,jJm hbp];exact z1,z2⟩
      ·intro c o hc he
       have hcu:=jJf he hu0
       have hcp:=jJf he hpr0
       rw[hk8 c hcu,jJm hcp]
       exact hkp7 _ _ hc he
     ·exact xi6 _ _ _ _ _ P rfl ⟨by omega,hP,hgu7,hgp7,(bx5.sub s57).mono (by omega),hkp7⟩
  ·intro τ G3 h_;apply xe6 h_;clear h_;intro v7 v8 v9 v10 v11 P h_;apply ae6 h_;clear h_;intro hPl hP hgu hgp hbx hkp
   rw[jKu] at hPl hbx
   wp_walk using 1,tSeq
   refine⟨b,pr,P,n,_,rfl,hbx,by omega,hbp.symm,hgp,hP.ok,by omega,by omega,fun W G4 mw bx4 kp4=> ?_⟩
   exact kk W G4 (hP.web mw) (bx4.mono (by omega)) (hkp.trans kp4)
def Conn (W:Web):Prop:=∀S:Nat->Prop,S 0->(∀r i s j,S r->en W r i=some (s,j)->S s)->∀r,r<W.length->S r
theorem WebOk.conn {n d:Nat} {W:Web} (h:WebOk n d W):Conn W:=by
 intro S h0 hst r
 induction r using Nat.strongRecOn with
 | ind r ih=>
  intro hr
  by_cases hz:r=0
  ·subst hz;exact h0
  ·obtain⟨i,a,j,q1,q2⟩:=h.low r (by omega) (by rw[<-h.len];exact hr)
   exact hst a j r i (ih a q2 (by omega)) (h.sym _ _ _ _ q1)
theorem kJp {W:Web} {r i:Nat} {e:Nat×Nat} (h:en W r i=some e):r<W.length:=by
 obtain⟨es,h1,h2⟩:=jK0 h
 exact (lJe.mp h1).1
def ring (n:Nat):Web:=(List.range n).map fun r=>[((r+1)%n,1),((r+n-1)%n,0)]
theorem kZj {n r:Nat} (h:r<n):en (ring n) r 0=some ((r+1)%n,1):=jK1 (es:=[((r+1)%n,1),((r+n-1)%n,0)]) (by simp[ring,h]) rfl
theorem kQ3 {n r:Nat} (h:r<n):en (ring n) r 1=some ((r+n-1)%n,0):=jK1 (es:=[((r+1)%n,1),((r+n-1)%n,0)]) (by simp[ring,h]) rfl
theorem kQc {n:Nat}:(ring n).length=n:=by simp[ring]
theorem uJk {n:Nat} (hn:1<=n):WebOk n 2 (ring n) where
 len:=kQc
 sym:=by
  intro r i s j h
  have hr:r<n:=by have:=kJp h;rwa [kQc] at this
  have hi:i=0\/i=1:=by
   obtain⟨es,h1,h2⟩:=jK0 h
   have:es=[((r+1)%n,1),((r+n-1)%n,0)]:=by simp[ring,hr] at h1;exact h1.symm
   subst this
   have:=(lJe.mp h2).1
   simp at this;omega
  rcases hi with rfl | rfl
  ·rw[kZj hr] at h;cases h
   rw[kQ3 (lK7 _ (by omega))]
   congr 2
   by_cases hz:r+1=n
   ·rw[hz,Nat.mod_self];rw[lQa (by omega)];omega
   ·rw[lQa (show r+1<n by omega),show r+1+n-1=r+n by omega,Nat.add_mod_right,lQa hr]
  ·rw[kQ3 hr] at h;cases h
   rw[kZj (lK7 _ (by omega))]
   congr 2
   by_cases hz:r=0
   ·subst hz;rw[lQa (show 0+n-1<n by omega),show 0+n-1+1=n by omega,Nat.mod_self]
   ·rw[show r+n-1=(r-1)+n by omega,Nat.add_mod_right,lQa (show r-1<n by omega),show r-1+1=r by omega,lQa hr]
 deg:=fun r es hr=>by
  have hrl:r<n:=by have:=(lJe.mp hr).1;rwa [kQc] at this
  simp[ring,hrl] at hr;rw[<-hr];simp
 low:=fun r h1 h2=>⟨1,r-1,0,by rw[kQ3 h2,show r+n-1=(r-1)+n by omega,Nat.add_mod_right,lQa (show r-1<n by omega)],by omega⟩
def jZt:Sp3:=fun xs G Q=>∃n:Nat,xs=[.int n]/\1<=n/\n<=1000/\∀G',Sub G G'->Q (encW (ring n)) G'
def qZd:List Str:=["_law_many","_law_room"]
noncomputable def jZz:TS3:=
 (tRet (tCB jJ7 (jJc (jQu [false,true] (jJ6 (jJc (tVar 0) tNil)) (jJi 1) jV0 (tTup (jJc (tTup (jJc (tOp rMod (tOp jKh (tVar 1) (tC (.int 1))) (tVar 0)) (jJc (tC (.int 1)) tNil))) (jJc (tTup (jJc (tOp rMod (tOp rSub (tVar 1) (tC (.int 1))) (tVar 0)) (jJc (tC (.int 0)) tNil))) tNil)))) tNil)))
theorem kXc:RdOk jZt jZz qZd:=by
 intro xs G Q h_;apply xe1 h_;clear h_;intro n h_;apply ae3 h_;clear h_;intro hn1 hn2 kk
 show jZz _ [some (.int n),none] G
 have hs:=sz
 wp_walk using 1,jZz,jJ6
 refine⟨by omega,by omega,?_⟩
 rw[show ((n:Int)).toNat=n by omega,jQz]
 refine jQb (fun r=>encR [((r+1)%n,1),((r+n-1)%n,0)]) (by simp;omega) (fun _ _=>trivial) ?_ ?_
 ·intro i r hr G' K K0 s hk
  have hrn:r<n:=by
   rw[lJe] at hr;obtain⟨q1,q2⟩:=hr;simp at q1 q2;omega
  wp_walk using 1,tSeq
  have e1:((r:Int)+1)%(n:Int)=(((r+1)%n:Nat):Int):=by simp
  have e2:((r:Int)-1)%(n:Int)=(((r+n-1)%n:Nat):Int):=by
   rw[Int.natCast_emod,show ((r+n-1:Nat):Int)=(r:Int)-1+n by omega,Int.add_emod_right]
  rw[e1,e2]
  refine⟨by omega,by omega,by omega,by omega,by omega,?_⟩
  exact hk _ (.refl _)
 ·intro D G' hD h1 h2
  wp_walk using 1,jJn h1
  have:=kk G' h2
  rw[encW,ring,lJ6] at this
  exact this
structure Fine (W:Web):Prop where
 len:W.length<=1000
 row:∀(r:Nat) (es:List (Nat×Nat)),W[r]? =some es->es.length<=1000
 rng:∀r i s j,en W r i=some (s,j)->s<W.length
theorem jKz {W:Web} {r:Nat} {es:List (Nat×Nat)} (h:W[r]? =some es):L2.atI (W.map encR) (r:Int)=some (encR es):=by rw[atN];simp[h]
theorem kQ2 {es:List (Nat×Nat)} {i:Nat} {e:Nat×Nat} (h:es[i]? =some e):L2.atI (es.map encE) (i:Int)=some (encE e):=by rw[atN];simp[h]
theorem jXv {n k:Nat} {x:T} (h:(rngT 0 n)[k]? =some x):k<n/\x= .int (k:Nat):=jQ0 h
def leE (a b:Nat×Nat):Bool:=HT.lexLe [(a.1:Int),(a.2:Int)] [(b.1:Int),(b.2:Int)]
theorem leE_iff {a b:Nat×Nat}:leE a b=true↔(a.1<b.1\/(a.1=b.1/\a.2<=b.2)):=by
 unfold leE
 rw[HT.lexLe_cons,HT.lexLe_cons,HT.lexLe_nil]
 by_cases h1:a.1=b.1
 ·rw[lJc (by omega)]
  by_cases h2:a.2=b.2
  ·rw[lJc (by omega)];simp;omega
  ·rw[lJb (by omega)];simp;omega
 ·rw[lJb (by omega)];simp;omega
abbrev Tie:=(Nat×Nat)×(Nat×Nat)
def encT (x:Tie):T:= .tup [encE x.1,encE x.2]
def jY5 (r:Nat) (es:List (Nat×Nat)) (i:Nat):Option Tie:=match es[i]? with
 | some e=>if leE (r,i) e=true then some ((r,i),e) else none
 | none=>none
def rowE (W:Web) (r:Nat):List Tie:=match W[r]? with
 | some es=>(List.range es.length).filterMap (jY5 r es)
 | none=>[]
def jK3 (W:Web):List Tie:=(List.range W.length).flatMap (rowE W)
theorem jVx {r i:Nat} {es:List (Nat×Nat)} {x:Tie} (h:jY5 r es i=some x):x.1=(r,i)/\es[i]? =some x.2/\leE x.1 x.2=true:=by
 unfold jY5 at h
 split at h
 ·rename_i e he
  split at h
  ·rename_i hl;cases h;exact⟨rfl,he,hl⟩
  ·cases h
 ·cases h
theorem endsL_mem {W:Web} {x:Tie}:x∈jK3 W↔en W x.1.1 x.1.2=some x.2/\leE x.1 x.2=true:=by
 obtain⟨⟨r,i⟩,e⟩:=x
 unfold jK3
 rw[List.mem_flatMap]
 constructor
 ·rintro⟨r',h1,h2⟩
  unfold rowE at h2
  split at h2
  ·rename_i es hes
   rw[lVe] at h2
   obtain⟨i',h3,h4⟩:=h2
   obtain⟨q1,q2,q3⟩:=jVx h4
   cases q1
   exact⟨jK1 hes q2,q3⟩
  ·cases h2
 ·rintro⟨h1,h2⟩
  obtain⟨es,q1,q2⟩:=jK0 h1
  refine⟨r,lJy.mpr (lJe.mp q1).1,?_⟩
  unfold rowE
  rw[q1]
  show _∈List.filterMap _ _
  rw[lVe]
  refine⟨i,lJy.mpr (lJe.mp q2).1,?_⟩
  have q2:es[i]? =some e:=q2
  unfold jY5
  rw[q2]
  show (if leE (r,i) e=true then _ else _)=_
  rw[lJc h2]
theorem pw_fm {α β:Type} {f:α->Option β} {R:β->β->Prop} {xs:List α} (hx:xs.Nodup) (h:∀a a' b b',a≠a'->f a=some b->f a'=some b'->R b b'):(xs.filterMap f).Pairwise R:=by
 rw[List.pairwise_filterMap]
 exact hx.imp fun hne b hb b' hb'=>h _ _ b b' hne hb hb'
theorem kX2 {W:Web}:(jK3 W).Nodup:=by
 unfold jK3
 have h:∀l:List Nat,l.Nodup->(l.flatMap (rowE W)).Nodup:=by
  intro l hl
  induction l with
  | nil=>exact lVq
  | cons a as ih=>
   rw[lKz] at hl
   rw[List.flatMap_cons,lVt]
   refine⟨?_,ih hl.2,?_⟩
   ·unfold rowE
    split
    ·refine pw_fm lXf ?_
     rintro i i' x x' hne hx hx' rfl
     have q1:=(jVx hx).1
     have q2:=(jVx hx').1
     rw[q1] at q2;cases q2;exact hne rfl
    ·exact lVq
   ·intro x hx y hy
    rintro rfl
    rw[List.mem_flatMap] at hy
    obtain⟨a',h1,h2⟩:=hy
    have fst:∀r,x∈rowE W r->x.1.1=r:=by
     intro r hr
     unfold rowE at hr
     split at hr
     ·rw[lVe] at hr
      obtain⟨i,_,h4⟩:=hr
      rw[(jVx h4).1]
     ·cases hr
    have:a=a':=(fst a hx).symm.trans (fst a' h2)
    subst this;exact hl.1 h1
 exact h _ lXf
def jXr:Sp3:=fun xs G Q=>∃W:Web,xs=[encW W]/\Fine W/\∀p G',G p=none->G' p=some (.lst ((jK3 W).map encT))->(jK3 W).length<=1000000->Sub G G'->Q (.ref p) G'
def qZf:List Str:=["_law_web_here","_law_found","_law_room","_law_door"]
noncomputable def jZ1:TS3:=
 (tSeq (tAsg (tLst tNil) (jJi 1))
 (tSeq (tFor (jJ6 (jJc (tCB rLen (jJc (tVar 0) tNil)) tNil)) (jJi 2) (tFor (jJ6 (jJc (tCB rLen (jJc (tOp rIxF (tVar 0) (tVar 2)) tNil)) tNil)) (jJi 3) (tIfS (jJ1 (tOp rLeF (tTup (jJc (tVar 2) (jJc (tVar 3) tNil))) (tOp rIxF (tOp rIxF (tVar 0) (tVar 2)) (tVar 3)))) (jK2 (tBM "list" jJ8 (tVar 1) (jJc (tTup (jJc (tTup (jJc (tVar 2) (jJc (tVar 3) tNil))) (jJc (tOp rIxF (tOp rIxF (tVar 0) (tVar 2)) (tVar 3)) tNil))) tNil))) jKr)))
 (tRet (tVar 1))))
theorem kXe:RdOk jXr jZ1 qZf:=by
 intro xs G Q h_;apply xe1 h_;clear h_;intro W h_;apply ae2 h_;clear h_;intro fine kk
 show jZ1 _ [some (.tup (W.map encR)),none,none,none] G
 have hs:=sz
 have hl:=fine.len
 wp_walk using 1,jZ1,jJw,jJ6,List.length_map
 refine⟨lJs _,fun p hp=>⟨by omega,by omega,?_⟩⟩
 rw[show ((W.length:Int)).toNat=W.length by omega]
 refine⟨fun k τ G'=>∃(v2 v3:Option T),τ=[some (.tup (W.map encR)),some (.ref p),v2,v3]/\G' p=some (.lst (((List.range k).flatMap (rowE W)).map encT))/\((List.range k).flatMap (rowE W)).length<=1000*k/\Sub G G',?_,?_,?_,?_⟩
 ·exact⟨none,none,rfl,jJg,lJs _,.new hp⟩
 ·intros;trivial
 ·intro k x τ G1 hx h_;apply xe2 h_;clear h_;intro v2 v3 h_;apply ae3 h_;clear h_;intro h1 h2 h3
  obtain⟨hk,rfl⟩:=jXv hx
  have hW:W[k]? =some W[k]:=lJg hk
  generalize W[k]=es at hW
  have hes:=fine.row k es hW
  wp_walk using 1,jJw,jJ6,jKz hW,encR,List.length_map
  refine⟨by omega,by omega,?_⟩
  rw[show ((es.length:Int)).toNat=es.length by omega]
  refine⟨fun i τ G'=>∃(v3:Option T),τ=[some (.tup (W.map encR)),some (.ref p),some (.int k),v3]/\G' p=some (.lst (((List.range k).flatMap (rowE W)++(List.range i).filterMap (jY5 k es)).map encT))/\((List.range k).flatMap (rowE W)++(List.range i).filterMap (jY5 k es)).length<=1000*k+i/\Sub G G',?_,?_,?_,?_⟩
  ·exact⟨v3,rfl,by simpa using h1,by simpa using h2,h3⟩
  ·intros;trivial
  ·intro i x τ G2 hx h_;apply xe1 h_;clear h_;intro v3 h_;apply ae3 h_;clear h_;intro i1 i2 i3
   obtain⟨hi,rfl⟩:=jXv hx
   have hE:es[i]? =some es[i]:=lJg hi
   generalize es[i]=e at hE
   wp_walk using 1,rLeF,jKz hW,encR,kQ2 hE,encE,jKd i1,i1
   refine⟨by omega,?_⟩
   have hle:HT.lexLe [(k:Int),(i:Int)] [(e.1:Int),(e.2:Int)]=leE (k,i) e:=rfl
   rw[hle]
   by_cases hc:leE (k,i) e=true
   ·have hcell:jY5 k es i=some ((k,i),e):=by unfold jY5;rw[hE];show (if _ then _ else _)=_;rw[lJc hc]
    rw[lJc hc]
    refine⟨by omega,by omega,by rw[lJf];omega,?_,?_,i3.over hp⟩
    ·rw[lQj,lVs];simp[hcell,encT,encE]
    ·rw[lQj,lVs,lKf,lKf]
     rw[lKf] at i2
     simp[hcell] at i2 ⊢; omega
   ·have hcell:jY5 k es i=none:=by unfold jY5;rw[hE];show (if _ then _ else _)=_;rw[lJb hc]
    rw[lJb hc]
    refine⟨?_,?_,i3⟩
    ·rw[lQj,lVs];simp[hcell]
    ·rw[lQj,lVs];simp[hcell];simp at i2;omega
  ·intro τ G' h_;apply xe1 h_;clear h_;intro v3 h_;apply ae3 h_;clear h_;intro i1 i2 i3
   rw[jKu] at i1 i2
   have e1:(List.range (k+1)).flatMap (rowE W)=(List.range k).flatMap (rowE W)++(List.range es.length).filterMap (jY5 k es):=by
    rw[lQj,lXu]
    congr 1
    simp[rowE,hW]
   refine⟨_,_,rfl,by rw[e1];exact i1,by rw[e1];omega,i3⟩
 ·intro τ G1 h_;apply xe2 h_;clear h_;intro v2 v3 h_;apply ae3 h_;clear h_;intro h1 h2 h3
  rw[jKu] at h1 h2
  wp_walk using 1,tSeq
  exact kk p G1 hp h1 (by show ((List.range W.length).flatMap (rowE W)).length<=_;omega) h3
def jJk (F:List Nat):List T:=F.map fun e=>T.int (e:Nat)
theorem qYe {F:List Nat} {r:Nat}:inT (.int r) (jJk F)=F.contains r:=by
 unfold inT jJk
 rw[List.any_map,List.contains_eq_any_beq]
 congr 1
 funext e
 simp only[Function.comp,eqT]
 by_cases h:e=r
 ·subst h;simp
 ·have h2:¬ (e:Int)=r:=by omega
  have h3:¬ r=e:=fun z=>h z.symm
  rw[beq_eq_false_iff_ne.mpr h3,beq_eq_false_iff_ne.mpr h2]
theorem qYf {G:Gp} {p:Addr} {F:List Nat} {r:Nat} (h:G p=some (.lst (jJk F))):inR G (.int r) (.ref p)=some (F.contains r):=by
 unfold inR
 rw[jJn h]
 show (if _ then _ else _)=_
 rw[lJc ⟨rfl,kVg⟩,qYe]
theorem jX1:∀ {n:Nat} {F:List Nat} (hn:F.Nodup) (hl:∀x,x∈F->x<n),F.length<=n
 | 0,F,hn,hl=>by
  cases F with
  | nil=>exact lJh _
  | cons a as=>exact absurd (hl a (lJu)) (lKx _)
 | n+1,F,hn,hl=>by
  have h1:=jX1 (n:=n) (hn.erase n) (fun x hx=>by
   rw[hn.mem_erase_iff] at hx
   have:=hl x hx.2;omega)
  by_cases h:n∈F
  ·rw[List.length_erase_of_mem h] at h1;omega
  ·rw[List.erase_of_not_mem h] at h1;omega
theorem jZ9 {F:List Nat} {n:Nat} (hn:F.Nodup) (hl:∀x,x∈F->x<n) (he:F.length=n):∀r,r<n->r∈F:=by
 intro r hr
 apply lKv
 intro hm
 have:(r::F).length<=n:=jX1 (lKz.mpr ⟨hm,hn⟩) (fun x hx=>by rw[lJl] at hx;rcases hx with rfl | hx;exact hr;exact hl x hx)
 simp at this;omega
def Closed (W:Web) (S:Nat->Prop):Prop:=∀r i s j,S r->en W r i=some (s,j)->S s
structure Found (W:Web) (r0:Nat) (F:List Nat):Prop where
 nd:F.Nodup
 lt:∀x,x∈F->x<W.length
 got:∀S,S r0->Closed W S->∀x,x∈F->S x
def vis (F:List Nat) (es:List (Nat×Nat)):List Nat:=es.foldl (fun F e=>if F.contains e.1=true then F else F++[e.1]) F
def row (W:Web) (r:Nat):List (Nat×Nat):=(W[r]?).getD []
theorem jYp {W:Web} {r:Nat} {es:List (Nat×Nat)} (h:W[r]? =some es):row W r=es:=by unfold row;rw[h];rfl
theorem kYi {F:List Nat} {es:List (Nat×Nat)} {j:Nat} {e:Nat×Nat} (h:es[j]? =some e):vis F (es.take (j+1))=if (vis F (es.take j)).contains e.1=true then vis F (es.take j) else vis F (es.take j)++[e.1]:=by
 unfold vis
 rw[lQ2,h,List.foldl_append];rfl
def bfsN (W:Web):Nat->Nat->List Nat->List Nat
 | 0,_,F=>F
 | n+1,k,F=>match F[k]? with
  | some r=>bfsN W n (k+1) (vis F (row W r))
  | none=>F
def bfs (W:Web) (r:Nat):List Nat:=bfsN W W.length 0 [r]
theorem qVk {W:Web} {n k:Nat} {F:List Nat} (h:F.length<=k):bfsN W n k F=F:=by
 cases n with
 | zero=>rfl
 | succ n=>rw[bfsN,lJ4 h]
theorem qVj {W:Web} {n k r:Nat} {F:List Nat} (h:F[k]? =some r):bfsN W (n+1) k F=bfsN W n (k+1) (vis F (row W r)):=by rw[bfsN,h]
noncomputable def jVi:Sp3:=fun xs G Q=>∃(W:Web) (r0:Nat),xs=[encW W,.int r0]/\Fine W/\r0<W.length/\∀p G' F,G p=none->G' p=some (.lst (jJk F))->Found W r0 F->F=bfs W r0->Sub G G'->Q (.ref p) G'
def kYe:List Str:=["_law_web_here","_law_room","_law_found","_law_at","_law_other","_law_door"]
noncomputable def jVo:TS3:=
 (tSeq (tAsg (tLst (jJc (tVar 1) tNil)) (jJi 2))
 (tSeq (tAsg (tC (.int 0)) (jJi 3))
 (tSeq (jZq (jJ1 (tOp rLt (tVar 3) (tCB rLen (jJc (tVar 2) tNil)))) (tSeq (tFor (iSeq (tOp rIxF (tVar 0) (tOp rIxF (tVar 2) (tVar 3)))) (gTup 2 (jKl (jJi 4) (jKl (jJi 5) gNil))) (tIfS (jJ1 (tOp jXx (tVar 4) (tVar 2))) (jK2 (tBM "list" jJ8 (tVar 2) (jJc (tVar 4) tNil))) jKr))
 (tAsg (tOp jKh (tVar 3) (tC (.int 1))) (jJi 3))))
 (tRet (tVar 2)))))
theorem kJ6:RdOk jVi jVo kYe:=by
 intro xs G Q h_;apply xe2 h_;clear h_;intro W r0 h_;apply ae3 h_;clear h_;intro fine hr0 kk
 show jVo _ [some (.tup (W.map encR)),some (.int r0),none,none,none,none] G
 have hs:=sz
 have hl:=fine.len
 wp_walk using 1,jVo,jZq,jJw
 refine⟨by omega,fun p hp=> ?_⟩
 refine⟨fun m τ G'=>∃(at':Nat) (v4 v5:Option T) (F:List Nat),τ=[some (.tup (W.map encR)),some (.int r0),some (.ref p),some (.int at'),v4,v5]/\G' p=some (.lst (jJk F))/\Found W r0 F/\Sub G G'/\bfs W r0=bfsN W (W.length-at') at' F/\m=W.length-at',⟨_,0,none,none,[r0],rfl,jJg,⟨by simp,by simpa using hr0,fun S h0 _ x hx=>by rw[lJ1] at hx;rw[hx];exact h0⟩,.new hp,rfl,rfl⟩,?_⟩
 intro m τ G1 h_;apply xe4 h_;clear h_;intro at' v4 v5 F h_;apply ae5 h_;clear h_;intro h1 h2 h3 hB e4_
 subst e4_
 wp_walk using 1,iSeq,jJn h1,jKe h1
 have hFl:=jX1 h2.nd h2.lt
 split
 ·rename_i hc
  have hat:at'<F.length:=by rw[jJk,lJf] at hc;omega
  have hF:F[at']? =some F[at']:=lJg hat
  have hfm:F[at']∈F:=lXg hat
  generalize F[at']=r at hF hfm
  have hrW:=h2.lt r hfm
  have hW:W[r]? =some W[r]:=lJg hrW
  generalize W[r]=es at hW
  have hatI:L2.atI (jJk F) (at':Int)=some (.int r):=by rw[atN];simp[jJk,hF]
  wp_walk using 1,hatI,jKz hW,encR
  refine⟨fun τ G'=>∃(v4 v5:Option T) (F:List Nat),τ=[some (.tup (W.map encR)),some (.int r0),some (.ref p),some (.int ((at'+1:Nat):Int)),v4,v5]/\G' p=some (.lst (jJk F))/\Found W r0 F/\Sub G G'/\bfs W r0=bfsN W (W.length-(at'+1)) (at'+1) F,?_,?_⟩
  ·intro τ' G' h_;apply xe3 h_;clear h_;intro v4 v5 F' h_;apply ae4 h_;clear h_;intro i1 i2 i3 iB
   exact⟨W.length-(at'+1),by omega,at'+1,v4,v5,rfl,F',i1,i2,i3,iB,rfl⟩
  ·refine⟨fun j τ G'=>∃(v4 v5:Option T) (F':List Nat),τ=[some (.tup (W.map encR)),some (.int r0),some (.ref p),some (.int at'),v4,v5]/\G' p=some (.lst (jJk F'))/\r∈F'/\Found W r0 F'/\Sub G G'/\F'=vis F (es.take j),?_,?_,?_,?_⟩
   ·exact⟨v4,v5,F,rfl,h1,hfm,h2,h3,rfl⟩
   ·intros;trivial
   ·intro j x τ G2 hx0 h_;apply xe3 h_;clear h_;intro v4 v5 F0 h_;apply ae5 h_;clear h_;intro i1 i2 i3 i4 iB
    obtain⟨⟨s,t⟩,hx,rfl⟩:=jK5 hx0
    have hen:=jK1 hW hx
    wp_walk using 1,encE,jXx,qYf i1,jKd i1,i1
    by_cases hm:s∈F0
    ·rw[lJb (by simp[hm])]
     exact⟨F0,rfl,i2,i3,i4,by rw[kYi hx,<-iB,lJc (by simpa using hm)]⟩
    ·rw[lJc (by simp[hm])]
     have hFl:=jX1 i3.nd i3.lt
     refine⟨by rw[jJk,lJf];omega,F0++[s],by simp[jJk],lQp _ i2,⟨?_,?_,?_⟩,i4.over hp,by rw[kYi hx,<-iB,lJb (by simpa using hm)]⟩
     ·rw[lVt];exact⟨i3.nd,by simp,fun a ha b hb=>by rw[lJ1] at hb;subst hb;rintro rfl;exact hm ha⟩
     ·intro x hx
      rw[lKh,lJ1] at hx
      rcases hx with hx | rfl
      ·exact i3.lt x hx
      ·exact fine.rng _ _ _ _ hen
     ·intro S h0 hc x hx
      rw[lKh,lJ1] at hx
      rcases hx with hx | rfl
      ·exact i3.got S h0 hc x hx
      ·exact hc _ _ _ _ (i3.got S h0 hc r i2) hen
   ·intro τ G' h_;apply xe3 h_;clear h_;intro v4 v5 F0 h_;apply ae5 h_;clear h_;intro i1 i2 i3 i4 iB
    wp_walk using 1,tSeq
    refine⟨by simp,F0,i1,i3,i4,?_⟩
    rw[lJf,lQs] at iB
    rw[hB,show W.length-at'=W.length-(at'+1)+1 by omega,qVj hF,jYp hW,<-iB]
 ·rename_i hc
  exact kk p G1 F hp h1 h2 (by rw[hB,qVk (by rw[jJk,lJf] at hc;omega)]) h3
structure Turn (m:Nat) (σ:List Nat):Prop where
 len:σ.length=m
 nd:σ.Nodup
 lt:∀x,x∈σ->x<m
def Invol (σ:List Nat):Prop:=∀(k x:Nat),σ[k]? =some x->σ[x]? =some k
theorem Turn.at {m:Nat} {σ:List Nat} (h:Turn m σ) {k:Nat} (hk:k<m):∃x,σ[k]? =some x/\x<m:=by
 have hk':k<σ.length:=by rw[h.len];exact hk
 exact⟨σ[k],lJg hk',h.lt _ (lXg hk')⟩
theorem Turn.onto {m:Nat} {σ:List Nat} (h:Turn m σ) {x:Nat} (hx:x<m):∃k,k<m/\σ[k]? =some x:=by
 obtain⟨k,hk⟩:=lKc (jZ9 h.nd h.lt h.len x hx)
 exact⟨k,by rw[<-h.len];exact (lJe.mp hk).1,hk⟩
theorem Turn.inj {m:Nat} {σ:List Nat} (h:Turn m σ) {k k' x:Nat} (h1:σ[k]? =some x) (h2:σ[k']? =some x):k=k':=
 (lQ8 (lJe.mp h1).1 h.nd).mp (h1.trans h2.symm)
theorem Invol.turn {m:Nat} {σ:List Nat} (hl:σ.length=m) (h:Invol σ):Turn m σ where
 len:=hl
 nd:=by
  unfold List.Nodup
  refine lX2.mpr ?_
  intro i j hi hj hij e
  have h1:=h j _ (lJg hj)
  have h2:=h i _ (lJg hi)
  rw[e,h1] at h2;cases h2;omega
 lt:=fun x hx=>by
  obtain⟨k,hk⟩:=lKc hx
  rw[<-hl];exact (lJe.mp (h k x hk)).1
theorem Invol.swap {σ:List Nat} {a b:Nat} (h:Invol σ) (ha:σ[a]? =some a) (hb:σ[b]? =some b) (hab:a≠b):Invol ((σ.set a b).set b a):=by
 have hal:=(lJe.mp ha).1
 have hbl:=(lJe.mp hb).1
 have gt:∀k,((σ.set a b).set b a)[k]? =if k=b then some a else if k=a then some b else σ[k]? :=by
  intro k
  by_cases h1:k=b
  ·subst h1;rw[lJc rfl,lKw (by simpa using hbl)]
  ·rw[lJb h1,lKl (fun z=>h1 z.symm)]
   by_cases h2:k=a
   ·subst h2;rw[lJc rfl,lKw hal]
   ·rw[lJb h2,lKl (fun z=>h2 z.symm)]
 intro k x hk
 rw[gt] at hk ⊢
 by_cases h1:k=b
 ·subst h1;rw[lJc rfl] at hk;cases hk
  rw[lJb hab,lJc rfl]
 ·rw[lJb h1] at hk
  by_cases h2:k=a
  ·subst h2;rw[lJc rfl] at hk;cases hk
   rw[lJc rfl]
  ·rw[lJb h2] at hk
   have hx:=h k x hk
   have h3:x≠b:=by rintro rfl;rw[hb] at hx;cases hx;exact h1 rfl
   have h4:x≠a:=by rintro rfl;rw[ha] at hx;cases hx;exact h2 rfl
   rw[lJb h3,lJb h4];exact hx
noncomputable def jXo:Sp3:=fun xs G Q=>∃(b:Addr) (m n:Nat) (own:Bool),xs=[.ref b,.int m,.bl own]/\BoxAt G b n/\n+m<2^40/\1<=m/\m<=1000/\∀ σ G',Turn m σ->(own=true->Invol σ)->BoxAt G' b (n+m)->Keep b G G'->Q (.tup (jJk σ)) G'
def qZb:List Str:=["_law_box_here","_law_many","_law_own","_law_order","_law_k","_law_backs"]
noncomputable def jZx:TS3:=
 (tSeq (tAsg (tLst tNil) (jJi 3))
 (tSeq (tFor (jJ6 (jJc (tVar 1) tNil)) (jJi 4) (jK2 (tBM "list" jZ2 (tVar 3) (jJc (jJr jJp (jJc (tVar 0) (jJc (tOp jKh (tVar 4) (tC (.int 1))) tNil))) (jJc (tVar 4) tNil)))))
 (tSeq (tIfS (tNot (tTru rTru (tVar 2))) (tRet (tCB jJ7 (jJc (tVar 3) tNil))) jKr)
 (tSeq (tAsg (jQ2 (jJc (tVar 1) tNil)) (jJi 5))
 (tSeq (tFor (qYi (jJc (tC (.int 0)) (jJc (tOp rSub (tVar 1) (tC (.int 1))) (jJc (tC (.int 2)) tNil)))) (jJi 4) (tSeq (tAsg (tOp rIxF (tVar 3) (tOp jKh (tVar 4) (tC (.int 1)))) (gSub (tVar 5) (tOp rIxF (tVar 3) (tVar 4)) jVs))
 (tAsg (tOp rIxF (tVar 3) (tVar 4)) (gSub (tVar 5) (tOp rIxF (tVar 3) (tOp jKh (tVar 4) (tC (.int 1)))) jVs))))
 (tRet (tCB jJ7 (jJc (tVar 5) tNil))))))))
theorem kXa:RdOk jXo jZx qZb:=by
 intro xs G Q h_;apply xe4 h_;clear h_;intro b m n own h_;apply ae5 h_;clear h_;intro hb hn hm1 hm2 kk
 show jZx _ [some (.ref b),some (.int m),some (.bl own),none,none,none] G
 have hs:=sz
 obtain⟨bo,hbo⟩:=hb.some
 wp_walk using 1,jZx,jJw,jJ6,qYi,jQ2
 refine⟨lJs _,fun o ho=>⟨by omega,by omega,?_⟩⟩
 have hob:=jJf hbo ho
 rw[show ((m:Int)).toNat=m by omega]
 refine⟨fun k τ G'=>∃(v4:Option T) (σ:List Nat),τ=[some (.ref b),some (.int m),some (.bl own),some (.ref o),v4,none]/\G' o=some (.lst (jJk σ))/\Turn k σ/\BoxAt G' b (n+k)/\Keep b G G',?_,?_,?_,?_⟩
 ·exact⟨none,[],rfl,jJg,⟨rfl,lVq,fun x hx=>by cases hx⟩,hb.gup hob,.new ho⟩
 ·intros;trivial
 ·intro k x τ G1 hx h_;apply xe2 h_;clear h_;intro v4 σ h_;apply ae4 h_;clear h_;intro h1 h2 h3 h4
  obtain⟨hk,rfl⟩:=jXv hx
  wp_walk using 1,jKd h1
  refine⟨b,_,n+k,rfl,h3,by omega,by omega,by omega,fun c G2 c0 c1 bx kp=> ?_⟩
  have h1':=kp _ _ hob.symm h1
  refine⟨jJk σ,c,rfl,h1',c0,by rw[jJk,lJf,h2.len];omega,by rw[jJk,lJf,h2.len];omega,σ.take c.toNat++k::σ.drop c.toNat,?_,⟨?_,?_,?_⟩,bx.gup hob,(h4.trans kp).over ho⟩
  ·simp[insT,jJk,lVz,List.map_drop]
  ·rw[ins_perm.length_eq,lKf,h2.len];rfl
  ·rw[ins_perm.nodup_iff,lVt]
   exact⟨h2.nd,by simp,fun a ha e he=>by rw[lJ1] at he;subst he;have:=h2.lt a ha;omega⟩
  ·intro x hx
   rw[ins_perm.mem_iff,lKh,lJ1] at hx
   rcases hx with hx | rfl
   ·have:=h2.lt x hx;omega
   ·omega
 ·intro τ G1 h_;apply xe2 h_;clear h_;intro v4 σ h_;apply ae4 h_;clear h_;intro h1 h2 h3 h4
  rw[jKu] at h2 h3
  wp_walk using 1,jJn h1
  cases own with
  | false=>exact kk σ G1 h2 (fun z=>by cases z) h3 h4
  | true=>
   wp_walk using 1,jJw,qYi,jQ2
   refine⟨by omega,by omega,fun t ht=> ?_⟩
   have hto:=jJf h1 ht
   have htb:b≠t:=by obtain⟨u,hu⟩:=h3.some;exact jJf hu ht
   have ht0:=h4.none htb.symm ht
   have hsm:Builtin.Range.small 0 ((m:Int)-1) 2=true:=by
    unfold Builtin.Range.small Builtin.Range.rangeSize
    simp only[Builtin.Range.rangeFitsLong,lKn,Bool.or_eq_true,lVa,beq_iff_eq,show (2:Int)>0 by decide,lJ2]
    split<;>omega
   refine⟨by decide,by decide,hsm,?_⟩
   have hN:(Builtin.Range.rangeSize 0 ((m:Int)-1) 2).toNat=m / 2:=by
    unfold Builtin.Range.rangeSize;rw[lJc (by decide)]
    split<;>omega
   rw[hN,show ((m:Int)).toNat=m by omega,jQz]
   refine⟨fun k τ G'=>∃(v4:Option T) (ρ:List Nat),τ=[some (.ref b),some (.int m),some (.bl true),some (.ref o),v4,some (.ref t)]/\G' t=some (.lst (jJk ρ))/\G' o=some (.lst (jJk σ))/\Invol ρ/\ρ.length=m/\(∀i x,2*k<=i->σ[i]? =some x->ρ[x]? =some x)/\BoxAt G' b (n+m)/\Keep b G G',?_,?_,?_,?_⟩
   ·refine⟨_,List.range m,rfl,jJg,by rw[jJm hto];exact h1,?_,by simp,?_,h3.gup htb,h4.over ht0⟩
    ·intro k x hk
     obtain⟨q1,q2⟩:=lJe.mp hk
     simp at q1 q2;subst q2;exact hk
    ·intro i x _ hx
     have:=h2.lt x (lJi hx)
     simp[this]
   ·intros;trivial
   ·intro k x τ G2 hx h_;apply xe2 h_;clear h_;intro v4 ρ h_;apply ae7 h_;clear h_;intro i1 i2 i3 i4 i5 i6 i7
    obtain⟨hk,rfl⟩:k<m / 2/\x= .int ((2*k:Nat):Int):=by
     obtain⟨q1,q2⟩:=lJe.mp hx
     simp[rngS] at q1 q2;refine⟨q1,?_⟩;rw[<-q2];congr 1;omega
    obtain⟨a,ha,_⟩:=h2.at (show 2*k<m by omega)
    obtain⟨c,hc,_⟩:=h2.at (show 2*k+1<m by omega)
    have hca:L2.atI (jJk σ) ((2*k:Nat):Int)=some (.int (a:Nat)):=by rw[atN];simp[jJk,ha]
    have hcc:L2.atI (jJk σ) (((2*k:Nat):Int)+1)=some (.int (c:Nat)):=by rw[show ((2*k:Nat):Int)+1=((2*k+1:Nat):Int) by omega,atN];simp[jJk,hc]
    have hac:a≠c:=by rintro rfl;have:=h2.inj ha hc;omega
    have fa:=i5 (2*k) a (lJh _) ha
    have fc:=i5 (2*k+1) c (by omega) hc
    have hal:a<ρ.length:=(lJe.mp fa).1
    have hcl:c<ρ.length:=(lJe.mp fc).1
    have ixa:L2.ixN (jJk ρ).length (a:Int)=some a:=kQw (by rw[jJk,lJf];exact hal)
    have ixc:L2.ixN ((jJk ρ).set a (.int (c:Nat))).length (c:Int)=some c:=kQw (by rw[lQq,jJk,lJf];exact hcl)
    have ix2:∀ob (y:Int),ixR (gup G2 t ob) (.ref o) (.int y)=L2.atI (jJk σ) y:=fun ob y=>jKe (by rw[jJm hto];exact i2)
    wp_walk using 1,jKe i2,hca,hcc,jXt i1 ixa,ix2,ixc
    have e1:((jJk ρ).set a (.int (c:Nat))).set c (.int (a:Nat))=jJk ((ρ.set a c).set c a):=by simp[jJk,List.map_set]
    rw[e1]
    refine⟨(ρ.set a c).set c a,rfl,by rw[jJm hto];exact i2,i3.swap fa fc hac,by simp[i4],?_,i6.gup htb,i7.over ht0⟩
    intro i x hi hx
    have hxa:a≠x:=by rintro rfl;have:=h2.inj ha hx;omega
    have hxc:c≠x:=by rintro rfl;have:=h2.inj hc hx;omega
    rw[lKl hxc,lKl hxa]
    exact i5 i x (by omega) hx
   ·intro τ G2 h_;apply xe2 h_;clear h_;intro v4 ρ h_;apply ae7 h_;clear h_;intro i1 i2 i3 i4 i5 i6 i7
    wp_walk using 1,jJn i1
    exact kk ρ G2 (i3.turn i4) (fun _=>i3) i6 i7
structure TurnsOk (W:Web) (m:Nat) (Ts:List (List Nat)):Prop where
 len:Ts.length=(jK3 W).length
 ok:∀(t:Nat) (x:Tie) (σ:List Nat),(jK3 W)[t]? =some x->Ts[t]? =some σ->Turn m σ/\(x.1=x.2->Invol σ)
def Bel (W:Web) (Ts:List (List Nat)) (x i y j:Nat):Prop:=∃(t:Nat) (e f:Nat×Nat) (σ:List Nat) (k k':Nat),(jK3 W)[t]? =some (e,f)/\Ts[t]? =some σ/\σ[k]? =some k'/\
 ((x=e.1+k*W.length/\i=e.2/\y=f.1+k'*W.length/\j=f.2)\/(y=e.1+k*W.length/\j=e.2/\x=f.1+k'*W.length/\i=f.2))
theorem Bel.symm {W:Web} {Ts:List (List Nat)} {x i y j:Nat} (h:Bel W Ts x i y j):Bel W Ts y j x i:=by
 obtain⟨t,e,f,σ,k,k',h1,h2,h3,h4⟩:=h
 exact⟨t,e,f,σ,k,k',h1,h2,h3,h4.symm⟩
theorem spl {n r k r' k':Nat} (h1:r<n) (h2:r'<n) (h:r+k*n=r'+k'*n):r=r'/\k=k':=by
 have e1:(r+k*n)%n=r:=by rw[lX4,lQa h1]
 have e2:(r'+k'*n)%n=r':=by rw[lX4,lQa h2]
 have hn:0<n:=by omega
 have e3:(r+k*n) / n=k:=by rw[Nat.add_mul_div_right _ _ hn,lXe h1,Nat.zero_add]
 have e4:(r'+k'*n) / n=k':=by rw[Nat.add_mul_div_right _ _ hn,lXe h2,Nat.zero_add]
 rw[h] at e1 e3
 exact⟨e1.symm.trans e2,e3.symm.trans e4⟩
theorem kK4 {W:Web} {t:Nat} {x:Tie} (h:(jK3 W)[t]? =some x):en W x.1.1 x.1.2=some x.2/\leE x.1 x.2=true:=endsL_mem.mp (lJi h)
theorem kK3 {W:Web} {t t':Nat} {x:Tie} (h:(jK3 W)[t]? =some x) (h':(jK3 W)[t']? =some x):t=t':=(lQ8 (lJe.mp h).1 kX2).mp (h.trans h'.symm)
theorem Bel.fn {W:Web} {m:Nat} {Ts:List (List Nat)} {x i y j y' j':Nat} (hs:Sym W) (ok:TurnsOk W m Ts) (h:Bel W Ts x i y j) (h':Bel W Ts x i y' j'):y=y'/\j=j':=by
 obtain⟨t,e,f,σ,k,l,h1,h2,h3,h4⟩:=h
 obtain⟨t',e',f',σ',k',l',h1',h2',h3',h4'⟩:=h'
 obtain⟨q1,q2⟩:=kK4 h1
 obtain⟨q1',q2'⟩:=kK4 h1'
 have q1:en W e.1 e.2=some (f.1,f.2):=q1
 have q1':en W e'.1 e'.2=some (f'.1,f'.2):=q1'
 have qs:=hs _ _ _ _ q1
 have qs':=hs _ _ _ _ q1'
 have l1:=kJp q1
 have l2:=kJp qs
 have l1':=kJp q1'
 have l2':=kJp qs'
 obtain⟨e1,e2⟩:=e;obtain⟨f1,f2⟩:=f;obtain⟨e1',e2'⟩:=e';obtain⟨f1',f2'⟩:=f'
 obtain⟨T1,T2⟩:=ok.ok _ _ _ h1 h2
 simp only at *
 rcases h4 with ⟨rfl,rfl,rfl,rfl⟩ | ⟨rfl,rfl,rfl,rfl⟩<;>rcases h4' with ⟨z1,rfl,rfl,rfl⟩ | ⟨rfl,rfl,z1,rfl⟩
 ·obtain⟨rfl,rfl⟩:=spl l1 l1' z1
  rw[q1] at q1';cases q1'
  have:=kK3 h1 h1';subst this
  rw[h2] at h2';cases h2'
  rw[h3] at h3';cases h3'
  exact⟨rfl,rfl⟩
 ·obtain⟨rfl,rfl⟩:=spl l1 l2' z1
  rw[q1] at qs';cases qs'
  have a1:=leE_iff.mp q2
  have a2:=leE_iff.mp q2'
  simp only at a1 a2
  have:e1=f1/\i=j:=by omega
  obtain⟨rfl,rfl⟩:=this
  have:=kK3 h1 h1';subst this
  rw[h2] at h2';cases h2'
  have:=T2 rfl _ _ h3'
  rw[h3] at this;cases this
  exact⟨rfl,rfl⟩
 ·obtain⟨rfl,rfl⟩:=spl l2 l1' z1
  rw[qs] at q1';cases q1'
  have a1:=leE_iff.mp q2
  have a2:=leE_iff.mp q2'
  simp only at a1 a2
  have:e1=f1/\j=i:=by omega
  obtain⟨rfl,rfl⟩:=this
  have:=kK3 h1 h1';subst this
  rw[h2] at h2';cases h2'
  have:=T2 rfl _ _ h3
  rw[h3'] at this;cases this
  exact⟨rfl,rfl⟩
 ·obtain⟨rfl,rfl⟩:=spl l2 l2' z1
  rw[qs] at qs';cases qs'
  have:=kK3 h1 h1';subst this
  rw[h2] at h2';cases h2'
  have:=T1.inj h3 h3';subst this
  exact⟨rfl,rfl⟩
def cl (M:List (List T)) (x i:Nat):Option T:=(M[x]?).bind fun ts=>ts[i]?
def put (M:List (List T)) (x i:Nat) (v:T):List (List T):=match M[x]? with
 | some ts=>M.set x (ts.set i v)
 | none=>M
theorem kQ4 {M:List (List T)} {x i:Nat} {v:T} (h:cl M x i=some v):∃ts,M[x]? =some ts/\ts[i]? =some v:=by
 unfold cl at h
 cases e1:M[x]? with
 | none=>rw[e1] at h;cases h
 | some ts=>rw[e1] at h;exact⟨ts,rfl,h⟩
theorem kVl {M:List (List T)} {x i:Nat} {ts:List T} (h1:M[x]? =some ts):cl M x i=ts[i]? :=by unfold cl;rw[h1];rfl
theorem kZn {M:List (List T)} {x i:Nat} {v u:T} (h:cl M x i=some u) (x' i':Nat):cl (put M x i v) x' i'=if x'=x/\i'=i then some v else cl M x' i':=by
 obtain⟨ts,h1,h2⟩:=kQ4 h
 have hx:=(lJe.mp h1).1
 have hi:=(lJe.mp h2).1
 unfold put
 rw[h1]
 show cl (M.set x (ts.set i v)) x' i'=_
 by_cases hxx:x'=x
 ·subst hxx
  rw[kVl (lKw hx),kVl h1]
  by_cases hii:i'=i
  ·subst hii;rw[lKw hi,lJc ⟨rfl,rfl⟩]
  ·rw[lKl (fun z=>hii z.symm),lJb (fun z=>hii z.2)]
 ·rw[lJb (fun z=>hxx z.1)]
  unfold cl
  rw[lKl (fun z=>hxx z.symm)]
structure SInv (W:Web) (m:Nat) (Ts:List (List Nat)) (M:List (List T)):Prop where
 len:M.length=m*W.length
 row:∀(x:Nat) (ts:List T),M[x]? =some ts->∃es,W[x%W.length]? =some es/\ts.length=es.length
 val:∀x i v,cl M x i=some v->v= .non\/∃y j,Bel W Ts x i y j/\v=encE (y,j)
def Fl (M:List (List T)) (x i:Nat):Prop:=∃e,cl M x i=some (encE e)
theorem SInv.at {W:Web} {m:Nat} {Ts:List (List Nat)} {M:List (List T)} {r i k:Nat} {e:Nat×Nat} (h:SInv W m Ts M) (hk:k<m) (he:en W r i=some e):∃ts,M[r+k*W.length]? =some ts/\i<ts.length:=by
 obtain⟨es,h1,h2⟩:=jK0 he
 have hr:=kJp he
 have hx:r+k*W.length<M.length:=by
  rw[h.len]
  have:(k+1)*W.length<=m*W.length:=lV1 _ hk
  rw[lQy] at this;omega
 have hM:M[r+k*W.length]? =some M[r+k*W.length]:=lJg hx
 obtain⟨es',q1,q2⟩:=h.row _ _ hM
 rw[lX4,lQa hr,h1] at q1;cases q1
 exact⟨_,hM,by rw[q2];exact (lJe.mp h2).1⟩
theorem SInv.put {W:Web} {m:Nat} {Ts:List (List Nat)} {M:List (List T)} {x i y j:Nat} {ts:List T} (h:SInv W m Ts M) (hx:M[x]? =some ts) (hi:i<ts.length) (hb:Bel W Ts x i y j):
  SInv W m Ts (M.set x (ts.set i (encE (y,j))))/\Fl (M.set x (ts.set i (encE (y,j)))) x i/\∀x' i',Fl M x' i'->Fl (M.set x (ts.set i (encE (y,j)))) x' i':=by
 have hc:cl M x i=some ts[i]:=by rw[kVl hx];exact lJg hi
 have hp:M.set x (ts.set i (encE (y,j)))=_root_.W.put M x i (encE (y,j)):=by unfold _root_.W.put;rw[hx]
 have hxl:=(lJe.mp hx).1
 refine⟨⟨by rw[lQq];exact h.len,fun x' ts' h'=> ?_,fun x' i' v hv=> ?_⟩,?_,fun x' i' ⟨e,he⟩=> ?_⟩
 ·by_cases hxx:x'=x
  ·subst hxx
   rw[lKw hxl] at h';cases h'
   rw[lQq];exact h.row _ _ hx
  ·rw[lKl (fun z=>hxx z.symm)] at h';exact h.row _ _ h'
 ·rw[hp,kZn hc] at hv
  by_cases hxx:x'=x/\i'=i
  ·rw[lJc hxx] at hv;cases hv
   obtain⟨rfl,rfl⟩:=hxx
   exact .inr ⟨y,j,hb,rfl⟩
  ·rw[lJb hxx] at hv;exact h.val _ _ _ hv
 ·exact⟨(y,j),by rw[hp,kZn hc,lJc ⟨rfl,rfl⟩]⟩
 ·by_cases hxx:x'=x/\i'=i
  ·exact⟨(y,j),by rw[hp,kZn hc,lJc hxx]⟩
  ·exact⟨e,by rw[hp,kZn hc,lJb hxx];exact he⟩
structure Sheet (W:Web) (m:Nat) (V:Web):Prop where
 len:V.length=m*W.length
 row:∀(x:Nat) (ts:List (Nat×Nat)),V[x]? =some ts->∃es,W[x%W.length]? =some es/\ts.length=es.length
 sym:Sym V
def uQm (W:Web) (m:Nat) (Ts:List (List Nat)) (M:List (List T)) (d:Nat->Nat->Prop):Prop:=∀t k e f σ k',d t k->(jK3 W)[t]? =some (e,f)->Ts[t]? =some σ->σ[k]? =some k'->Fl M (e.1+k*W.length) e.2/\Fl M (f.1+k'*W.length) f.2
def dec:T->Nat×Nat
 | .tup [.int a,.int b]=>(a.toNat,b.toNat)
 | _=>(0,0)
theorem kJu {e:Nat×Nat}:dec (encE e)=e:=by obtain⟨a,b⟩:=e;simp[encE,dec]
theorem qV2 {W:Web} {m:Nat} {Ts:List (List Nat)} {M:List (List T)} (hs:Sym W) (ok:TurnsOk W m Ts) (h:SInv W m Ts M) (hd:uQm W m Ts M fun t k=>t<(jK3 W).length/\k<m):Sheet W m (M.map (List.map dec))/\M=(M.map (List.map dec)).map (List.map encE):=by
 have full:∀x i v,cl M x i=some v->Fl M x i:=by
  intro x i v hv
  obtain⟨ts,h1,h2⟩:=kQ4 hv
  obtain⟨es,q1,q2⟩:=h.row _ _ h1
  have hx:x<m*W.length:=by rw[<-h.len];exact (lJe.mp h1).1
  have hi:i<es.length:=by rw[<-q2];exact (lJe.mp h2).1
  have hW:0<W.length:=by rcases Nat.eq_zero_or_pos W.length with z | z;rw[z] at hx;omega;exact z
  have hk:x / W.length<m:=Nat.div_lt_of_lt_mul (by rw[lQz];exact hx)
  have hxe:x%W.length+x / W.length*W.length=x:=by rw[lQz];exact Nat.mod_add_div x W.length
  have he:=jK1 q1 (lJg hi)
  generalize es[i]=e at he
  obtain⟨s,j⟩:=e
  by_cases hle:leE (x%W.length,i) (s,j)=true
  ·obtain⟨t,ht⟩:=lKc (endsL_mem (x:=((x%W.length,i),(s,j))).mpr ⟨he,hle⟩)
   have htl:=(lJe.mp ht).1
   have htT:t<Ts.length:=by rw[ok.len];exact htl
   have hσ:Ts[t]? =some Ts[t]:=lJg htT
   obtain⟨k',hk',_⟩:=(ok.ok _ _ _ ht hσ).1.at hk
   have:=(hd t _ _ _ _ _ ⟨htl,hk⟩ ht hσ hk').1
   simp only at this
   rw[hxe] at this;exact this
  ·have hle2:leE (s,j) (x%W.length,i)=true:=by
    rw[leE_iff] at hle ⊢; simp only at hle ⊢; omega
   obtain⟨t,ht⟩:=lKc (endsL_mem (x:=((s,j),(x%W.length,i))).mpr ⟨hs _ _ _ _ he,hle2⟩)
   have htl:=(lJe.mp ht).1
   have htT:t<Ts.length:=by rw[ok.len];exact htl
   have hσ:Ts[t]? =some Ts[t]:=lJg htT
   obtain⟨k0,hk0,hk1⟩:=(ok.ok _ _ _ ht hσ).1.onto hk
   have:=(hd t _ _ _ _ _ ⟨htl,hk0⟩ ht hσ hk1).2
   simp only at this
   rw[hxe] at this;exact this
 have enM:∀x i e,en (M.map (List.map dec)) x i=some e->cl M x i=some (encE e)/\Bel W Ts x i e.1 e.2:=by
  intro x i e he
  obtain⟨es,h1,h2⟩:=jK0 he
  rw[lJn] at h1
  cases e1:M[x]? with
  | none=>rw[e1] at h1;cases h1
  | some ts=>
   rw[e1] at h1;cases h1
   rw[lJn] at h2
   cases e2:ts[i]? with
   | none=>rw[e2] at h2;cases h2
   | some v=>
    rw[e2] at h2;cases h2
    have hc:cl M x i=some v:=by rw[kVl e1];exact e2
    obtain⟨e',he'⟩:=full x i v hc
    rw[hc] at he';cases he'
    rw[kJu]
    refine⟨hc,?_⟩
    rcases h.val _ _ _ hc with z | ⟨y,j,hb,z⟩
    ·cases z
    ·have:e'=(y,j):=by rw[<-kJu (e:=e'),z,kJu]
     rw[this];exact hb
 have toM:∀x i e,cl M x i=some (encE e)->en (M.map (List.map dec)) x i=some e:=by
  intro x i e he
  obtain⟨ts,h1,h2⟩:=kQ4 he
  exact jK1 (es:=ts.map dec) (by simp[h1]) (by simp[h2,kJu])
 refine⟨⟨by rw[lJf];exact h.len,fun x ts hx=> ?_,fun x i y j he=> ?_⟩,?_⟩
 ·rw[lJn] at hx
  cases e1:M[x]? with
  | none=>rw[e1] at hx;cases hx
  | some us=>
   rw[e1] at hx;cases hx
   rw[lJf];exact h.row _ _ e1
 ·obtain⟨h1,h2⟩:=enM x i (y,j) he
  have h3:Bel W Ts y j x i:=h2.symm
  have hin:∃v,cl M y j=some v:=by
   obtain⟨t,e,f,σ,k,k',q1,q2,q3,q4⟩:=h3
   obtain⟨z1,z2⟩:=kK4 q1
   have z1:en W e.1 e.2=some (f.1,f.2):=z1
   have T1:=(ok.ok _ _ _ q1 q2).1
   have hk:k<m:=by rw[<-T1.len];exact (lJe.mp q3).1
   have hk':k'<m:=T1.lt _ (lJi q3)
   rcases q4 with ⟨a1,a2,_,_⟩ | ⟨_,_,a1,a2⟩
   ·obtain⟨ts,b1,b2⟩:=h.at hk z1
    exact⟨ts[e.2],by rw[a1,a2,kVl b1];exact lJg b2⟩
   ·obtain⟨ts,b1,b2⟩:=h.at hk' (hs _ _ _ _ z1)
    exact⟨ts[f.2],by rw[a1,a2,kVl b1];exact lJg b2⟩
  obtain⟨v,hv⟩:=hin
  obtain⟨e',he'⟩:=full y j v hv
  have h4:=toM y j e' he'
  obtain⟨_,h5⟩:=enM y j e' h4
  obtain⟨a1,a2⟩:=Bel.fn hs ok h3 h5
  rw[h4,<-show (e'.1,e'.2)=e' from rfl,<-a1,<-a2]
 ·rw[lJ6]
  conv=>lhs;rw[<-List.map_id M]
  apply lXt
  intro ts hts
  show ts=(ts.map dec).map encE
  rw[lJ6]
  conv=>lhs;rw[<-List.map_id ts]
  apply lXt
  intro v hv
  obtain⟨x,hx⟩:=lKc hts
  obtain⟨i,hi⟩:=lKc hv
  obtain⟨e,he⟩:=full x i v (by rw[kVl hx];exact hi)
  rw[kVl hx,hi] at he;cases he
  show encE e=encE (dec (encE e))
  rw[kJu]
def RowsT (G:Gp) (h:Addr) (M:List (List T)) (rs:List Addr):Prop:=G h=some (.lst (rs.map T.ref))/\rs.length=M.length/\∀(i:Nat) (r:Addr),rs[i]? =some r->∃ts:List T,M[i]? =some ts/\G r=some (.lst ts)
theorem RowsT.set {G:Gp} {h:Addr} {M:List (List T)} {rs:List Addr} {r:Nat} {a:Addr} {ts:List T} (x:RowsT G h M rs) (hn:(h::rs).Nodup) (hr:rs[r]? =some a):RowsT (gup G a (.lst ts)) h (M.set r ts) rs:=by
 rw[lKz] at hn
 have hrl:r<rs.length:=(lJe.mp hr).1
 refine⟨by rw[jJm];exact x.1;rintro rfl;exact hn.1 (lJi hr),by rw[lQq];exact x.2.1,fun i c e=> ?_⟩
 by_cases hi:i=r
 ·subst hi
  rw[hr] at e;cases e
  exact⟨ts,by rw[lKw];rw[<-x.2.1];exact hrl,jJg⟩
 ·obtain⟨us,h1,h2⟩:=x.2.2 i c e
  refine⟨us,by rw[lKl (Ne.symm hi)];exact h1,?_⟩
  rw[jJm];exact h2
  rintro rfl
  have hil:i<rs.length:=(lJe.mp e).1
  exact hi ((lQ8 hil hn.2).mp (e.trans hr.symm))
theorem RowsT.get {G:Gp} {h:Addr} {M:List (List T)} {rs:List Addr} {x:Nat} {ts:List T} (R:RowsT G h M rs) (hx:M[x]? =some ts):∃a,rs[x]? =some a/\L2.atI (rs.map T.ref) (x:Int)=some (.ref a)/\G a=some (.lst ts):=by
 have hxl:x<rs.length:=by rw[R.2.1];exact (lJe.mp hx).1
 have hr:rs[x]? =some rs[x]:=lJg hxl
 obtain⟨us,h1,h2⟩:=R.2.2 x _ hr
 rw[hx] at h1;cases h1
 exact⟨_,hr,by rw[atN,lJn,hr];rfl,h2⟩
theorem uJm {n:Nat}:(List.replicate n [T.non]).flatten=List.replicate n T.non:=by
 induction n with
 | zero=>rfl
 | succ n ih=>rw[lK6,lQw,ih];rfl
def rowN (W:Web) (x:Nat):List T:=List.replicate ((W[x%W.length]?).getD []).length .non
theorem kZ4 {W:Web} {m:Nat} {Ts:List (List Nat)}:SInv W m Ts ((List.range (m*W.length)).map (rowN W)) where
 len:=by simp
 row:=fun x ts h=>by
  rw[lJn] at h
  cases e:(List.range (m*W.length))[x]? with
  | none=>rw[e] at h;cases h
  | some y=>
   rw[e] at h;cases h
   obtain⟨q1,q2⟩:=lJe.mp e
   simp at q1 q2;subst q2
   have hW:0<W.length:=by rcases Nat.eq_zero_or_pos W.length with z | z;rw[z] at q1;omega;exact z
   have hx:x%W.length<W.length:=lK7 _ hW
   exact⟨W[x%W.length],lJg hx,by simp[rowN,hx]⟩
 val:=fun x i v h=>by
  obtain⟨ts,h1,h2⟩:=kQ4 h
  rw[lJn] at h1
  cases e:(List.range (m*W.length))[x]? with
  | none=>rw[e] at h1;cases h1
  | some y=>
   rw[e] at h1;cases h1
   have:=lJi h2
   unfold rowN at this
   exact .inl (List.mem_replicate.mp this).2
noncomputable def jVh:Sp3:=fun xs G Q=>∃(W:Web) (tr:Addr) (m:Nat) (Ts:List (List Nat)),xs=[encW W,.ref tr,.int m]/\Fine W/\Sym W/\1<=W.length/\1<=m/\m*W.length<=1000/\TurnsOk W m Ts/\G tr=some (.lst (Ts.map fun σ=>T.tup (jJk σ)))/\∀V G',Sheet W m V->Sub G G'->Q (encW V) G'
def kYc:List Str:=["_law_web_here","_law_turns","_law_many","_law_made","_law_t","_law_one","_law_other","_law_k","_law_spot","_law_there","_law_n","_law_room"]
noncomputable def jVm:TS3:=
 (tSeq (tAsg (jQu [false,false,false,false,false,false,false,false,false,false,true,false] (jJ6 (jJc (tOp jVd (tVar 2) (tCB rLen (jJc (tVar 0) tNil))) tNil)) (jJi 10) jV0 (tOp jVd (tLst (jJc (tC .non) tNil)) (tCB rLen (jJc (tOp rIxF (tVar 0) (tOp rMod (tVar 10) (tCB rLen (jJc (tVar 0) tNil)))) tNil)))) (jJi 3))
 (tSeq (tFor (kQx (jJc (jJr jXr (jJc (tVar 0) tNil)) tNil)) (gTup 2 (jKl (jJi 4) (jKl (gTup 2 (jKl (jJi 5) (jKl (jJi 6) gNil))) gNil))) (tFor (jJ6 (jJc (tVar 2) tNil)) (jJi 7) (tSeq (tAsg (tOp jKh (tOp rIxF (tVar 5) (tC (.int 0))) (tOp jVd (tVar 7) (tCB rLen (jJc (tVar 0) tNil)))) (jJi 8))
 (tSeq (tAsg (tOp jKh (tOp rIxF (tVar 6) (tC (.int 0))) (tOp jVd (tOp rIxF (tOp rIxF (tVar 1) (tVar 4)) (tVar 7)) (tCB rLen (jJc (tVar 0) tNil)))) (jJi 9))
 (tSeq (tAsg (tTup (jJc (tVar 9) (jJc (tOp rIxF (tVar 6) (tC (.int 1))) tNil))) (gSub (tOp rIxF (tVar 3) (tVar 8)) (tOp rIxF (tVar 5) (tC (.int 1))) jVs))
 (tAsg (tTup (jJc (tVar 8) (jJc (tOp rIxF (tVar 5) (tC (.int 1))) tNil))) (gSub (tOp rIxF (tVar 3) (tVar 9)) (tOp rIxF (tVar 6) (tC (.int 1))) jVs)))))))
 (tRet (tCB jJ7 (jJc (jQu [false,false,false,false,false,false,false,false,false,false,false,true] (iSeq (tVar 3)) (jJi 11) jV0 (tCB jJ7 (jJc (tVar 11) tNil))) tNil)))))
theorem kJ4:RdOk jVh jVm kYc:=by
 intro xs G Q h_;apply xe4 h_;clear h_;intro W tr m Ts h_;apply ae8 h_;clear h_;intro fine sym hW1 hm1 hmn ok htr kk
 show jVm _ [some (.tup (W.map encR)),some (.ref tr),some (.int m),none,none,none,none,none,none,none,none,none] G
 have hs:=sz
 have hl:=fine.len
 have hm2:m<=1000:=lJ8 (Nat.le_mul_of_pos_right m hW1) hmn
 wp_walk using 1,jVm,jJw,jJ6,kQx,iSeq,List.length_map
 have hcast:(m:Int)*(W.length:Int)=((m*W.length:Nat):Int):=by simp
 rw[hcast]
 refine⟨.inr ⟨by omega,by omega⟩,by omega,by omega,?_⟩
 rw[show ((m*W.length:Nat):Int).toNat=m*W.length by omega,jQz]
 refine kKv (rowN W) (by simp;omega) (fun _ _=>trivial) ?_ ?_
 ·intro x x' hx G' K K0 s hk
  obtain⟨q1,q2⟩:=lJe.mp hx
  simp at q1 q2;subst q2
  have hmod:x%W.length<W.length:=lK7 _ hW1
  have hWx:W[x%W.length]? =some W[x%W.length]:=lJg hmod
  have hrow:rowN W x=List.replicate (W[x%W.length]).length .non:=by simp[rowN,hWx]
  rw[hrow] at hk
  generalize W[x%W.length]=es at hWx hk
  have hes:=fine.row _ _ hWx
  wp_walk using 1,List.length_map,show (x:Int)%(W.length:Int)=((x%W.length:Nat):Int) by simp,jKz hWx,encR
  refine⟨by omega,fun p hp=>⟨by omega,.newL (List.replicate es.length .non),?_,?_⟩⟩
  ·rw[<-uJm]
   simp only[mulR,jJg];rw[lJc];congr;refine⟨?_,?_,?_⟩<;>simp<;>omega
  ·rw[kQ1]
   intro q hq
   have hq0:=(jKn hq).2
   exact hk q _ hq0 jJg ((Sub.new hp).over hq0)
 ·intro D rs G1 hD hD1 s1 hrl hnd hrs
  rw[lK8] at hrl
  have hfr:∀r,r∈rs->G r=none:=by
   intro r z
   obtain⟨j,hj⟩:=lKc z
   have hjl:j<rs.length:=(lJe.mp hj).1
   exact (hrs j r j hj (by rw[lQ5 (by omega)])).1
  refine⟨W,rfl,fine,fun pe G2 hpe hG2 hlen s2=> ?_⟩
  have hpn:∀r,r∈rs->pe≠r:=by
   rintro r z rfl
   obtain⟨j,hj⟩:=lKc z
   have hjl:j<rs.length:=(lJe.mp hj).1
   have:=(hrs j pe j hj (by rw[lQ5 (by omega)])).2
   rw[this] at hpe;cases hpe
  refine⟨(jK3 W).map encT,by simp only[jQ8,hG2,asL],?_⟩
  let J1:Nat->St3->Gp->Prop:=fun t τ G'=>∃(v4 v5 v6 v7 v8 v9:Option T) (M:List (List T)),τ=[some (.tup (W.map encR)),some (.ref tr),some (.int m),some (.ref D),v4,v5,v6,v7,v8,v9,none,none]/\RowsT G' D M rs/\SInv W m Ts M/\uQm W m Ts M (fun t' k=>t'<t/\k<m)/\Sub G G'/\G' pe=some (.lst ((jK3 W).map encT))
  refine⟨J1,?_,?_,?_,?_⟩
  ·refine xi7 none none none none none none ((List.range (m*W.length)).map (rowN W)) rfl ⟨⟨s2 _ _ hD1,by simp[hrl],fun i r hi=> ?_⟩,kZ4,fun t k e f σ k' h=>absurd h.1 (lKx _),s1.trans s2,hG2⟩
   have hil:i<m*W.length:=by rw[<-hrl];exact (lJe.mp hi).1
   exact⟨rowN W i,by simp[hil],s2 _ _ (hrs i r i hi (by simp[hil])).2⟩
  ·intro t τ G' ht h_;apply xe7 h_;clear h_;intro v4 v5 v6 v7 v8 v9 M h_;apply ae5 h_;clear h_;intro i1 i2 i3 i4 i5
   simp only[jQ8,i5,asL]
  ·intro t x τ G3 hx h_;apply xe7 h_;clear h_;intro v4 v5 v6 v7 v8 v9 M h_;apply ae5 h_;clear h_;intro i1 i2 i3 i4 i5
   have ht:t<(jK3 W).length:=by have:=(lJe.mp hx).1;simpa[jZd] using this
   have hte:(jK3 W)[t]? =some (jK3 W)[t]:=lJg ht
   rw[jU5 (x:=encT (jK3 W)[t]) (by simp[ht])] at hx
   cases hx
   generalize (jK3 W)[t]=x at hte
   obtain⟨e,f⟩:=x
   have htT:t<Ts.length:=by rw[ok.len];exact ht
   have hσ:Ts[t]? =some Ts[t]:=lJg htT
   generalize Ts[t]=σ at hσ
   obtain⟨T1,T2⟩:=ok.ok _ _ _ hte hσ
   have hef:en W e.1 e.2=some (f.1,f.2):=(kK4 hte).1
   have hfe:=sym _ _ _ _ hef
   wp_walk using 1,jJw,jJ6,encT
   refine⟨by omega,by omega,?_⟩
   rw[show ((m:Int)).toNat=m by omega]
   let J2:Nat->St3->Gp->Prop:=fun k τ G'=>∃(v7 v8 v9:Option T) (M:List (List T)),τ=[some (.tup (W.map encR)),some (.ref tr),some (.int m),some (.ref D),some (.int t),some (encE e),some (encE f),v7,v8,v9,none,none]/\RowsT G' D M rs/\SInv W m Ts M/\uQm W m Ts M (fun t' k'=>(t'<t/\k'<m)\/(t'=t/\k'<k))/\Sub G G'/\G' pe=some (.lst ((jK3 W).map encT))
   refine⟨J2,?_,?_,?_,?_⟩
   ·refine xi4 v7 v8 v9 M rfl ⟨i1,i2,fun t' k e f σ k' h=> ?_,i4,i5⟩
    rcases h with h | h
    ·exact i3 t' k e f σ k' h
    ·exact absurd h.2 (lKx _)
   ·intros;trivial
   ·intro k x τ G4 hx h_;apply xe4 h_;clear h_;intro v7 v8 v9 M h_;apply ae5 h_;clear h_;intro i1 i2 i3 i4 i5
    obtain⟨hk,rfl⟩:=jXv hx
    obtain⟨k',hk',hkm⟩:=T1.at hk
    have hb1:Bel W Ts (e.1+k*W.length) e.2 (f.1+k'*W.length) f.2:=⟨t,e,f,σ,k,k',hte,hσ,hk',.inl ⟨rfl,rfl,rfl,rfl⟩⟩
    obtain⟨ts,m1,m2⟩:=i2.at hk hef
    obtain⟨a,a1,a2,a3⟩:=i1.get m1
    have ham:=lJi a1
    obtain⟨p1,p2,p3⟩:=i2.put m1 m2 hb1
    have q1:=i1.set (ts:=ts.set e.2 (encE (f.1+k'*W.length,f.2))) hnd a1
    obtain⟨us,m3,m4⟩:=p1.at hkm hfe
    obtain⟨c,c1,c2,c3⟩:=q1.get m3
    have hcm:=lJi c1
    obtain⟨p4,p5,p6⟩:=p1.put m3 m4 hb1.symm
    have q2:=q1.set (ts:=us.set f.2 (encE (e.1+k*W.length,e.2))) hnd c1
    have g2:L2.atI (Ts.map fun σ=>T.tup (jJk σ)) (t:Int)=some (.tup (jJk σ)):=by rw[atN];simp[hσ]
    have g3:L2.atI (jJk σ) (k:Int)=some (.int (k':Nat)):=by rw[atN];simp[jJk,hk']
    have b1:e.1+k*W.length<m*W.length:=by rw[<-i2.len];exact (lJe.mp m1).1
    have b2:f.1+k'*W.length<m*W.length:=by rw[<-p1.len];exact (lJe.mp m3).1
    have s8:(e.1:Int)+(k:Int)*(W.length:Int)=((e.1+k*W.length:Nat):Int):=by simp
    have s9:(f.1:Int)+(k':Int)*(W.length:Int)=((f.1+k'*W.length:Nat):Int):=by simp
    wp_walk using 1,encE,List.length_map,jKe (i4 _ _ htr),g2,g3,s8,s9,jKe i1.1,a2,jXt a3 (kQw m2)
    refine⟨.inr ⟨by omega,by omega⟩,.inr ⟨by omega,by omega⟩,by omega,by omega,.ref c,(jKe q1.1).trans c2,_,jXt c3 (kQw m4),xi4 _ _ _ _ rfl ⟨q2,p4,?_,(i4.over (hfr a ham)).over (hfr c hcm),?_⟩⟩
    ·intro t' k0 e' f' σ' k1 h g4 g5 g6
     by_cases hh:t'=t/\k0=k
     ·obtain⟨rfl,rfl⟩:=hh
      rw[hte] at g4;cases g4
      rw[hσ] at g5;cases g5
      rw[hk'] at g6;cases g6
      exact⟨p6 _ _ p2,p5⟩
     ·obtain⟨z1,z2⟩:=i3 t' k0 e' f' σ' k1 (by omega) g4 g5 g6
      exact⟨p6 _ _ (p3 _ _ z1),p6 _ _ (p3 _ _ z2)⟩
    ·rw[jJm (hpn c hcm),jJm (hpn a ham)];exact i5
   ·intro τ G' h_;apply xe4 h_;clear h_;intro v7 v8 v9 M h_;apply ae5 h_;clear h_;intro i1 i2 i3 i4 i5
    rw[jKu] at i3
    refine xi7 _ _ _ _ _ _ M rfl ⟨i1,i2,fun t' k e f σ k' h=>i3 t' k e f σ k' ?_,i4,i5⟩
    by_cases hh:t'=t
    ·exact .inr ⟨hh,h.2⟩
    ·exact .inl ⟨by omega,h.2⟩
  ·intro τ G3 h_;apply xe7 h_;clear h_;intro v4 v5 v6 v7 v8 v9 M h_;apply ae5 h_;clear h_;intro i1 i2 i3 i4 i5
   rw[jZd,lJf] at i3
   obtain⟨sh,eM⟩:=qV2 sym ok i2 i3
   wp_walk using 1,iSeq,jJn i1.1
   refine jQb (es:=rs) (fun r=>T.tup (match G3 r with | some (.lst ts)=>ts | _=>[])) (by omega) (fun G' s=>jJn (s _ _ i1.1)) ?_ ?_
   ·intro i r hr G4 K K0 s hk
    obtain⟨ts,z1,z2⟩:=i1.2.2 i r hr
    wp_walk using 1,jJn (s _ _ z2)
    have:=hk G4 (.refl _)
    rw[z2] at this
    exact this
   ·intro E G4 hE h4 s4
    refine⟨_,jJn h4,?_⟩
    have e1:rs.map (fun r=>T.tup (match G3 r with | some (.lst ts)=>ts | _=>[]))=(M.map (List.map dec)).map encR:=by
     have e2:(M.map (List.map dec)).map encR=M.map T.tup:=by
      conv=>rhs;rw[eM]
      rw[lJ6,lJ6,lJ6];rfl
     rw[e2]
     apply lK1
     intro i
     by_cases hi:i<rs.length
     ·have hri:rs[i]? =some rs[i]:=lJg hi
      obtain⟨ts,z1,z2⟩:=i1.2.2 i _ hri
      rw[lJn,lJn,hri,z1]
      simp only[lQ1,z2]
     ·rw[lJ4 (by rw[lJf];omega),lJ4 (by rw[lJf,<-i1.2.1];omega)]
    rw[e1]
    exact kk _ G4 sh (i4.trans s4)
def Cov (W:Web) (m:Nat) (V:Web):Prop:=V=W\/(Sheet W m V/\Conn V)
theorem Sheet.fine {W V:Web} {m:Nat} (h:Sheet W m V) (f:Fine W) (hm:m*W.length<=1000):Fine V where
 len:=by rw[h.len];exact hm
 row:=fun x ts hx=>by obtain⟨es,h1,h2⟩:=h.row x ts hx;rw[h2];exact f.row _ _ h1
 rng:=fun r i s j he=>kJp (h.sym _ _ _ _ he)
theorem Found.conn {V:Web} {F:List Nat} (h:Found V 0 F) (hl:F.length=V.length):Conn V:=fun S h0 hst r hr=>h.got S h0 hst r (jZ9 h.nd h.lt hl r hr)
theorem uKy {G:Gp} {e f:Nat×Nat}:eqG G (encE e) (encE f)=some (decide (e=f)):=by
 obtain⟨a,b⟩:=e;obtain⟨c,d⟩:=f
 rw[show eqG G (encE (a,b)) (encE (c,d))=some (eqT (encE (a,b)) (encE (c,d))) from rfl]
 congr 1
 simp only[encE,eqT,eqTs,Bool.and_true]
 by_cases h1:a=c
 ·by_cases h2:b=d
  ·simp[h1,h2]
  ·have:¬ (b:Int)=d:=by omega
   simp[h1,h2,this]
 ·have:¬ (a:Int)=c:=by omega
  simp[h1,this]
theorem jU8 {G:Gp} {a c:Nat}:eqG G (.int a) (.int c)=some (decide (a=c)):=by
 rw[show eqG G (.int a) (.int c)=some (eqT (.int a) (.int c)) from rfl]
 congr 1
 simp only[eqT]
 by_cases h1:a=c
 ·simp[h1]
 ·have:¬ (a:Int)=c:=by omega
  simp[h1,this]
noncomputable def jVj:Sp3:=fun xs G Q=>∃(b:Addr) (W:Web) (m n:Nat),xs=[.ref b,encW W,.int m]/\BoxAt G b n/\n+3*((jK3 W).length*m)<2^40/\Fine W/\Sym W/\1<=W.length/\1<=m/\m*W.length<=1000/\∀V G',Cov W m V->BoxAt G' b (n+3*((jK3 W).length*m))->Keep b G G'->Q (encW V) G'
def kYf:List Str:=["_law_box_here","_law_web_here","_law_many","_law_turn_here","_law_turns","_law_pair","_law_made"]
noncomputable def jVp:TS3:=
 (tSeq (tFor (jJ6 (jJc (tC (.int 3)) tNil)) (jJi 3) (tSeq (tAsg (tLst tNil) (jJi 4))
 (tSeq (tFor (iSeq (jJr jXr (jJc (tVar 1) tNil))) (jJi 5) (jK2 (tBM "list" jJ8 (tVar 4) (jJc (jJr jXo (jJc (tVar 0) (jJc (tVar 2) (jJc (tOp rEqA (tOp rIxF (tVar 5) (tC (.int 0))) (tOp rIxF (tVar 5) (tC (.int 1)))) tNil)))) tNil))))
 (tSeq (tAsg (jJr jVh (jJc (tVar 1) (jJc (tVar 4) (jJc (tVar 2) tNil)))) (jJi 6))
 (tIfS (jJ1 (tOp rEqA (tCB rLen (jJc (jJr jVi (jJc (tVar 6) (jJc (tC (.int 0)) tNil))) tNil)) (tCB rLen (jJc (tVar 6) tNil)))) (tRet (tVar 6)) jKr)))))
 (tRet (tVar 1)))
theorem kJ7:RdOk jVj jVp kYf:=by
 intro xs G Q h_;apply xe4 h_;clear h_;intro b W m n h_;apply ae8 h_;clear h_;intro hb hn fine sym hW1 hm1 hmn kk
 show jVp _ [some (.ref b),some (encW W),some (.int m),none,none,none,none] G
 have hs:=sz
 have hm2:m<=1000:=lJ8 (Nat.le_mul_of_pos_right m hW1) hmn
 wp_walk using 1,jVp,jJw,jJ6
 refine⟨by decide,by decide,?_⟩
 refine⟨fun k τ G'=>∃(v3 v4 v5 v6:Option T),τ=[some (.ref b),some (encW W),some (.int m),v3,v4,v5,v6]/\BoxAt G' b (n+k*((jK3 W).length*m))/\Keep b G G',?_,?_,?_,?_⟩
 ·exact⟨none,none,none,none,rfl,by simpa using hb,.refl _ _⟩
 ·intros;trivial
 ·intro k x τ G1 hx h_;apply xe4 h_;clear h_;intro v3 v4 v5 v6 h_;apply ae2 h_;clear h_;intro hb1 kp1
  have hk:k<3:=by have:=(lJe.mp hx).1;rw[jKu] at this;exact this
  have hk3:(k+1)*((jK3 W).length*m)<=3*((jK3 W).length*m):=lV1 _ (by omega)
  rw[lQy] at hk3
  obtain⟨bo,hbo⟩:=hb1.some
  wp_walk using 1,jJw,iSeq
  refine⟨lJs _,fun D hD0=> ?_⟩
  have hDb:=jJf hbo hD0
  refine⟨W,rfl,fine,fun pe G2 hpe hG2 hlen s2=> ?_⟩
  have hD:=s2 _ _ (jJg (G:=G1) (a:=D) (o:= .lst []))
  have s1:Sub G1 G2:=(Sub.new hD0).trans s2
  have hpb:b≠pe:=by rintro rfl;rw[jJm hDb] at hpe;rw[hpe] at hbo;cases hbo
  have hDe:pe≠D:=by rintro rfl;rw[jJg] at hpe;cases hpe
  have hpe1:G1 pe=none:=by rw[jJm hDe] at hpe;exact hpe
  refine⟨_,jJn hG2,?_⟩
  let J2:Nat->St3->Gp->Prop:=fun i τ G'=>∃(v5:Option T) (Ts:List (List Nat)),τ=[some (.ref b),some (encW W),some (.int m),some x,some (.ref D),v5,v6]/\Ts.length=i/\(∀(t:Nat) (x:Tie) (σ:List Nat),(jK3 W)[t]? =some x->Ts[t]? =some σ->Turn m σ/\(x.1=x.2->Invol σ))/\BoxAt G' b (n+k*((jK3 W).length*m)+i*m)/\Keep b G1 G'/\G' pe=some (.lst ((jK3 W).map encT))/\G' D=some (.lst (Ts.map fun σ=>T.tup (jJk σ)))
  refine⟨J2,?_,?_,?_,?_⟩
  ·exact⟨_,[],rfl,rfl,fun t x σ _ h=>by simp at h,by simpa using (hb1.sub s1),.sub s1,hG2,hD⟩
  ·intro i τ G' hi h_;apply xe2 h_;clear h_;intro v5 Ts h_;apply ae6 h_;clear h_;intro j1 j2 j3 j4 j6 j5
   exact jJn j6
  ·intro i y τ G3 hx0 h_;apply xe2 h_;clear h_;intro v5 Ts h_;apply ae6 h_;clear h_;intro j1 j2 j3 j4 j6 j5
   obtain⟨⟨e,f⟩,hte,rfl⟩:=jK5 hx0
   have hi:i<(jK3 W).length:=(lJe.mp hte).1
   have him:(i+1)*m<=(jK3 W).length*m:=lV1 _ hi
   rw[lQy] at him
   wp_walk using 1,encT,rEqA,uKy,jKd j5
   refine⟨b,m,_,_,rfl,j3,by omega,hm1,hm2,fun σ G4 T1 T2 bx kp=> ?_⟩
   refine⟨_,kp _ _ hDb.symm j5,by rw[lJf];omega,_,Ts++[σ],rfl,by simp[j1],?_,?_,?_,?_,?_⟩
   ·intro t y ρ h1 h2
    by_cases htl:t<Ts.length
    ·rw[lKr htl] at h2;exact j2 t y ρ h1 h2
    ·have htl2:t<(Ts++[σ]).length:=(lJe.mp h2).1
     simp at htl2
     have:t=Ts.length:=by omega
     subst this
     rw[lVf (lJh _)] at h2
     simp at h2;subst h2
     rw[j1,hte] at h1;cases h1
     exact⟨T1,fun z=>T2 (by simpa using z)⟩
   ·exact (bx.gup hDb).mono (by rw[lQy];omega)
   ·exact (j4.trans kp).over hD0
   ·rw[jJm hDe];exact kp _ _ hpb.symm j6
   ·rw[jJg,lQk];rfl
  ·intro τ G3 h_;apply xe2 h_;clear h_;intro v5 Ts h_;apply ae6 h_;clear h_;intro j1 j2 j3 j4 j6 j5
   rw[lJf] at j1 j3
   wp_walk using 1,tSeq
   have hkp3:Keep b G G3:=kp1.trans j4
   refine⟨W,D,m,Ts,rfl,fine,sym,hW1,hm1,hmn,⟨j1,j2⟩,j5,fun V G4 sh s4=> ?_⟩
   have hVl:1<=V.length:=by rw[sh.len];exact Nat.mul_pos hm1 hW1
   refine⟨V,0,rfl,sh.fine fine hmn,hVl,fun p G5 F hp hp5 fd _ s5=> ?_⟩
   wp_walk using 1,rEqA,jJn hp5,encW,jJk,List.length_map,jU8
   split
   ·rename_i hc
    have hc:F.length=V.length:=by simpa using hc
    exact kk V G5 (.inr ⟨sh,fd.conn hc⟩) (((j3.sub s4).sub s5).mono (by omega)) ((hkp3.trans (.sub s4)).trans (.sub s5))
   ·exact⟨((j3.sub s4).sub s5).mono (by rw[lQy];omega),(hkp3.trans (.sub s4)).trans (.sub s5)⟩
 ·intro τ G1 h_;apply xe4 h_;clear h_;intro v3 v4 v5 v6 h_;apply ae2 h_;clear h_;intro hb1 kp1
  rw[jKu] at hb1
  wp_walk using 1,tSeq
  exact kk W G1 (.inl rfl) hb1 kp1
structure AnyWeb (W:Web):Prop where
 pos:1<=W.length
 len:W.length<=24
 sym:Sym W
 deg:∀(r:Nat) (es:List (Nat×Nat)),W[r]? =some es->es.length<=6
 conn:Conn W
theorem WebOk.any {n d:Nat} {W:Web} (h:WebOk n d W) (h1:1<=n) (h2:n<=24) (h3:d<=6):AnyWeb W:=⟨by rw[h.len];exact h1,by rw[h.len];exact h2,h.sym,fun r es hr=>lJ8 (h.deg r es hr) h3,h.conn⟩
theorem WebOk.fine {n d:Nat} {W:Web} (h:WebOk n d W) (h2:n<=24) (h3:d<=6):Fine W:=⟨by rw[h.len];omega,fun r es hr=>by have:=h.deg r es hr;omega,fun r i s j he=>kJp (h.sym _ _ _ _ he)⟩
theorem AnyWeb.fine {W:Web} (h:AnyWeb W):Fine W:=⟨by have:=h.len;omega,fun r es hr=>by have:=h.deg r es hr;omega,fun r i s j he=>kJp (h.sym _ _ _ _ he)⟩
theorem kZe {α β:Type} {f:α->List β} {d:Nat}:∀ {l:List α},(∀a,a∈l->(f a).length<=d)->(l.flatMap f).length<=l.length*d
 | [],_=>by simp
 | a::l,h=>by
  rw[List.flatMap_cons,lKf,lJz,lQy]
  have h1:=h a (lJu)
  have h2:=kZe (l:=l) fun x hx=>h x (lJx _ hx)
  omega
theorem qYw {W:Web} {d:Nat} (h:∀(r:Nat) (es:List (Nat×Nat)),W[r]? =some es->es.length<=d):(jK3 W).length<=W.length*d:=by
 have:=kZe (f:=rowE W) (d:=d) (l:=List.range W.length) fun r hr=>by
  unfold rowE
  split
  ·rename_i es hes
   have h1:=List.length_filterMap_le (jY5 r es) (List.range es.length)
   rw[lK8] at h1
   have h2:=h r es hes
   omega
  ·simp
 rwa [lK8] at this
def jQ9:Sp3:=fun xs G Q=>∃(b:Addr) (n:Nat),xs=[.ref b]/\BoxAt G b n/\n+1000<2^40/\∀W G',AnyWeb W->BoxAt G' b (n+1000)->Keep b G G'->Q (encW W) G'
def kYg:List Str:=["_law_box_here","_law_way_here","_law_base","_law_many"]
noncomputable def jVq:TS3:=
 (tSeq (tAsg (jJr jJp (jJc (tVar 0) (jJc (tC (.int 8)) tNil))) (jJi 1))
 (tSeq (tIfS (jJ1 (tOp rEqA (tVar 1) (tC (.int 0)))) (tRet (jJr jXm (jJc (tVar 0) (jJc (tOp jKh (tC (.int 8)) (jJr jJp (jJc (tVar 0) (jJc (tC (.int 17)) tNil)))) (jJc (tOp jKh (tC (.int 3)) (jJr jJp (jJc (tVar 0) (jJc (tC (.int 4)) tNil)))) tNil))))) jKr)
 (tSeq (tIfS (jJ1 (tOp rLt (tVar 1) (tC (.int 4)))) (tRet (jJr jXm (jJc (tVar 0) (jJc (tOp jKh (tC (.int 1)) (jJr jJp (jJc (tVar 0) (jJc (tC (.int 7)) tNil)))) (jJc (tOp jKh (tC (.int 2)) (jJr jJp (jJc (tVar 0) (jJc (tC (.int 3)) tNil)))) tNil))))) jKr)
 (tSeq (tIfS (jJ1 (tOp rEqA (tVar 1) (tC (.int 4)))) (tRet (jJr jZt (jJc (tOp jKh (tC (.int 1)) (jJr jJp (jJc (tVar 0) (jJc (tC (.int 12)) tNil)))) tNil))) jKr)
 (tSeq (tAsg (jJr jXm (jJc (tVar 0) (jJc (tOp jKh (tC (.int 1)) (jJr jJp (jJc (tVar 0) (jJc (tC (.int 4)) tNil)))) (jJc (tOp jKh (tC (.int 2)) (jJr jJp (jJc (tVar 0) (jJc (tC (.int 2)) tNil)))) tNil)))) (jJi 2))
 (tSeq (tAsg (tOp jKh (tC (.int 2)) (jJr jJp (jJc (tVar 0) (jJc (tOp rIxF (tLst (jJc (tC (.int 5)) (jJc (tC (.int 5)) (jJc (tC (.int 5)) (jJc (tC (.int 3)) tNil))))) (tOp rSub (tCB rLen (jJc (tVar 2) tNil)) (tC (.int 1)))) tNil)))) (jJi 3))
 (tRet (jJr jVj (jJc (tVar 0) (jJc (tVar 2) (jJc (tVar 3) tNil)))))))))))
theorem kJ8:RdOk jQ9 jVq kYg:=by
 intro xs G Q h_;apply xe2 h_;clear h_;intro b n h_;apply ae3 h_;clear h_;intro hb hn kk
 show jVq _ [some (.ref b),none,none,none] G
 have hs:=sz
 wp_walk using 1,jVq,rEqA
 refine⟨b,_,n,rfl,hb,by omega,by omega,by omega,fun w G1 w0 w1 b1 k1=> ?_⟩
 obtain⟨w,rfl⟩:=lKj w0
 have e0:eqG G1 (T.int (w:Nat)) (T.int 0)=some (decide (w=0)):=jU8 (c:=0)
 have e4:eqG G1 (T.int (w:Nat)) (T.int 4)=some (decide (w=4)):=jU8 (c:=4)
 wp_walk using 1,e0,e4
 split
 ·refine⟨b,_,_,rfl,b1,by omega,by omega,by omega,fun r G2 r0 r1 b2 k2=> ?_⟩
  wp_walk using 1,tSeq
  refine⟨b,_,_,rfl,b2,by omega,by omega,by omega,fun q G3 q0 q1 b3 k3=> ?_⟩
  wp_walk using 1,tSeq
  obtain⟨r,rfl⟩:=lKj r0
  obtain⟨q,rfl⟩:=lKj q0
  refine⟨b,8+r,3+q,_,by simp,b3,by omega,by omega,by omega,by omega,by omega,fun W G4 ok b4 k4=> ?_⟩
  exact kk W G4 (ok.any (by omega) (by omega) (by omega)) (b4.mono (by omega)) (((k1.trans k2).trans k3).trans k4)
 split
 ·refine⟨b,_,_,rfl,b1,by omega,by omega,by omega,fun r G2 r0 r1 b2 k2=> ?_⟩
  wp_walk using 1,tSeq
  refine⟨b,_,_,rfl,b2,by omega,by omega,by omega,fun q G3 q0 q1 b3 k3=> ?_⟩
  wp_walk using 1,tSeq
  obtain⟨r,rfl⟩:=lKj r0
  obtain⟨q,rfl⟩:=lKj q0
  refine⟨b,1+r,2+q,_,by simp,b3,by omega,by omega,by omega,by omega,by omega,fun W G4 ok b4 k4=> ?_⟩
  exact kk W G4 (ok.any (by omega) (by omega) (by omega)) (b4.mono (by omega)) (((k1.trans k2).trans k3).trans k4)
 split
 ·refine⟨b,_,_,rfl,b1,by omega,by omega,by omega,fun r G2 r0 r1 b2 k2=> ?_⟩
  wp_walk using 1,tSeq
  obtain⟨r,rfl⟩:=lKj r0
  refine⟨1+r,by simp,by omega,by omega,fun G3 s3=> ?_⟩
  exact kk _ G3 ((uJk (n:=1+r) (by omega)).any (by omega) (by omega) (by omega)) ((b2.sub s3).mono (by omega)) ((k1.trans k2).trans (.sub s3))
 refine⟨b,_,_,rfl,b1,by omega,by omega,by omega,fun r G2 r0 r1 b2 k2=> ?_⟩
 wp_walk using 1,tSeq
 refine⟨b,_,_,rfl,b2,by omega,by omega,by omega,fun q G3 q0 q1 b3 k3=> ?_⟩
 wp_walk using 1,tSeq
 obtain⟨r,rfl⟩:=lKj r0
 obtain⟨q,rfl⟩:=lKj q0
 refine⟨b,1+r,2+q,_,by simp,b3,by omega,by omega,by omega,by omega,by omega,fun W G4 ok b4 k4=> ?_⟩
 wp_walk using 1,encW,List.length_map
 refine⟨by omega,fun p hp=> ?_⟩
 obtain⟨bo,hbo⟩:=b4.some
 have hbp:=jJf hbo hp
 have hWl:=ok.len
 have hfine:=ok.fine (by omega) (by omega)
 have hends:=qYw ok.deg
 obtain⟨c,hc,hc1,hc2,hc3⟩:∃c:Nat,L2.atI [T.int 5,T.int 5,T.int 5,T.int 3] ((W.length:Int)-1)=some (.int (c:Nat))/\1<=c/\c<=5/\(c+1)*W.length<=24:=by
  have:W.length=1\/W.length=2\/W.length=3\/W.length=4:=by omega
  rcases this with h | h | h | h<;>rw[h]
  ·exact⟨5,rfl,by decide,by decide,by decide⟩
  ·exact⟨5,rfl,by decide,by decide,by decide⟩
  ·exact⟨5,rfl,by decide,by decide,by decide⟩
  ·exact⟨3,rfl,by decide,by decide,by decide⟩
 refine⟨_,hc,?_⟩
 refine⟨b,_,_,rfl,b4.gup hbp,by omega,by omega,by omega,fun x G5 x0 x1 b5 k5=> ?_⟩
 wp_walk using 1,tSeq
 obtain⟨x,rfl⟩:=lKj x0
 have hm:(2+x)*W.length<=24:=lJ8 (lV1 _ (by omega)) hc3
 have hcost:(jK3 W).length*(2+x)<=12*6:=Nat.mul_le_mul (lJ8 hends (by rw[hWl];exact Nat.mul_le_mul (show 1+r<=4 by omega) (show 2+q<=3 by omega))) (by omega)
 refine⟨b,W,2+x,_,by simp[encW],b5,by omega,hfine,ok.sym,by omega,by omega,by omega,fun V G6 cov b6 k6=> ?_⟩
 refine kk V G6 ?_ (b6.mono (by omega)) (((((k1.trans k2).trans k3).trans k4).trans (.new hp)).trans k5 |>.trans k6)
 rcases cov with rfl | ⟨sh,cn⟩
 ·exact ok.any (by omega) (by omega) (by omega)
 ·refine⟨by rw[sh.len];exact Nat.mul_pos (by omega) (by omega),by rw[sh.len];exact hm,sh.sym,fun y es hy=> ?_,cn⟩
  obtain⟨es',h1,h2⟩:=sh.row y es hy
  have:=ok.deg _ _ h1
  omega
def jK9 (r:Nat) (es:List (Nat×Nat)):Nat:=(es.getLast?.map Prod.fst).getD r
def goW (W:Web) (r:Nat) (ds:List Nat):Option (List (Nat×Nat)):=ds.foldl (fun o d=>o.bind fun es=>(en W (jK9 r es) d).map fun e=>es++[e]) (some [])
theorem jZf {W:Web} {r d:Nat} {ds:List Nat}:goW W r (ds++[d])=(goW W r ds).bind fun es=>(en W (jK9 r es) d).map fun e=>es++[e]:=by
 unfold goW;rw[List.foldl_append];rfl
theorem jZg {W:Web} {r:Nat} {ds ds':List Nat} (h:goW W r ds=none):goW W r (ds++ds')=none:=by
 unfold goW at h ⊢
 rw[List.foldl_append,h]
 induction ds' with
 | nil=>rfl
 | cons a as ih=>exact ih
theorem jQd {r:Nat} {es:List (Nat×Nat)} {e:Nat×Nat}:jK9 r (es++[e])=e.1:=by simp[jK9]
theorem qKp {α:Type} {P:List α->Prop} (h0:P []) (h1:∀ds d,P ds->P (ds++[d])) (ds:List α):P ds:=by
 have:∀l:List α,P l.reverse:=by
  intro l
  induction l with
  | nil=>exact h0
  | cons a as ih=>rw[List.reverse_cons];exact h1 _ _ ih
 have h:=this ds.reverse
 rwa [List.reverse_reverse] at h
theorem kVd {W:Web} (f:Fine W) {r:Nat} (hr:r<W.length):∀ {ds:List Nat} {es:List (Nat×Nat)},goW W r ds=some es->jK9 r es<W.length/\es.length=ds.length/\∀e,e∈es->e.1<W.length:=by
 intro ds
 refine qKp (P:=fun ds=>∀ {es:List (Nat×Nat)},goW W r ds=some es->jK9 r es<W.length/\es.length=ds.length/\∀e,e∈es->e.1<W.length) ?_ ?_ ds
 ·intro es h;cases h;exact⟨hr,rfl,fun e he=>by cases he⟩
 ·intro ds d ih es h
  rw[jZf] at h
  cases e1:goW W r ds with
  | none=>rw[e1] at h;cases h
  | some es1=>
   rw[e1] at h
   obtain⟨a1,a2,a3⟩:=ih e1
   simp only[lQl] at h
   cases e2:en W (jK9 r es1) d with
   | none=>rw[e2] at h;cases h
   | some e=>
    rw[e2] at h;cases h
    have he:=f.rng _ _ e.1 e.2 e2
    refine⟨by rw[jQd];exact he,by simp[a2],fun x hx=> ?_⟩
    rw[lKh,lJ1] at hx
    rcases hx with hx | rfl
    ·exact a3 x hx
    ·exact he
theorem jVw {W:Web} {r i d:Nat} {ds:List Nat} (hd:ds[i]? =some d):goW W r (ds.take (i+1))=(goW W r (ds.take i)).bind fun es=>(en W (jK9 r es) d).map fun e=>es++[e]:=by
 rw[lQ2,hd];exact jZf
theorem uKu {W:Web} {r i d:Nat} {ds:List Nat} {es:List (Nat×Nat)} (hd:ds[i]? =some d) (h:goW W r (ds.take i)=some es) (hn:en W (jK9 r es) d=none):goW W r ds=none:=by
 have:goW W r (ds.take (i+1))=none:=by rw[jVw hd,h];simp[hn]
 have h2:=jZg (ds':=ds.drop (i+1)) this
 rwa [lVy] at h2
noncomputable def jX8:Sp3:=fun xs G Q=>∃(W:Web) (r:Nat) (x:T) (ds:List Nat),xs=[encW W,.int r,x]/\Fine W/\r<W.length/\seqT G x=some (jJk ds)/\ds.length<=1000/\∀G',Sub G G'->(goW W r ds=none->Q .non G')/\(∀es p,goW W r ds=some es->G p=none->G' p=some (.lst (es.map encE))->Q (.ref p) G')
def qVv:List Str:=["web","room","way","ends","here","door","end"]
noncomputable def jYf:TS3:=
 (tSeq (tAsg (tLst tNil) (jJi 3))
 (tSeq (tAsg (tVar 1) (jJi 4))
 (tSeq (tFor (iSeq (tVar 2)) (jJi 5) (tSeq (tIfS (tNot (jJ1 (kUj rLeF rLt (tC (.int 0)) (tVar 5) (tCB rLen (jJc (tOp rIxF (tVar 0) (tVar 4)) tNil))))) (tRet (tC .non)) jKr)
 (tSeq (tAsg (tOp rIxF (tOp rIxF (tVar 0) (tVar 4)) (tVar 5)) (jJi 6))
 (tSeq (jK2 (tBM "list" jJ8 (tVar 3) (jJc (tVar 6) tNil)))
 (tAsg (tOp rIxF (tVar 6) (tC (.int 0))) (jJi 4))))))
 (tRet (tVar 3)))))
theorem kUm {W:Web} {r:Nat} (hr:r<W.length):∃es,W[r]? =some es/\∀d,en W r d=es[d]? :=⟨W[r],lJg hr,fun d=>by unfold en;rw[lJg hr];rfl⟩
theorem kUr:RdOk jX8 jYf qVv:=by
 intro xs G Q h_;apply xe4 h_;clear h_;intro W r x ds h_;apply ae5 h_;clear h_;intro fine hr hx hdl kk
 show jYf _ [some (.tup (W.map encR)),some (.int r),some x,none,none,none,none] G
 have hs:=sz
 wp_walk using 1,jYf,jJw,iSeq
 refine⟨lJs _,fun p hp=> ?_⟩
 refine⟨jJk ds,(Sub.new hp).seq hx,?_⟩
 refine⟨fun i τ G'=>∃(v5 v6:Option T) (es:List (Nat×Nat)),τ=[some (.tup (W.map encR)),some (.int r),some x,some (.ref p),some (.int (jK9 r es:Nat)),v5,v6]/\goW W r (ds.take i)=some es/\G' p=some (.lst (es.map encE))/\Sub G G',?_,?_,?_,?_⟩
 ·exact⟨none,none,[],rfl,rfl,jJg,.new hp⟩
 ·intro i τ G' hi h_;apply xe3 h_;clear h_;intro v5 v6 es h_;apply ae3 h_;clear h_;intro h1 h2 h3
  exact h3.seq hx
 ·intro i y τ G1 hy h_;apply xe3 h_;clear h_;intro v5 v6 es h_;apply ae3 h_;clear h_;intro h1 h2 h3
  obtain⟨d,hd,rfl⟩:=jK5 hy
  have hi:i<ds.length:=(lJe.mp hd).1
  obtain⟨b1,b2,b3⟩:=kVd fine hr h1
  obtain⟨row,hrow,hen⟩:=kUm b1
  have hrl:=fine.row _ _ hrow
  rw[lQd] at b2
  have hatR:=jKz hrow
  wp_walk using 1,kUj,rLeF,hatR,encR,List.length_map
  rw[lJc (by omega)]
  by_cases hdr:d<row.length
  ·have hed:row[d]? =some row[d]:=lJg hdr
   generalize row[d]=e at hed
   have heR:=kQ2 hed
   wp_walk using 1,heR,show decide ((d:Int)<(row.length:Int))=true by simp;omega,encE,jKd h2,h2,List.length_map
   refine⟨by omega,_,_,es++[e],by rw[jQd],rfl,rfl,?_,by simp[encE],h3.over hp⟩
   rw[jVw hd,h1]
   simp[hen,hed]
  ·have hnone:row[d]? =none:=lJ4 (by omega)
   wp_walk using 1,show decide ((d:Int)<(row.length:Int))=false by simp;omega
   exact (kk G1 h3).1 (uKu hd h1 (by rw[hen];exact hnone))
 ·intro τ G1 h_;apply xe3 h_;clear h_;intro v5 v6 es h_;apply ae3 h_;clear h_;intro h1 h2 h3
  wp_walk using 1,tSeq
  have e1:(jJk ds).length=ds.length:=by simp[jJk]
  rw[e1,lQs] at h1
  exact (kk G1 h3).2 es p h1 hp h2
def degT (W:Web) (r:Nat):T:= .int (((W[r]?).getD []).length:Nat)
def qV7 (W:Web) (r:Nat) (es:List (Nat×Nat)):T:= .tup (degT W r::es.map fun e=>T.tup [.int (e.2:Nat),degT W e.1])
theorem qU3 {W:Web} {r:Nat} {es:List (Nat×Nat)} (h:W[r]? =some es):degT W r= .int (es.length:Nat):=by unfold degT;rw[h];rfl
noncomputable def kV4:Sp3:=fun xs G Q=>∃(W:Web) (r:Nat) (x:T) (ds:List Nat),xs=[encW W,.int r,x]/\Fine W/\r<W.length/\seqT G x=some (jJk ds)/\ds.length<=1000/\∀G',Sub G G'->(goW W r ds=none->Q .non G')/\(∀es,goW W r ds=some es->Q (qV7 W r es) G')
def N_seen:List Str:=["web","room","way","ends","end"]
noncomputable def kXf:TS3:=
 (tSeq (tAsg (jJr jX8 (jJc (tVar 0) (jJc (tVar 1) (jJc (tVar 2) tNil)))) (jJi 3))
 (tSeq (tIfS (jJ1 (tOp rIsN (tVar 3) (tC .non))) (tRet (tC .non)) jKr)
 (tRet (tCB jJ7 (jJc (tOp jKh (tLst (jJc (tCB rLen (jJc (tOp rIxF (tVar 0) (tVar 1)) tNil)) tNil)) (jQu [false,false,false,false,true] (iSeq (tVar 3)) (jJi 4) jV0 (tTup (jJc (tOp rIxF (tVar 4) (tC (.int 1))) (jJc (tCB rLen (jJc (tOp rIxF (tVar 0) (tOp rIxF (tVar 4) (tC (.int 0)))) tNil)) tNil))))) tNil)))))
theorem qK6:RdOk kV4 kXf N_seen:=by
 intro xs G Q h_;apply xe4 h_;clear h_;intro W r x ds h_;apply ae5 h_;clear h_;intro fine hr hx hdl kk
 show kXf _ [some (.tup (W.map encR)),some (.int r),some x,none,none] G
 have hs:=sz
 wp_walk using 1,kXf
 refine⟨W,r,x,ds,rfl,fine,hr,hx,hdl,fun G1 s1=>⟨fun hn=> ?_,fun es p he hp hp1=> ?_⟩⟩
 ·wp_walk using 1,tSeq
  exact (kk G1 s1).1 hn
 ·obtain⟨b1,b2,b3⟩:=kVd fine hr he
  obtain⟨row,hrow,hen⟩:=kUm hr
  wp_walk using 1,iSeq,hp1,jKz hrow,encR,List.length_map
  refine⟨by omega,fun q hq=> ?_⟩
  have hpq:=jJf hp1 hq
  refine⟨es.map encE,jJn (by rw[jJm hpq];exact hp1),?_⟩
  refine jQb (fun e=>T.tup [.int (e.2:Nat),degT W e.1]) (by omega) (fun G' s=>jJn (s _ _ (by rw[jJm hpq];exact hp1))) ?_ ?_
  ·intro i e hei G2 K K0 s hk
   obtain⟨row',hrow',_⟩:=kUm (b3 e (lJi hei))
   wp_walk using 1,encE,jKz hrow',encR,List.length_map
   refine⟨by omega,?_⟩
   rw[qU3 hrow'] at hk
   exact hk G2 (.refl _)
  ·intro D G2 hD h1 h2
   have hq2:=h2 _ _ (jJg (G:=G1) (a:=q) (o:= .lst [T.int (row.length:Nat)]))
   refine⟨_,kZs hq2 h1 (by simp;omega),?_⟩
   rw[kQ1]
   intro u hu
   refine⟨_,kYq,?_⟩
   have:=(kk (gup G2 u (.lst ([T.int (row.length:Nat)]++es.map fun e=>T.tup [.int (e.2:Nat),degT W e.1]))) (((s1.trans (.new hq)).trans h2).trans (.new hu))).2 es he
   rw[qV7,qU3 hrow] at this
   exact this
theorem qVm {nu:List Nat} {x y:Nat} (h:nu[x]? =some y):L2.atI (jJk nu) (x:Int)=some (.int (y:Nat)):=by rw[atN];simp[jJk,h]
theorem uJ4 {xs:List T} {j:Nat} {y:T} (h:(numT xs)[j]? =some y):∃x,xs[j]? =some x/\y= .tup [.int j,x]:=by
 have hj:j<xs.length:=by have:=(lJe.mp h).1;rwa [jKk] at this
 refine⟨xs[j],lJg hj,?_⟩
 rw[jU5 (lJg hj)] at h
 cases h;rfl
theorem jY9 {G G':Gp} (h:Sub G G') {p:Addr} (hp:G' p=none):G p=none:=by
 cases e:G p with
 | none=>rfl
 | some o=>rw[h _ _ e] at hp;cases hp
section
variable {κ:Type} [DecidableEq κ]
def fst1 (F:List κ) (x:κ):List κ:=if x∈F then F else F++[x]
def jYw (ls:List κ):List κ:=ls.foldl fst1 []
def ix1 (F:List κ) (x:κ):Nat:=F.idxOf x
def num (ls:List κ):List Nat:=ls.map fun x=>(jYw ls).idxOf x
theorem fst1_mem {F:List κ} {x y:κ}:y∈fst1 F x↔y∈F\/y=x:=by
 unfold fst1
 split
 ·rename_i h
  constructor
  ·exact .inl
  ·rintro (z | rfl)
   ·exact z
   ·exact h
 ·simp
theorem kZd:∀(ls F:List κ) {y:κ},y∈ls.foldl fst1 F↔y∈F\/y∈ls
 | [],F,y=>by simp
 | x::ls,F,y=>by
  rw[lQx,kZd ls,fst1_mem,lJl,or_assoc]
theorem firsts_mem {ls:List κ} {y:κ}:y∈jYw ls↔y∈ls:=by
 unfold jYw;rw[kZd];simp
theorem jVc {ls:List κ} {k:Nat} {x:κ} (h:ls[k]? =some x):(num ls)[k]? =some ((jYw ls).idxOf x):=by simp[num,h]
theorem kJk {F:List κ} {x y:κ} (hx:x∈F) (h:F.idxOf x=F.idxOf y):x=y:=by
 have h1:=lX5 hx
 have h2:F.idxOf y<F.length:=by rw[<-h];exact h1
 have e1:F[F.idxOf x]=x:=lXv h1
 have e2:F[F.idxOf y]=y:=lXv h2
 rw[<-e1,<-e2];congr 1
theorem qQx {ls:List κ} {a b:Nat} {x y:κ} (ha:ls[a]? =some x) (hb:ls[b]? =some y) (h:(num ls)[a]? =(num ls)[b]?):x=y:=by
 rw[jVc ha,jVc hb] at h
 exact kJk (firsts_mem.mpr (lJi ha)) (lJ7 h)
theorem kQt {μ:Type} [DecidableEq μ] {f:κ->μ} {ls:List κ} (hf:∀x y,x∈ls->y∈ls->f x=f y->x=y):num (ls.map f)=num ls:=by
 have key:∀(ms F:List κ),(∀x,x∈ms->x∈ls)->(∀x,x∈F->x∈ls)->(ms.map f).foldl fst1 (F.map f)=(ms.foldl fst1 F).map f:=by
  intro ms
  induction ms with
  | nil=>intro F _ _;rfl
  | cons m ms ih=>
   intro F h1 h2
   rw[lJq,lQx,lQx]
   have hm:=h1 m lJu
   have e:fst1 (F.map f) (f m)=(fst1 F m).map f:=by
    unfold fst1
    by_cases h:m∈F
    ·rw[lJc h,lJc (lJk.mpr ⟨m,h,rfl⟩)]
    ·rw[lJb h,lJb,lQk];rfl
     intro z
     obtain⟨y,hy,e⟩:=lJk.mp z
     rw[hf y m (h2 y hy) hm e] at hy
     exact h hy
   rw[e]
   refine ih _ (fun x hx=>h1 x (lJx _ hx)) fun x hx=> ?_
   rcases fst1_mem.mp hx with z | rfl
   ·exact h2 x z
   ·exact hm
 have e:=key ls [] (fun _ h=>h) (by simp)
 have ef:jYw (ls.map f)=(jYw ls).map f:=e
 unfold num
 rw[lJ6]
 apply lXt
 intro x hx
 show (jYw (ls.map f)).idxOf (f x)=_
 rw[ef]
 have idx:∀F:List κ,(∀y,y∈F->y∈ls)->(F.map f).idxOf (f x)=F.idxOf x:=by
  intro F
  induction F with
  | nil=>intro _;rfl
  | cons a F ih=>
   intro hF
   rw[lJq,List.idxOf_cons,List.idxOf_cons,ih fun y hy=>hF y (lJx _ hy)]
   by_cases h:a=x
   ·subst h;simp only[beq_self_eq_true]
   ·have:¬ f a=f x:=fun z=>h (hf a x (hF a lJu) hx z)
    rw[beq_eq_false_iff_ne.mpr this,beq_eq_false_iff_ne.mpr h]
 exact idx _ fun y hy=>firsts_mem.mp hy
end
def tups (W:Web) (m:List Nat):List (List (Nat×Nat)):=W.map fun es=>es.map fun e=>(e.2,m.getD e.1 0)
def jJ4 (W:Web):Nat->List Nat
 | 0=>num (W.map List.length)
 | k+1=>num (tups W (jJ4 W k))
theorem kJa {W:Web}:∀k,(jJ4 W k).length=W.length
 | 0=>by simp[jJ4,num]
 | k+1=>by simp[jJ4,num,tups]
theorem jQ4 {W:Web} {m:List Nat} {r:Nat} {es:List (Nat×Nat)} (h:W[r]? =some es):(tups W m)[r]? =some (es.map fun e=>(e.2,m.getD e.1 0)):=by simp[tups,h]
theorem finer {W:Web} (f:Fine W):∀(k a b:Nat) (es fs:List (Nat×Nat)),W[a]? =some es->W[b]? =some fs->(es.map fun e=>(e.2,(jJ4 W k).getD e.1 0))=(fs.map fun e=>(e.2,(jJ4 W k).getD e.1 0))->(jJ4 W k)[a]? =(jJ4 W k)[b]?
 | 0,a,b,es,fs,ha,hb,h=>by
  have hl:=lJ5 List.length h
  simp at hl
  have h1:(W.map List.length)[a]? =some es.length:=by simp[ha]
  have h2:(W.map List.length)[b]? =some fs.length:=by simp[hb]
  show (num _)[a]? =(num _)[b]?
  rw[jVc h1,jVc h2,hl]
 | k+1,a,b,es,fs,ha,hb,h=>by
  show (num _)[a]? =(num _)[b]?
  rw[jVc (jQ4 ha),jVc (jQ4 hb)]
  congr 2
  apply lK1
  intro i
  have hi:=lJ5 (fun l=>l[i]?) h
  simp only[lJn] at hi ⊢
  cases e1:es[i]? with
  | none=>
   rw[e1] at hi
   cases e2:fs[i]? with
   | none=>rfl
   | some q=>rw[e2] at hi;cases hi
  | some p=>
   rw[e1] at hi
   cases e2:fs[i]? with
   | none=>rw[e2] at hi;cases hi
   | some q=>
    rw[e2] at hi
    simp only[lQ1,lQ7,Prod.mk.injEq] at hi ⊢
    refine⟨hi.1,?_⟩
    have hp:=f.rng a i p.1 p.2 (jK1 ha e1)
    have hq:=f.rng b i q.1 q.2 (jK1 hb e2)
    have gd:∀(k x:Nat),x<W.length->(jJ4 W k)[x]? =some ((jJ4 W k).getD x 0):=fun k x hx=>by
     have:x<(jJ4 W k).length:=by rw[kJa];exact hx
     simp[List.getD,lJg this]
    have hWp:W[p.1]? =some W[p.1]:=lJg hp
    have hWq:W[q.1]? =some W[q.1]:=lJg hq
    have same:(num (tups W (jJ4 W k)))[p.1]? =(num (tups W (jJ4 W k)))[q.1]? :=by
     have g1:=gd (k+1) p.1 hp
     have g2:=gd (k+1) q.1 hq
     show (jJ4 W (k+1))[p.1]? =(jJ4 W (k+1))[q.1]?
     rw[g1,g2,hi.2]
    have:=finer f k p.1 q.1 _ _ hWp hWq (qQx (jQ4 hWp) (jQ4 hWq) same)
    rw[gd k p.1 hp,gd k q.1 hq] at this
    exact lJ7 this
theorem okW:∀w:List Nat,jQm (jJk w)=true/\PyData.canLayAll0 (tds (jJk w))=true/\PyData.depthAll (tds (jJk w))<=1/\eqTs (jJk w) (jJk w)=true
 | []=>⟨rfl,by simp[jJk,tds,PyData.canLayAll0],by simp[jJk,tds,PyData.depthAll],rfl⟩
 | a::w=>by
  obtain⟨a1,a2,a3,a4⟩:=okW w
  refine⟨?_,?_,?_,?_⟩
  ·show (tree (.int a)&&jQm (jJk w))=true;rw[a1];rfl
  ·show PyData.canLayAll0 (td (.int a)::tds (jJk w))=true;rw[PyData.canLayAll0,a2];rfl
  ·show PyData.depthAll (td (.int a)::tds (jJk w))<=1;rw[PyData.depthAll];simp[td,PyData.depth];exact a3
  ·show (eqT (.int a) (.int a)&&eqTs (jJk w) (jJk w))=true;rw[a4];simp[eqT]
def wayT (p:List Nat):T:= .tup (jJk p)
def oWay:Option (List Nat)->T
 | none=> .non
 | some p=>wayT p
def both (U V:Web):Web:=U++V.map fun es=>es.map fun e=>(e.1+U.length,e.2)
theorem jX5 {U V:Web} {r:Nat} (h:r<U.length):(both U V)[r]? =U[r]? :=by rw[both,lKr h]
theorem jVy {U V:Web} {r:Nat}:(both U V)[U.length+r]? =(V[r]?).map fun es=>es.map fun e=>(e.1+U.length,e.2):=by
 rw[both,lVf (by omega),lJn];congr 2;omega
theorem kZp {U V:Web}:(both U V).length=U.length+V.length:=by simp[both]
theorem qUr {U V:Web} (fU:Fine U) (fV:Fine V) (h:U.length+V.length<=1000):Fine (both U V) where
 len:=by rw[kZp];exact h
 row:=fun r es hr=>by
  by_cases z:r<U.length
  ·rw[jX5 z] at hr;exact fU.row r es hr
  ·obtain⟨k,rfl⟩:∃k,r=U.length+k:=⟨r-U.length,by omega⟩
   rw[jVy] at hr
   obtain⟨fs,h1,rfl⟩:=lKg.mp hr
   rw[lJf];exact fV.row _ _ h1
 rng:=fun r i s j hr=>by
  obtain⟨es,h1,h2⟩:=jK0 hr
  rw[kZp]
  by_cases z:r<U.length
  ·rw[jX5 z] at h1
   have:=fU.rng r i s j (jK1 h1 h2);omega
  ·obtain⟨k,rfl⟩:∃k,r=U.length+k:=⟨r-U.length,by omega⟩
   rw[jVy] at h1
   obtain⟨fs,h3,rfl⟩:=lKg.mp h1
   rw[lJn] at h2
   obtain⟨e,h4,h5⟩:=lKg.mp h2
   cases h5
   have:=fV.rng k i e.1 e.2 (jK1 h3 h4);omega
def Alk (W:Web) (k r s:Nat):Prop:=(jJ4 W k)[r]? =(jJ4 W k)[s]?
theorem jYj {κ:Type} [DecidableEq κ] {ls:List κ} {a b:Nat} {x y:κ} (ha:ls[a]? =some x) (hb:ls[b]? =some y):(num ls)[a]? =(num ls)[b]? ↔x=y:=by
 refine⟨qQx ha hb,fun e=> ?_⟩
 subst e
 rw[jVc ha,jVc hb]
theorem qY6 {W:Web} {r s:Nat} {es fs:List (Nat×Nat)} (hr:W[r]? =some es) (hs:W[s]? =some fs):Alk W 0 r s↔es.length=fs.length:=by
 unfold Alk
 rw[show jJ4 W 0=num (W.map List.length) from rfl]
 exact jYj (by simp[hr]) (by simp[hs])
theorem qY7 {W:Web} {k r s:Nat} {es fs:List (Nat×Nat)} (hr:W[r]? =some es) (hs:W[s]? =some fs):Alk W (k+1) r s↔(es.map fun e=>(e.2,(jJ4 W k).getD e.1 0))=fs.map fun e=>(e.2,(jJ4 W k).getD e.1 0):=by
 unfold Alk
 rw[show jJ4 W (k+1)=num (tups W (jJ4 W k)) from rfl]
 exact jYj (jQ4 hr) (jQ4 hs)
theorem kJx {W:Web} {k r s:Nat} (hr:r<W.length) (hs:s<W.length):(jJ4 W k).getD r 0=(jJ4 W k).getD s 0↔Alk W k r s:=by
 unfold Alk
 have l:=kJa (W:=W) k
 rw[lV2,lV2,lJg (show r<(jJ4 W k).length by omega),lJg (show s<(jJ4 W k).length by omega)]
 simp
theorem kJy {W:Web} (f:Fine W) {k r s:Nat} {es fs:List (Nat×Nat)} (hr:W[r]? =some es) (hs:W[s]? =some fs):Alk W (k+1) r s↔es.length=fs.length/\∀(i:Nat) (e g:Nat×Nat),es[i]? =some e->fs[i]? =some g->e.2=g.2/\Alk W k e.1 g.1:=by
 rw[qY7 hr hs]
 constructor
 ·intro h
  have hl:es.length=fs.length:=by have:=lJ5 List.length h;simpa using this
  refine⟨hl,fun i e g he hg=> ?_⟩
  have h2:=lJ5 (fun l=>l[i]?) h
  simp only[lJn,he,hg,lQ1,lQ7,Prod.mk.injEq] at h2
  exact⟨h2.1,(kJx (f.rng r i e.1 e.2 (jK1 hr he)) (f.rng s i g.1 g.2 (jK1 hs hg))).mp h2.2⟩
 ·rintro⟨hl,h⟩
  apply lK1
  intro i
  rw[lJn,lJn]
  by_cases hi:i<es.length
  ·have he:=lJg hi
   have hg:=lJg (show i<fs.length by omega)
   obtain⟨h1,h2⟩:=h i _ _ he hg
   rw[he,hg]
   simp only[lQ1,lQ7,Prod.mk.injEq]
   exact⟨h1,(kJx (f.rng r i _ _ (jK1 hr he)) (f.rng s i _ _ (jK1 hs hg))).mpr h2⟩
  ·rw[lJ4 (by omega),lJ4 (by omega)]
noncomputable def PW (W:Web):List Nat->Nat->Nat->Prop
 | [],r,s=>(row W r).length≠(row W s).length
 | d::p,r,s=>(row W r).length=(row W s).length/\∃e g,en W r d=some e/\en W s d=some g/\((e.2≠g.2/\p=[])\/(e.2=g.2/\PW W p e.1 g.1))
theorem jYz {W:Web} {r:Nat} {es:List (Nat×Nat)} (h:W[r]? =some es):row W r=es:=by rw[row,h];rfl
theorem jUp {W:Web} (f:Fine W):∀(k r s:Nat),r<W.length->s<W.length->(Alk W k r s↔∀p:List Nat,p.length<=k->¬ PW W p r s):=by
 intro k
 induction k with
 | zero=>
  intro r s hr hs
  have h1:=lJg hr
  have h2:=lJg hs
  rw[qY6 h1 h2]
  constructor
  ·intro h p hp
   have:p=[]:=lX1 (by omega)
   subst this
   rw[PW,jYz h1,jYz h2];exact fun z=>z h
  ·intro h
   have:=h [] (lJh _)
   rw[PW,jYz h1,jYz h2] at this
   exact lXw.mp this
 | succ k ih=>
  intro r s hr hs
  have h1:=lJg hr
  have h2:=lJg hs
  rw[kJy f h1 h2]
  constructor
  ·rintro⟨hl,h⟩ p hp
   cases p with
   | nil=>rw[PW,jYz h1,jYz h2];exact fun z=>z hl
   | cons d q=>
    rw[PW]
    rintro⟨_,e,g,he,hg,z⟩
    obtain⟨es,q1,q2⟩:=jK0 he
    obtain⟨fs,q3,q4⟩:=jK0 hg
    rw[h1] at q1;cases q1
    rw[h2] at q3;cases q3
    obtain⟨a1,a2⟩:=h d e g q2 q4
    rcases z with ⟨z,_⟩ | ⟨_,z⟩
    ·exact z a1
    ·exact (ih e.1 g.1 (f.rng r d e.1 e.2 he) (f.rng s d g.1 g.2 hg)).mp a2 q (by simp at hp;omega) z
  ·intro h
   have hl:(W[r]).length=(W[s]).length:=by
    have:=h [] (lJs _)
    rw[PW,jYz h1,jYz h2] at this
    exact lXw.mp this
   refine⟨hl,fun i e g he hg=> ?_⟩
   have he':=jK1 h1 he
   have hg':=jK1 h2 hg
   have a1:e.2=g.2:=by
    apply lKv
    intro z
    refine h [i] (by simp) ?_
    rw[PW,jYz h1,jYz h2]
    exact⟨hl,e,g,he',hg',.inl ⟨z,rfl⟩⟩
   refine⟨a1,(ih e.1 g.1 (f.rng r i e.1 e.2 he') (f.rng s i g.1 g.2 hg')).mpr fun q hq z=> ?_⟩
   refine h (i::q) (by simp;omega) ?_
   rw[PW,jYz h1,jYz h2]
   exact⟨hl,e,g,he',hg',.inr ⟨a1,z⟩⟩
def lx:List Nat->List Nat->Prop
 | [],_=>False
 | _::_,[]=>False
 | a::u,b::v=>a<b\/(a=b/\lx u v)
def slt (u v:List Nat):Prop:=u.length<v.length\/(u.length=v.length/\lx u v)
theorem qZw:∀u:List Nat,¬ lx u u
 | []=>fun h=>h
 | a::u=>fun h=>by
  rcases h with h | ⟨_,h⟩
  ·exact lQv _ h
  ·exact qZw u h
theorem kY0:∀ {u v w:List Nat},lx u v->lx v w->lx u w
 | [],_,_,h,_=>(show False from h).elim
 | _::_,[],_,h,_=>(show False from h).elim
 | _::_,_::_,[],_,h=>(show False from h).elim
 | a::u,b::v,c::w,h,k=>by
  rcases h with h | ⟨rfl,h⟩<;>rcases k with k | ⟨rfl,k⟩
  ·exact .inl (Nat.lt_trans h k)
  ·exact .inl h
  ·exact .inl k
  ·exact .inr ⟨rfl,kY0 h k⟩
theorem qZx {x y:List Nat}:∀ {u v:List Nat},u.length=v.length->lx u v->lx (u++x) (v++y)
 | [],_,_,h=>(show False from h).elim
 | _::_,[],_,h=>(show False from h).elim
 | a::u,b::v,e,h=>by
  rcases h with h | ⟨rfl,h⟩
  ·exact .inl h
  ·exact .inr ⟨rfl,qZx (by simpa using e) h⟩
theorem qQ1 {a b:Nat} (h:a<b):∀u:List Nat,lx (u++[a]) (u++[b])
 | []=> .inl h
 | _::u=> .inr ⟨rfl,qQ1 h u⟩
theorem kV5 {u:List Nat} (h:slt u u):False:=by
 rcases h with h | h
 ·exact lQv _ h
 ·exact qZw u h.2
theorem jVk {u v w:List Nat} (h:slt u v) (k:slt v w):slt u w:=by
 rcases h with h | ⟨h,h'⟩<;>rcases k with k | ⟨k,k'⟩
 ·exact .inl (Nat.lt_trans h k)
 ·exact .inl (by omega)
 ·exact .inl (by omega)
 ·exact .inr ⟨h.trans k,kY0 h' k'⟩
theorem kK8 {u v:List Nat} {a b:Nat} (h:slt u v):slt (u++[a]) (v++[b]):=by
 rcases h with h | ⟨h,h'⟩
 ·exact .inl (by simp;exact h)
 ·exact .inr ⟨by simp;exact h,qZx h h'⟩
theorem kYo {u:List Nat} {a b:Nat} (h:a<b):slt (u++[a]) (u++[b]):= .inr ⟨by simp,qQ1 h u⟩
def sle (u v:List Nat):Prop:=u=v\/slt u v
theorem kUl {u v w:List Nat} (h:sle u v) (k:sle v w):sle u w:=by
 rcases h with rfl | h
 ·exact k
 ·rcases k with rfl | k
  ·exact .inr h
  ·exact .inr (jVk h k)
theorem kQa {u v:List Nat} {d:Nat} (h:sle u v):sle (u++[d]) (v++[d]):=by
 rcases h with rfl | h
 ·exact .inl rfl
 ·exact .inr (kK8 h)
def kUe (W:Web):Nat->List Nat->Nat->Prop
 | r,[],x=>r=x
 | r,d::u,x=>∃s j,en W r d=some (s,j)/\kUe W s u x
theorem kKn {W:Web} {x d y j:Nat} (h:en W x d=some (y,j)):∀ {u:List Nat} {r:Nat},kUe W r u x->kUe W r (u++[d]) y
 | [],r,e=>by cases (show r=x from e);exact⟨y,j,h,rfl⟩
 | c::u,r,⟨s,k,e,l⟩=>⟨s,k,e,kKn h l⟩
theorem jYl {W:Web} {d y:Nat}:∀ {u:List Nat} {r:Nat},kUe W r (u++[d]) y->∃x j,kUe W r u x/\en W x d=some (y,j)
 | [],r,⟨s,j,e,l⟩=>by cases (show s=y from l);exact⟨r,j,rfl,e⟩
 | c::u,r,⟨s,k,e,l⟩=>by
  obtain⟨x,j,h1,h2⟩:=jYl l
  exact⟨x,j,⟨s,k,e,h1⟩,h2⟩
abbrev PE:=Nat×Option (Nat×Nat)×List Nat
structure Tr (W:Web) (r0 a j:Nat) (P:List PE):Prop where
 nd:(P.map Prod.fst).Nodup
 zero:P[0]? =some (r0,none,[])
 to:∀p,p∈P->kUe W r0 p.2.2 p.1
 par:∀p,p∈P->p=(r0,none,[])\/∃(i:Nat) (q:PE) (d:Nat),(i<a\/(i=a/\d<j))/\P[i]? =some q/\p.2.1=some (q.1,d)/\p.2.2=q.2.2++[d]
 inc:∀(i k:Nat) (p q:PE),i<k->P[i]? =some p->P[k]? =some q->slt p.2.2 q.2.2
 cl:∀(i:Nat) (p:PE) (d y k:Nat),(i<a\/(i=a/\d<j))->P[i]? =some p->en W p.1 d=some (y,k)->∃q,q∈P/\q.1=y/\sle q.2.2 (p.2.2++[d])
theorem qVz {W:Web} {r0:Nat}:Tr W r0 0 0 [(r0,none,[])] where
 nd:=by simp
 zero:=rfl
 to:=fun p hp=>by rw[lJ1.mp hp];rfl
 par:=fun p hp=> .inl (lJ1.mp hp)
 inc:=fun i k p q h h1 h2=>by
  have:=(lJe.mp h2).1
  simp at this;omega
 cl:=fun i p d y k h=>by omega
theorem Tr.old {W:Web} {r0 a j:Nat} {P:List PE} {x:PE} (h:Tr W r0 a j P) (hx:P[a]? =some x):∀p,p∈P->slt p.2.2 (x.2.2++[j]):=by
 intro p hp
 rcases h.par p hp with rfl | ⟨i,q,d,hi,hq,_,e⟩
 ·exact .inl (by simp)
 ·rw[e]
  rcases hi with hi | ⟨rfl,hd⟩
  ·exact kK8 (h.inc i a q x hi hq hx)
  ·rw[hx] at hq;cases hq
   exact kYo hd
theorem Tr.skip {W:Web} {r0 a j y k:Nat} {P:List PE} {x:PE} (h:Tr W r0 a j P) (hx:P[a]? =some x) (he:en W x.1 j=some (y,k)) (hy:y∈P.map Prod.fst):Tr W r0 a (j+1) P where
 nd:=h.nd
 zero:=h.zero
 to:=h.to
 par:=fun p hp=>by
  rcases h.par p hp with e | ⟨i,q,d,hi,r⟩
  ·exact .inl e
  ·exact .inr ⟨i,q,d,by omega,r⟩
 inc:=h.inc
 cl:=fun i p d z k' hi hp hz=>by
  by_cases hh:i=a/\d=j
  ·obtain⟨rfl,rfl⟩:=hh
   rw[hx] at hp;cases hp
   rw[he] at hz;cases hz
   obtain⟨q,hq,rfl⟩:=lJk.mp hy
   exact⟨q,hq,rfl,.inr (h.old hx q hq)⟩
  ·exact h.cl i p d z k' (by omega) hp hz
theorem Tr.add {W:Web} {r0 a j y k:Nat} {P:List PE} {x:PE} (h:Tr W r0 a j P) (hx:P[a]? =some x) (he:en W x.1 j=some (y,k)) (hy:y∉P.map Prod.fst):Tr W r0 a (j+1) (P++[(y,some (x.1,j),x.2.2++[j])]):=by
 have hal:a<P.length:=(lJe.mp hx).1
 have lf:∀ {i:Nat} {q:PE},P[i]? =some q->(P++[(y,some (x.1,j),x.2.2++[j])])[i]? =some q:=fun {i q} hq=>by
  rw[lKr (lJe.mp hq).1];exact hq
 have rt:∀ {i:Nat} {q:PE},(P++[(y,some (x.1,j),x.2.2++[j])])[i]? =some q->P[i]? =some q\/(i=P.length/\q=(y,some (x.1,j),x.2.2++[j])):=fun {i q} hq=>by
  by_cases hi:i<P.length
  ·rw[lKr hi] at hq;exact .inl hq
  ·have:=(lJe.mp hq).1
   simp at this
   have e:i=P.length:=by omega
   subst e
   rw[lVf (lJh _)] at hq
   simp at hq
   exact .inr ⟨rfl,hq.symm⟩
 refine⟨?_,lf h.zero,fun p hp=> ?_,fun p hp=> ?_,fun i m p q him hp hq=> ?_,fun i p d z k' hi hp hz=> ?_⟩
 ·rw[lQk,lVt]
  refine⟨h.nd,by simp,fun u hu v hv=> ?_⟩
  have:v=y:=by simpa using hv
  subst this
  rintro rfl;exact hy hu
 ·rcases (lKh.mp hp) with hp | hp
  ·exact h.to p hp
  ·rw[lJ1.mp hp]
   exact kKn he (h.to x (lJi hx))
 ·rcases (lKh.mp hp) with hp | hp
  ·rcases h.par p hp with e | ⟨i,q,d,hi,hq,r⟩
   ·exact .inl e
   ·exact .inr ⟨i,q,d,by omega,lf hq,r⟩
  ·rw[lJ1.mp hp]
   exact .inr ⟨a,x,j,by omega,lf hx,rfl,rfl⟩
 ·rcases rt hp with hp | ⟨rfl,rfl⟩<;>rcases rt hq with hq | ⟨rfl,rfl⟩
  ·exact h.inc i m p q him hp hq
  ·exact h.old hx p (lJi hp)
  ·have:=(lJe.mp hq).1
   omega
  ·omega
 ·rcases rt hp with hpo | ⟨rfl,rfl⟩
  ·by_cases hh:i=a/\d=j
   ·obtain⟨rfl,rfl⟩:=hh
    rw[hx] at hpo;cases hpo
    rw[he] at hz;cases hz
    exact⟨_,lKm _ (lXd _),rfl,.inl rfl⟩
   ·obtain⟨q,h1,h2⟩:=h.cl i p d z k' (by omega) hpo hz
    exact⟨q,lQp _ h1,h2⟩
  ·omega
theorem Tr.next {W:Web} {r0 a n:Nat} {P:List PE} {x:PE} (h:Tr W r0 a n P) (hx:P[a]? =some x) (hn:∀d e,en W x.1 d=some e->d<n):Tr W r0 (a+1) 0 P where
 nd:=h.nd
 zero:=h.zero
 to:=h.to
 par:=fun p hp=>by
  rcases h.par p hp with e | ⟨i,q,d,hi,r⟩
  ·exact .inl e
  ·exact .inr ⟨i,q,d,by omega,r⟩
 inc:=h.inc
 cl:=fun i p d z k' hi hp hz=>by
  refine h.cl i p d z k' ?_ hp hz
  by_cases hh:i=a
  ·subst hh
   rw[hx] at hp;cases hp
   exact .inr ⟨rfl,hn d _ hz⟩
  ·exact .inl (by omega)
theorem Tr.all {W:Web} {r0:Nat} {P:List PE} (h:Tr W r0 P.length 0 P):∀(n:Nat) (u:List Nat) (y:Nat),u.length=n->kUe W r0 u y->∃q,q∈P/\q.1=y/\sle q.2.2 u
 | 0,u,y,hn,hl=>by
  have:u=[]:=lQh.mp hn
  subst this
  cases (show r0=y from hl)
  exact⟨_,lJi h.zero,rfl,.inl rfl⟩
 | n+1,u,y,hn,hl=>by
  rcases List.eq_nil_or_concat u with rfl | ⟨u',d,rfl⟩
  ·simp at hn
  ·rw[List.concat_eq_append] at hl hn ⊢
   obtain⟨x,j,h1,h2⟩:=jYl hl
   obtain⟨q,hq,rfl,hs⟩:=h.all n u' x (by simpa using hn) h1
   obtain⟨i,hi⟩:=lKc hq
   obtain⟨q',a1,a2,a3⟩:=h.cl i q d y j (.inl (lJe.mp hi).1) hi h2
   exact⟨q',a1,a2,kUl a3 (kQa hs)⟩
theorem kQ6 {W:Web} (f:Fine W) {k r s:Nat} (hr:r<W.length) (hs:s<W.length) (h:Alk W (k+1) r s):Alk W k r s:=
 (jUp f k r s hr hs).mpr fun p hp=>(jUp f (k+1) r s hr hs).mp h p (by omega)
theorem kZm {p q:Nat->Bool}:∀l:List Nat,(∀x,x∈l->p x=true->q x=true)->l.countP p=l.countP q->∀x,x∈l->q x=true->p x=true
 | [],_,_,x,hx,_=>by cases hx
 | a::l,h,e,x,hx,hq=>by
  have hm:l.countP p<=l.countP q:=List.countP_mono_left fun x hx=>h x (lJx _ hx)
  rw[lXb,lXb] at e
  have h0:=h a lJu
  by_cases h1:p a=true
  ·rw[lJc h1,lJc (h0 h1)] at e
   rcases (lJl.mp hx) with rfl | z
   ·exact h1
   ·exact kZm l (fun x hx=>h x (lJx _ hx)) (by omega) x z hq
  ·by_cases h2:q a=true
   ·rw[lJb h1,lJc h2] at e;omega
   ·rw[lJb h1,lJb h2] at e
    rcases (lJl.mp hx) with rfl | z
    ·exact absurd hq h2
    ·exact kZm l (fun x hx=>h x (lJx _ hx)) (by omega) x z hq
open Classical in
def isLd (W:Web) (k r:Nat):Bool:=decide (∀s,s<r->¬ Alk W k r s)
theorem isLd_iff {W:Web} {k r:Nat}:isLd W k r=true↔∀s,s<r->¬ Alk W k r s:=by unfold isLd;simp only[lVa]
def cnt (W:Web) (k:Nat):Nat:=(List.range W.length).countP (isLd W k)
theorem uKd {W:Web} (f:Fine W) {k r:Nat} (hr:r<W.length) (h:isLd W k r=true):isLd W (k+1) r=true:=
 isLd_iff.mpr fun s hs z=>isLd_iff.mp h s hs (kQ6 f hr (by omega) z)
theorem cnt_up {W:Web} (f:Fine W) (k:Nat):cnt W k<=cnt W (k+1):=List.countP_mono_left fun x hx=>uKd f (lJy.mp hx)
theorem uKe {W:Web} {k:Nat}:∀(n r:Nat),r<=n->∃l,l<=r/\Alk W k r l/\isLd W k l=true
 | 0,r,h=>⟨r,lJh _,rfl,isLd_iff.mpr fun s hs=>by omega⟩
 | n+1,r,h=>by
  by_cases z:isLd W k r=true
  ·exact⟨r,lJh _,rfl,z⟩
  ·rw[isLd_iff] at z
   have⟨s,hs⟩:=Classical.not_forall.mp z
   have⟨h1,h2⟩:=Classical.not_imp.mp hs
   obtain⟨l,a1,a2,a3⟩:=uKe n s (by omega)
   exact⟨l,by omega,(lXw.mp h2).trans a2,a3⟩
theorem uJf {W:Web} (f:Fine W) {k:Nat} (e:cnt W k=cnt W (k+1)) {r s:Nat} (hr:r<W.length) (hs:s<W.length) (h:Alk W k r s):Alk W (k+1) r s:=by
 obtain⟨a,a1,a2,a3⟩:=uKe (W:=W) (k:=k+1) r r (lJh _)
 obtain⟨b,b1,b2,b3⟩:=uKe (W:=W) (k:=k+1) s s (lJh _)
 have la:=kZm _ (fun x hx=>uKd f (lJy.mp hx)) e a (lJy.mpr (by omega)) a3
 have lb:=kZm _ (fun x hx=>uKd f (lJy.mp hx)) e b (lJy.mpr (by omega)) b3
 have hab:Alk W k a b:=((kQ6 f hr (by omega) a2).symm.trans h).trans (kQ6 f hs (by omega) b2)
 have:a=b:=by
  rcases lQt a b with z | z | z
  ·exact absurd hab.symm (isLd_iff.mp lb a z)
  ·exact z
  ·exact absurd hab (isLd_iff.mp la b z)
 subst this
 exact a2.trans b2.symm
theorem qKj {W:Web} (f:Fine W) {k:Nat} (h:∀r s,r<W.length->s<W.length->Alk W k r s->Alk W (k+1) r s):∀(j r s:Nat),r<W.length->s<W.length->Alk W k r s->Alk W (k+j) r s
 | 0,_,_,_,_,z=>z
 | j+1,r,s,hr,hs,z=>by
  have z1:=h r s hr hs z
  have h1:=lJg hr
  have h2:=lJg hs
  obtain⟨c1,c2⟩:=(kJy f h1 h2).mp z1
  exact (kJy f h1 h2).mpr ⟨c1,fun i e g he hg=>⟨(c2 i e g he hg).1,qKj f h j e.1 g.1 (f.rng r i e.1 e.2 (jK1 h1 he)) (f.rng s i g.1 g.2 (jK1 h2 hg)) (c2 i e g he hg).2⟩⟩
noncomputable def PW2 (U V:Web):List Nat->Nat->Nat->Prop
 | [],r,s=>(row U r).length≠(row V s).length
 | d::p,r,s=>(row U r).length=(row V s).length/\∃e g,en U r d=some e/\en V s d=some g/\((e.2≠g.2/\p=[])\/(e.2=g.2/\PW2 U V p e.1 g.1))
theorem bothL {U V:Web} {r d:Nat} (h:r<U.length):en (both U V) r d=en U r d:=by unfold en;rw[jX5 h]
theorem bothR {U V:Web} {r d:Nat}:en (both U V) (U.length+r) d=(en V r d).map fun e=>(e.1+U.length,e.2):=by
 unfold en;rw[jVy]
 cases V[r]? with
 | none=>rfl
 | some es=>simp
theorem lenL {U V:Web} {r:Nat} (h:r<U.length):(row (both U V) r).length=(row U r).length:=by rw[row,row,jX5 h]
theorem lenR {U V:Web} {r:Nat}:(row (both U V) (U.length+r)).length=(row V r).length:=by
 rw[row,row,jVy]
 cases V[r]? with
 | none=>rfl
 | some es=>simp
theorem kQ8 {U V:Web} (fU:Fine U) (fV:Fine V):∀(p:List Nat) (r s:Nat),r<U.length->s<V.length->(PW2 U V p r s↔PW (both U V) p r (U.length+s))
 | [],r,s,hr,hs=>by rw[PW2,PW,lenL hr,lenR]
 | d::p,r,s,hr,hs=>by
  rw[PW2,PW,lenL hr,lenR,bothL hr,bothR]
  constructor
  ·rintro⟨h1,e,g,he,hg,z⟩
   refine⟨h1,e,(g.1+U.length,g.2),he,by rw[hg];rfl,?_⟩
   rcases z with z | ⟨z1,z2⟩
   ·exact .inl z
   ·refine .inr ⟨z1,?_⟩
    have:=(kQ8 fU fV p e.1 g.1 (fU.rng r d e.1 e.2 he) (fV.rng s d g.1 g.2 hg)).mp z2
    rw[Nat.add_comm] at this;exact this
  ·rintro⟨h1,e,g',he,hg',z⟩
   obtain⟨g,hg,rfl⟩:=lKg.mp hg'
   refine⟨h1,e,g,he,hg,?_⟩
   rcases z with z | ⟨z1,z2⟩
   ·exact .inl z
   ·refine .inr ⟨z1,(kQ8 fU fV p e.1 g.1 (fU.rng r d e.1 e.2 he) (fV.rng s d g.1 g.2 hg)).mpr ?_⟩
    rw[Nat.add_comm];exact z2
theorem dm {e g n:Nat} (h:g<n):(e*n+g) / n=e/\(e*n+g)%n=g:=by
 rw[lQz]
 exact⟨by rw[Nat.mul_add_div (by omega),lXe h];omega,by rw[Nat.mul_add_mod,lQa h]⟩
theorem jYx {W:Web} {r d:Nat}:en W r d=(row W r)[d]? :=by
 unfold en row
 cases W[r]? with
 | none=>rfl
 | some es=>rfl
theorem qZv:∀u v:List Nat,u.length=v.length->lx u v\/u=v\/lx v u
 | [],[],_=> .inr (.inl rfl)
 | [],_::_,h=>by simp at h
 | _::_,[],h=>by simp at h
 | a::u,b::v,h=>by
  rcases lQt a b with z | z | z
  ·exact .inl (.inl z)
  ·subst z
   rcases qZv u v (by simpa using h) with y | y | y
   ·exact .inl (.inr ⟨rfl,y⟩)
   ·exact .inr (.inl (by rw[y]))
   ·exact .inr (.inr (.inr ⟨rfl,y⟩))
  ·exact .inr (.inr (.inl z))
theorem uJc (u v:List Nat):slt u v\/u=v\/slt v u:=by
 rcases lQt u.length v.length with z | z | z
 ·exact .inl (.inl z)
 ·rcases qZv u v z with y | y | y
  ·exact .inl (.inr ⟨z,y⟩)
  ·exact .inr (.inl y)
  ·exact .inr (.inr (.inr ⟨z.symm,y⟩))
 ·exact .inr (.inr (.inl z))
def kUt (U V:Web):Web:=(List.range (U.length*V.length)).map fun x=>((row U (x / V.length)).zip (row V (x%V.length))).map fun p=>(p.1.1*V.length+p.2.1,0)
theorem qQi {U V:Web} {x:Nat} (h:x<U.length*V.length):(kUt U V)[x]? =some (((row U (x / V.length)).zip (row V (x%V.length))).map fun p=>(p.1.1*V.length+p.2.1,0)):=by simp[kUt,h]
theorem kX4 {U V:Web} {x d:Nat} {e g:Nat×Nat} (h:x<U.length*V.length) (he:en U (x / V.length) d=some e) (hg:en V (x%V.length) d=some g):en (kUt U V) x d=some (e.1*V.length+g.1,0):=by
 rw[jYx] at he hg
 refine jK1 (qQi h) ?_
 rw[lJn,lXa (z:=(e,g)) |>.mpr ⟨he,hg⟩];rfl
theorem kX3 {U V:Web} {x d y j:Nat} (h:en (kUt U V) x d=some (y,j)):∃e g,en U (x / V.length) d=some e/\en V (x%V.length) d=some g/\y=e.1*V.length+g.1/\x<U.length*V.length:=by
 obtain⟨es,h1,h2⟩:=jK0 h
 have hx:x<U.length*V.length:=by have:=(lJe.mp h1).1;simpa[kUt] using this
 rw[qQi hx] at h1
 cases h1
 rw[lJn] at h2
 obtain⟨p,hp,e⟩:=lKg.mp h2
 obtain⟨z1,z2⟩:=lXa.mp hp
 exact⟨p.1,p.2,by rw[jYx];exact z1,by rw[jYx];exact z2,(lJ5 Prod.fst e).symm,hx⟩
noncomputable def PX (X:Nat->Nat->Prop) (U V:Web):List Nat->Nat->Nat->Prop
 | [],r,s=>X r s
 | d::p,r,s=>¬ X r s/\∃e g,en U r d=some e/\en V s d=some g/\((e.2≠g.2/\p=[])\/(e.2=g.2/\PX X U V p e.1 g.1))
def XL (U V:Web) (r s:Nat):Prop:=(row U r).length≠(row V s).length
theorem qVr {U V:Web}:∀(p:List Nat) (r s:Nat),PX (XL U V) U V p r s↔PW2 U V p r s
 | [],r,s=>by rw[PX,PW2,XL]
 | d::p,r,s=>by
  rw[PX,PW2,XL]
  simp only[ne_eq,Decidable.not_not,qVr p]
def Bad (X:Nat->Nat->Prop) (U V:Web) (r s d:Nat):Prop:=∃e g,en U r d=some e/\en V s d=some g/\(e.2≠g.2\/X e.1 g.1)
noncomputable def Go (X:Nat->Nat->Prop) (U V:Web):List Nat->Nat->Nat->Nat->Nat->Prop
 | [],a,b,r,s=>a=r/\b=s/\¬ X a b
 | d::u,a,b,r,s=>¬ X a b/\∃e g,en U a d=some e/\en V b d=some g/\e.2=g.2/\Go X U V u e.1 g.1 r s
theorem qUh {X:Nat->Nat->Prop} {U V:Web} {r s d:Nat} {e g:Nat×Nat} (he:en U r d=some e) (hg:en V s d=some g) (h2:e.2=g.2) (hX:¬ X e.1 g.1):∀ {u:List Nat} {a b:Nat},Go X U V u a b r s->Go X U V (u++[d]) a b e.1 g.1
 | [],a,b,h=>by
  obtain⟨rfl,rfl,h0⟩:=h
  exact⟨h0,e,g,he,hg,h2,rfl,rfl,hX⟩
 | c::u,a,b,h=>by
  obtain⟨h0,e',g',h1,h3,h4,h5⟩:=h
  exact⟨h0,e',g',h1,h3,h4,qUh he hg h2 hX h5⟩
theorem go_px {X:Nat->Nat->Prop} {U V:Web} {r s d:Nat} (hb:Bad X U V r s d):∀ {u:List Nat} {a b:Nat},Go X U V u a b r s->PX X U V (u++[d]) a b
 | [],a,b,h=>by
  obtain⟨rfl,rfl,h0⟩:=h
  obtain⟨e,g,he,hg,z⟩:=hb
  refine⟨h0,e,g,he,hg,?_⟩
  by_cases y:e.2=g.2
  ·exact .inr ⟨y,z.resolve_left fun q=>q y⟩
  ·exact .inl ⟨y,rfl⟩
 | c::u,a,b,h=>by
  obtain⟨h0,e',g',h1,h3,h4,h5⟩:=h
  exact⟨h0,e',g',h1,h3,.inr ⟨h4,go_px hb h5⟩⟩
theorem qQh {U V:Web} (fU:Fine U) (fV:Fine V) {x d:Nat} {e g:Nat×Nat} (he:en U (x / V.length) d=some e) (hg:en V (x%V.length) d=some g):e.1*V.length+g.1<U.length*V.length/\(e.1*V.length+g.1) / V.length=e.1/\(e.1*V.length+g.1)%V.length=g.1:=by
 have h1:=fU.rng _ _ e.1 e.2 he
 have h2:=fV.rng _ _ g.1 g.2 hg
 refine⟨?_,dm h2⟩
 calc e.1*V.length+g.1<e.1*V.length+V.length:=by omega
  _=(e.1+1)*V.length:=by rw[Nat.add_mul,Nat.one_mul]
  _<=U.length*V.length:=lV1 _ h1
theorem kQp {X:Nat->Nat->Prop} {U V:Web} (fU:Fine U) (fV:Fine V):∀(p:List Nat) (x:Nat),x<U.length*V.length->PX X U V p (x / V.length) (x%V.length)->¬ X (x / V.length) (x%V.length)->∃u d y,p=u++[d]/\kUe (kUt U V) x u y/\Bad X U V (y / V.length) (y%V.length) d
 | [],x,hx,h,hn=>absurd h hn
 | d::q,x,hx,h,hn=>by
  obtain⟨_,e,g,he,hg,z⟩:=h
  rcases z with ⟨z1,rfl⟩ | ⟨z1,z2⟩
  ·exact⟨[],d,x,rfl,rfl,e,g,he,hg,.inl z1⟩
  ·by_cases hX:X e.1 g.1
   ·cases q with
    | nil=>exact⟨[],d,x,rfl,rfl,e,g,he,hg,.inr hX⟩
    | cons c q=>exact absurd hX z2.1
   ·obtain⟨l1,l2,l3⟩:=qQh fU fV he hg
    obtain⟨u,c,y,h1,h2,h3⟩:=kQp fU fV q (e.1*V.length+g.1) l1 (by rw[l2,l3];exact z2) (by rw[l2,l3];exact hX)
    exact⟨d::u,c,y,by rw[h1];rfl,⟨_,_,kX4 hx he hg,h2⟩,h3⟩
structure Wk (X:Nat->Nat->Prop) (U V:Web) (a b i j:Nat) (P:List PE):Prop where
 tr:Tr (kUt U V) (a*V.length+b) i j P
 go:∀q,q∈P->q.1<U.length*V.length/\Go X U V q.2.2 a b (q.1 / V.length) (q.1%V.length)
 ok:∀(k:Nat) (q:PE) (d:Nat),(k<i\/(k=i/\d<j))->P[k]? =some q->¬ Bad X U V (q.1 / V.length) (q.1%V.length) d
theorem qVw {X:Nat->Nat->Prop} {U V:Web} {a b:Nat} (ha:a<U.length) (hb:b<V.length) (h:¬ X a b):Wk X U V a b 0 0 [(a*V.length+b,none,[])] where
 tr:=qVz
 go:=fun q hq=>by
  rw[(lJ1.mp hq)]
  obtain⟨d1,d2⟩:=dm (e:=a) hb
  refine⟨?_,by rw[d1,d2];exact⟨rfl,rfl,h⟩⟩
  calc a*V.length+b<a*V.length+V.length:=by omega
   _=(a+1)*V.length:=by rw[Nat.add_mul,Nat.one_mul]
   _<=U.length*V.length:=lV1 _ ha
 ok:=fun k q d h=>by omega
theorem Wk.ok_step {X:Nat->Nat->Prop} {U V:Web} {a b i j:Nat} {P:List PE} {x:PE} (w:Wk X U V a b i j P) (hx:P[i]? =some x) (hb:¬ Bad X U V (x.1 / V.length) (x.1%V.length) j):∀(k:Nat) (q:PE) (d:Nat),(k<i\/(k=i/\d<j+1))->P[k]? =some q->¬ Bad X U V (q.1 / V.length) (q.1%V.length) d:=by
 intro k q d h hq
 by_cases z:k=i/\d=j
 ·obtain⟨rfl,rfl⟩:=z
  rw[hx] at hq;cases hq;exact hb
 ·exact w.ok k q d (by omega) hq
theorem Wk.skip {X:Nat->Nat->Prop} {U V:Web} {a b i j:Nat} {P:List PE} {x:PE} {e g:Nat×Nat} (w:Wk X U V a b i j P) (hx:P[i]? =some x) (he:en U (x.1 / V.length) j=some e) (hg:en V (x.1%V.length) j=some g) (hb:¬ Bad X U V (x.1 / V.length) (x.1%V.length) j) (hy:e.1*V.length+g.1∈P.map Prod.fst):Wk X U V a b i (j+1) P where
 tr:=w.tr.skip hx (kX4 (w.go x (lJi hx)).1 he hg) hy
 go:=w.go
 ok:=w.ok_step hx hb
theorem Wk.add {X:Nat->Nat->Prop} {U V:Web} (fU:Fine U) (fV:Fine V) {a b i j:Nat} {P:List PE} {x:PE} {e g:Nat×Nat} (w:Wk X U V a b i j P) (hx:P[i]? =some x) (he:en U (x.1 / V.length) j=some e) (hg:en V (x.1%V.length) j=some g) (hb:¬ Bad X U V (x.1 / V.length) (x.1%V.length) j) (hy:e.1*V.length+g.1∉P.map Prod.fst):Wk X U V a b i (j+1) (P++[(e.1*V.length+g.1,some (x.1,j),x.2.2++[j])]) where
 tr:=w.tr.add hx (kX4 (w.go x (lJi hx)).1 he hg) hy
 go:=fun q hq=>by
  rcases (lKh.mp hq) with hq | hq
  ·exact w.go q hq
  ·rw[lJ1.mp hq]
   obtain⟨l1,l2,l3⟩:=qQh fU fV he hg
   refine⟨l1,?_⟩
   show Go X U V (x.2.2++[j]) a b ((e.1*V.length+g.1) / V.length) ((e.1*V.length+g.1)%V.length)
   rw[l2,l3]
   refine qUh he hg (lKv fun z=>hb ⟨e,g,he,hg,.inl z⟩) (fun z=>hb ⟨e,g,he,hg,.inr z⟩) (w.go x (lJi hx)).2
 ok:=fun k q d h hq=>by
  have hi:i<P.length:=(lJe.mp hx).1
  rw[lKr (by omega)] at hq
  exact w.ok_step hx hb k q d h hq
theorem Wk.next {X:Nat->Nat->Prop} {U V:Web} {a b i n:Nat} {P:List PE} {x:PE} (w:Wk X U V a b i n P) (hx:P[i]? =some x) (hn:(row U (x.1 / V.length)).length<=n):Wk X U V a b (i+1) 0 P where
 tr:=w.tr.next hx fun d e h=>by
  obtain⟨e',g,h1,_⟩:=kX3 (j:=e.2) (y:=e.1) h
  rw[jYx] at h1
  have:=(lJe.mp h1).1
  omega
 go:=w.go
 ok:=fun k q d h hq=>by
  by_cases z:k=i
  ·subst z
   rw[hx] at hq;cases hq
   by_cases y:d<n
   ·exact w.ok k x d (.inr ⟨rfl,y⟩) hx
   ·rintro⟨e,g,h1,_⟩
    rw[jYx] at h1
    have:=(lJe.mp h1).1
    omega
  ·exact w.ok k q d (by omega) hq
theorem Wk.seen {X:Nat->Nat->Prop} {U V:Web} {a b i j:Nat} {P:List PE} {x:PE} (w:Wk X U V a b i j P) (hx:P[i]? =some x):∀(n:Nat) (u:List Nat) (d y:Nat),u.length=n->kUe (kUt U V) (a*V.length+b) u y->slt (u++[d]) (x.2.2++[j])->∃(k:Nat) (q:PE),(k<i\/(k=i/\d<j))/\P[k]? =some q/\q.1=y/\sle q.2.2 u:=by
 intro n
 have place:∀(u:List Nat) (d y:Nat) (q:PE),q∈P->q.1=y->sle q.2.2 u->slt (u++[d]) (x.2.2++[j])->∃(k:Nat) (q:PE),(k<i\/(k=i/\d<j))/\P[k]? =some q/\q.1=y/\sle q.2.2 u:=by
  intro u d y q hq h1 h2 h3
  obtain⟨k,hk⟩:=lKc hq
  refine⟨k,q,?_,hk,h1,h2⟩
  have h4:slt (q.2.2++[d]) (x.2.2++[j]):=by
   rcases kQa (d:=d) h2 with z | z
   ·rw[z];exact h3
   ·exact jVk z h3
  rcases lQt k i with z | z | z
  ·exact .inl z
  ·subst z
   rw[hx] at hk;cases hk
   refine .inr ⟨rfl,?_⟩
   rcases lQt d j with y | y | y
   ·exact y
   ·subst y;exact (kV5 h4).elim
   ·exact (kV5 (jVk h4 (kYo y))).elim
  ·exact (kV5 (jVk h4 (kK8 (w.tr.inc i k x q z hx hk)))).elim
 induction n with
 | zero=>
  intro u d y hn hl h
  have:u=[]:=lQh.mp hn
  subst this
  exact place [] d y _ (lJi w.tr.zero) (show a*V.length+b=y from hl) (.inl rfl) h
 | succ n ih=>
  intro u d y hn hl h
  rcases List.eq_nil_or_concat u with rfl | ⟨u',c,rfl⟩
  ·simp at hn
  ·rw[List.concat_eq_append] at hl hn h ⊢
   obtain⟨z,m,h1,h2⟩:=jYl hl
   have h3:slt (u'++[c]) (x.2.2++[j]):=jVk (.inl (by simp)) h
   obtain⟨k,q,hk,hq,rfl,hs⟩:=ih u' c z (by simpa using hn) h1 h3
   obtain⟨q',a1,a2,a3⟩:=w.tr.cl k q c y m hk hq h2
   exact place _ d y q' a1 a2 (kUl a3 (kQa hs)) h
def Lst (X:Nat->Nat->Prop) (U V:Web) (a b:Nat):Option (List Nat)->Prop
 | none=>∀p,¬ PX X U V p a b
 | some p=>PX X U V p a b/\∀q,PX X U V q a b->sle p q
theorem Wk.found {X:Nat->Nat->Prop} {U V:Web} (fU:Fine U) (fV:Fine V) {a b i j:Nat} {P:List PE} {x:PE} (ha:a<U.length) (hb:b<V.length) (w:Wk X U V a b i j P) (hx:P[i]? =some x) (hbad:Bad X U V (x.1 / V.length) (x.1%V.length) j):Lst X U V a b (some (x.2.2++[j])):=by
 refine⟨go_px hbad (w.go x (lJi hx)).2,fun p hp=> ?_⟩
 obtain⟨d1,d2⟩:=dm (e:=a) hb
 have h0:=(w.go _ (lJi w.tr.zero))
 rw[d1,d2] at h0
 obtain⟨u,d,y,rfl,hl,hB⟩:=kQp fU fV p (a*V.length+b) h0.1 (by rw[d1,d2];exact hp) (by rw[d1,d2];exact h0.2.2.2)
 by_cases z:slt (u++[d]) (x.2.2++[j])
 ·obtain⟨k,q,hk,hq,rfl,_⟩:=w.seen hx _ u d y rfl hl z
  exact absurd hB (w.ok k q d hk hq)
 ·rcases uJc (x.2.2++[j]) (u++[d]) with h | h | h
  ·exact .inr h
  ·exact .inl h
  ·exact absurd h z
theorem Wk.none {X:Nat->Nat->Prop} {U V:Web} (fU:Fine U) (fV:Fine V) {a b:Nat} {P:List PE} (ha:a<U.length) (hb:b<V.length) (w:Wk X U V a b P.length 0 P):Lst X U V a b none:=by
 intro p hp
 obtain⟨d1,d2⟩:=dm (e:=a) hb
 have h0:=(w.go _ (lJi w.tr.zero))
 rw[d1,d2] at h0
 obtain⟨u,d,y,rfl,hl,hB⟩:=kQp fU fV p (a*V.length+b) h0.1 (by rw[d1,d2];exact hp) (by rw[d1,d2];exact h0.2.2.2)
 obtain⟨q,hq,rfl,_⟩:=w.tr.all _ u y rfl hl
 obtain⟨k,hk⟩:=lKc hq
 exact w.ok k q d (.inl (lJe.mp hk).1) hk hB
theorem Wk.len {X:Nat->Nat->Prop} {U V:Web} {a b i j:Nat} {P:List PE} (w:Wk X U V a b i j P):P.length<=U.length*V.length:=by
 have:=jX1 w.tr.nd (n:=U.length*V.length) fun y hy=>by
  obtain⟨q,hq,rfl⟩:=lJk.mp hy
  exact (w.go q hq).1
 simpa using this
theorem Wk.wlen {X:Nat->Nat->Prop} {U V:Web} {a b i' j':Nat} {P:List PE} (w:Wk X U V a b i' j' P):∀(i:Nat) (p:PE),P[i]? =some p->p.2.2.length<=i:=by
 intro i
 induction i using Nat.strongRecOn with
 | ind i ih=>
  intro p hp
  rcases w.tr.par p (lJi hp) with rfl | ⟨k,q,d,_,hq,_,e⟩
  ·simp
  ·rw[e,lKf]
   have hki:k<i:=by
    rcases lQt k i with z | z | z
    ·exact z
    ·subst z
     rw[hp] at hq;cases hq
     have:=lJ5 List.length e
     simp at this
    ·have:=w.tr.inc i k p q z hp hq
     rw[e] at this
     rcases this with this | ⟨this,_⟩<;>simp at this
     omega
   have:=ih k hki q hq
   simp;omega
theorem kJo:∀a b:List Nat,eqTs (jJk a) (jJk b)=decide (a=b)
 | [],[]=>rfl
 | [],_::_=>rfl
 | _::_,[]=>rfl
 | x::a,y::b=>by
  show (eqT (.int x) (.int y)&&eqTs (jJk a) (jJk b))=_
  rw[kJo a b]
  by_cases h:x=y
  ·subst h
   by_cases h2:a=b
   ·subst h2;simp[eqT]
   ·simp[eqT,h2]
  ·have:¬ (x:Int)=y:=by omega
   simp[eqT,h,this]
theorem qQg {K:Type} [DecidableEq K] {kvs:List (K×T)} {k:K} {v:T} (h:valT kvs k=none):putT kvs k v=kvs++[(k,v)]:=by
 unfold putT
 rw[lJb]
 intro z
 rw[List.any_eq_true] at z
 obtain⟨p,hp,e⟩:=z
 unfold valT at h
 rw[Option.map_eq_none_iff,List.find?_eq_none] at h
 exact h p hp e
theorem qYs {G:Gp} {a b:List Nat}:eqG G (.tup (jJk a)) (.tup (jJk b))=some (decide (a=b)):=by
 have ok:∀w:List Nat,eqOk (.tup (jJk w))=true:=fun w=>by
  obtain⟨a1,a2,a3,a4⟩:=okW w
  unfold eqOk
  rw[show tree (.tup (jJk w))=true from a1,show (td (.tup (jJk w))).canLay0=true by rw[td,PyData.canLay0];exact a2,lKa (show (td (.tup (jJk w))).depth<=50 by rw[td,PyData.depth];omega)];rfl
 show (if eqOk (.tup (jJk a))=true/\eqOk (.tup (jJk b))=true then some (eqT (.tup (jJk a)) (.tup (jJk b))) else none)=_
 rw[lJc ⟨ok a,ok b⟩,<-kJo];rfl
def kQu (st:Bool) (w:Web) (f:Nat) (e:Nat×Nat):List Nat:=if st=true then [e.2,(row w e.1).length,if e.1=f then 1 else 0] else [e.2,(row w e.1).length]
noncomputable def jZs:Sp3:=fun xs G Q=>∃(w:Web) (f:Nat) (e:Nat×Nat) (st:Bool),xs=[encW w,.int f,encE e,.bl st]/\e.1<w.length/\w.length<=1000/\(∀(r:Nat) (es:List (Nat×Nat)),w[r]? =some es->es.length<=1000)/\∀G',Sub G G'->Q (.tup (jJk (kQu st w f e))) G'
def N_look:List Str:=["web","first","end","stone"]
noncomputable def kQj:TS3:=
 (tSeq (tIfS (tTru rTru (tVar 3)) (tRet (tTup (jJc (tOp rIxF (tVar 2) (tC (.int 1))) (jJc (tCB rLen (jJc (tOp rIxF (tVar 0) (tOp rIxF (tVar 2) (tC (.int 0)))) tNil)) (jJc (tIf (jJ1 (tOp rEqA (tOp rIxF (tVar 2) (tC (.int 0))) (tVar 1))) (tC (.int 1)) (tC (.int 0))) tNil))))) jKr)
 (tRet (tTup (jJc (tOp rIxF (tVar 2) (tC (.int 1))) (jJc (tCB rLen (jJc (tOp rIxF (tVar 0) (tOp rIxF (tVar 2) (tC (.int 0)))) tNil)) tNil)))))
theorem qK7:RdOk jZs kQj N_look:=by
 intro xs G Q h_;apply xe4 h_;clear h_;intro w f e st h_;apply ae4 h_;clear h_;intro he hw hd kk
 show kQj _ [some (encW w),some (.int f),some (encE e),some (.bl st)] G
 have hs:=sz
 obtain⟨es,h1⟩:∃es,w[e.1]? =some es:=⟨_,lJg he⟩
 have h2:=hd _ _ h1
 have hk:=kk G (.refl G)
 rw[kQu,row,h1] at hk
 cases st with
 | false=>
  wp_walk using 1,kQj,encE,encW
  refine⟨encR es,L2.atI_nat (by rw[lJn,h1];rfl),es.map encE,rfl,by omega,?_⟩
  simpa[jJk] using hk
 | true=>
  wp_walk using 1,kQj,encE,encW,rEqA
  refine⟨encR es,L2.atI_nat (by rw[lJn,h1];rfl),es.map encE,rfl,?_⟩
  refine⟨decide (e.1=f),jU8,?_⟩
  by_cases z:e.1=f
  ·rw[lJc (lKa z)]
   rw[lJc z] at hk
   exact⟨by omega,by simpa[jJk] using hk⟩
  ·rw[lJb (by simpa using z)]
   rw[lJb z] at hk
   exact⟨by omega,by simpa[jJk] using hk⟩
theorem qZ1 {X:Nat->Nat->Prop} {U V:Web} {r s:Nat}:∀ {u:List Nat} {a b:Nat},Go X U V u a b r s->¬ X r s
 | [],_,_,h=>by obtain⟨rfl,rfl,h⟩:=h;exact h
 | _::_,_,_,h=>by obtain⟨_,_,_,_,_,_,h⟩:=h;exact qZ1 h
theorem qVp {G:Gp} {u:List Nat} {j:Nat} {Q:VK3} (h:u.length+1<=sizeLine) (q:Q (wayT (u++[j])) G):qXi (.tup (jJk u)) (.tup [.int (j:Nat)]) G Q:=by
 cases u with
 | nil=>exact .inr ⟨[.int j],rfl,rfl,q⟩
 | cons c u=>
  refine .inl ⟨.val (wayT (c::u++[j])),?_,q⟩
  have:u.length+1+1<=sizeLine:=h
  simp[addR,jJk,wayT,this]
def XS (st:Bool) (U V:Web) (a b r s:Nat):Prop:=(row U r).length≠(row V s).length\/(st=true/\¬ (r=a↔s=b))
theorem qY9 {st:Bool} {U V:Web} {a b:Nat}:XS st U V a b a b↔(row U a).length≠(row V b).length:=by simp[XS]
theorem qZa {U V:Web} {a b:Nat}:XS false U V a b=XL U V:=by
 funext r s;simp[XS,XL]
theorem uKa {st:Bool} {U V:Web} {a b:Nat} {e g:Nat×Nat}:kQu st U a e=kQu st V b g↔¬ (e.2≠g.2\/XS st U V a b e.1 g.1):=by
 unfold kQu XS
 cases st with
 | false=>simp
 | true=>
  by_cases z:e.1=a<;>by_cases y:g.1=b<;>simp[z,y]
def prs (n:Nat) (p:PE):Nat×Nat:=(p.1 / n,p.1%n)
def pkv (n:Nat) (P:List PE):List (L2.TKey×T):=P.map fun p=>(keyE (prs n p),T.bl true)
def lvT (n:Nat) (p:PE):T:= .tup [encE (prs n p),wayT p.2.2]
theorem kZx {K:Type} [DecidableEq K] {kvs:List (K×T)} {k:K}:(valT kvs k).isSome=true↔k∈kvs.map Prod.fst:=by
 unfold valT
 rw[Option.isSome_map,List.find?_isSome,lJk]
 exact⟨fun ⟨a,h1,h2⟩=>⟨a,h1,by simpa using h2⟩,fun ⟨a,h1,h2⟩=>⟨a,h1,by simpa using h2⟩⟩
theorem uJt {n r s:Nat} {P:List PE} (hs:s<n):keyE (r,s)∈(pkv n P).map Prod.fst↔r*n+s∈P.map Prod.fst:=by
 rw[pkv,lJ6,lJk,lJk]
 constructor
 ·rintro⟨p,hp,e⟩
  have:=kY6 e
  refine⟨p,hp,?_⟩
  have h1:p.1 / n=r:=lJ5 Prod.fst this
  have h2:p.1%n=s:=lJ5 Prod.snd this
  rw[<-h1,<-h2,lQz];exact (Nat.div_add_mod p.1 n).symm
 ·rintro⟨p,hp,e⟩
  refine⟨p,hp,?_⟩
  obtain⟨d1,d2⟩:=dm (e:=r) hs
  show keyE (p.1 / n,p.1%n)=_
  rw[e,d1,d2]
theorem qY1 {G:Gp} {d:Addr} {kvs:List (L2.TKey×T)} {e:Nat×Nat} (h:G d=some (.dct kvs)):inR G (.tup [.int e.1,.int e.2]) (.ref d)=some (valT kvs (keyE e)).isSome:=by
 have h1:seqT G (.ref d)=none:=by simp only[seqT,h,asL]
 have h2:=qU6 (ks:=keyE e) (ys:=[.int e.1,.int e.2]) h jUv
 unfold inR;rw[h1,h2]
noncomputable def jUg:Sp3:=fun xs G Q=>∃(U V:Web) (a b:Nat) (st:Bool),xs=[encW U,.int a,encW V,.int b,.bl st]/\Fine U/\Fine V/\a<U.length/\b<V.length/\U.length*V.length<=5000/\∀o d P G',Lst (XS st U V a b) U V a b o->G d=none->G' d=some (.dct (pkv V.length P))->(o=none->Wk (XS st U V a b) U V a b P.length 0 P)->Sub G G'->Q (.tup [oWay o,.ref d]) G'
def kUa:List Str:=["one","a","other","b","stone","pairs","level","further","pair","way","door","left","right","come_to"]
noncomputable def jUj:TS3:=
 (tSeq (tAsg (kV1 (tTup (jJc (tVar 1) (jJc (tVar 3) tNil))) (tC (.bl true))) (jJi 5))
 (tSeq (tIfS (jJ1 (tOp rNeA (tCB rLen (jJc (tOp rIxF (tVar 0) (tVar 1)) tNil)) (tCB rLen (jJc (tOp rIxF (tVar 2) (tVar 3)) tNil)))) (tRet (tTup (jJc (tTup tNil) (jJc (tVar 5) tNil)))) jKr)
 (tSeq (tAsg (tLst (jJc (tTup (jJc (tTup (jJc (tVar 1) (jJc (tVar 3) tNil))) (jJc (tTup tNil) tNil))) tNil)) (jJi 6))
 (tSeq (jZq (tTru rTru (tVar 6)) (tSeq (tAsg (tLst tNil) (jJi 7))
 (tSeq (tFor (iSeq (tVar 6)) (gTup 2 (jKl (jJi 8) (jKl (jJi 9) gNil))) (tFor (iEnT (jJc (tOp rIxF (tVar 0) (tOp rIxF (tVar 8) (tC (.int 0)))) tNil)) (gTup 2 (jKl (jJi 10) (jKl (jJi 11) gNil))) (tSeq (tAsg (tOp rIxF (tOp rIxF (tVar 2) (tOp rIxF (tVar 8) (tC (.int 1)))) (tVar 10)) (jJi 12))
 (tSeq (tIfS (jJ1 (tOp rNeA (jJr jZs (jJc (tVar 0) (jJc (tVar 1) (jJc (tVar 11) (jJc (tVar 4) tNil))))) (jJr jZs (jJc (tVar 2) (jJc (tVar 3) (jJc (tVar 12) (jJc (tVar 4) tNil))))))) (tRet (tTup (jJc (tOp qXi (tVar 9) (tTup (jJc (tVar 10) tNil))) (jJc (tVar 5) tNil)))) jKr)
 (tSeq (tAsg (tTup (jJc (tOp rIxF (tVar 11) (tC (.int 0))) (jJc (tOp rIxF (tVar 12) (tC (.int 0))) tNil))) (jJi 13))
 (tIfS (jJ1 (tOp jXx (tVar 13) (tVar 5))) (tSeq (tAsg (tC (.bl true)) (gSub (tVar 5) (tVar 13) jVs))
 (jK2 (tBM "list" jJ8 (tVar 7) (jJc (tTup (jJc (tVar 13) (jJc (tOp qXi (tVar 9) (tTup (jJc (tVar 10) tNil))) tNil))) tNil)))) jKr))))))
 (tAsg (tVar 7) (jJi 6)))))
 (tRet (tTup (jJc (tC .non) (jJc (tVar 5) tNil))))))))
theorem jY1:RdOk jUg jUj kUa:=by
 intro xs G Q h_;apply xe5 h_;clear h_;intro U V a b st h_;apply ae6 h_;clear h_;intro fU fV ha hb huv kk
 show jUj _ [some (encW U),some (.int a),some (encW V),some (.int b),some (.bl st),none,none,none,none,none,none,none,none,none] G
 have hs:=sz
 obtain⟨es,hU⟩:∃es,U[a]? =some es:=⟨_,lJg ha⟩
 obtain⟨fs,hV⟩:∃fs,V[b]? =some fs:=⟨_,lJg hb⟩
 have hul:=fU.row _ _ hU
 have hvl:=fV.row _ _ hV
 wp_walk using 1,jUj,jZq,jJw,kV1,iSeq,iEnT,encW,rNeA
 intro d hd
 refine⟨by omega,keyE (a,b),jUv,encR es,jKz hU,es.map encE,rfl,encR fs,jKz hV,fs.map encE,rfl,?_⟩
 simp only[lJf]
 refine⟨decide (es.length=fs.length),jU8,?_⟩
 have hX:XS st U V a b a b↔es.length≠fs.length:=by rw[qY9,jYp hU,jYp hV]
 by_cases hX0:¬ es.length=fs.length
 ·rw[lJc (by simpa using hX0)]
  refine⟨by omega,by omega,kk (some []) d [(a*V.length+b,none,[])] _ ⟨hX.mpr hX0,fun q hq=> ?_⟩ hd ?_ (fun z=>by cases z) (.new hd)⟩
  ·cases q with
   | nil=>exact .inl rfl
   | cons c q=>exact .inr (.inl (by simp))
  ·rw[jJg];simp[pkv,prs,dm hb]
 replace hX0:=Decidable.not_not.mp hX0
 rw[lJb (by simpa using hX0)]
 refine⟨by omega,by omega,by omega,by omega,fun l hl0=> ?_⟩
 have hdl:d≠l:=jJf jJg hl0
 have wk0:Wk (XS st U V a b) U V a b 0 0 [(a*V.length+b,none,[])]:=qVw ha hb (fun z=>hX.mp z hX0)
 let J1:Nat->St3->Gp->Prop:=fun m τ G'=>∃(i:Nat) (l:Addr) (v7 v8 v9 v10 v11 v12 v13:Option T) (P:List PE),τ=[some (.tup (U.map encR)),some (.int a),some (.tup (V.map encR)),some (.int b),some (.bl st),some (.ref d),some (.ref l),v7,v8,v9,v10,v11,v12,v13]/\d≠l/\G l=none/\G' d=some (.dct (pkv V.length P))/\Wk (XS st U V a b) U V a b i 0 P/\G' l=some (.lst ((P.drop i).map (lvT V.length)))/\i<=P.length/\Sub G G'/\m=U.length*V.length-i
 refine⟨J1,?_,?_⟩
 ·refine⟨_,xi10 0 l none none none none none none none _ rfl ⟨hdl,?_,?_,wk0,?_,lJs _,(Sub.new hd).trans (.new hl0),rfl⟩⟩
  ·rw[jJm hdl.symm] at hl0;exact hl0
  ·rw[jJm hdl,jJg];simp[pkv,prs,dm hb]
  ·rw[jJg];simp[lvT,prs,dm hb,encE,wayT,jJk]
 intro m τ G1 h_;apply xe10 h_;clear h_;intro i l v7 v8 v9 v10 v11 v12 v13 P h_;apply ae8 h_;clear h_;intro hdl hl0 h1 hW h2 hiP hs1 e7_
 subst e7_
 have hPl:=hW.len
 wp_walk using 1,h2
 split
 ·rename_i hne
  have hiP':i<P.length:=by
   rcases lKk i P.length with z | z
   ·exact z
   ·rw[List.drop_of_length_le z] at hne;simp at hne
  let J2:St3->Gp->Prop:=fun τ' G'=>∃(l':Addr) (v7 v8 v9 v10 v11 v12 v13:Option T) (P':List PE),τ'=[some (.tup (U.map encR)),some (.int a),some (.tup (V.map encR)),some (.int b),some (.bl st),some (.ref d),some (.ref l'),v7,v8,v9,v10,v11,v12,v13]/\d≠l'/\G l'=none/\G' d=some (.dct (pkv V.length P'))/\Wk (XS st U V a b) U V a b P.length 0 P'/\G' l'=some (.lst ((P'.drop P.length).map (lvT V.length)))/\P.length<=P'.length/\Sub G G'
  refine⟨J2,?_,by omega,fun p hp=> ?_⟩
  ·intro τ' G' h_;apply xe9 h_;clear h_;intro l' v7 v8 v9 v10 v11 v12 v13 P' h_;apply ae7 h_;clear h_;intro i1 i2 i3 i4 i5 i6 i7
   exact⟨_,by omega,xi10 P.length l' v7 v8 v9 v10 v11 v12 v13 P' rfl ⟨i1,i2,i3,i4,i5,i6,i7,rfl⟩⟩
  ·have hpd:d≠p:=jJf h1 hp
   have hpl:l≠p:=jJf h2 hp
   have hp0:=jY9 hs1 hp
   refine⟨(P.drop i).map (lvT V.length),jJn (by rw[jJm hpl];exact h2),?_⟩
   let J3:Nat->St3->Gp->Prop:=fun k τ G'=>∃(v8 v9 v10 v11 v12 v13:Option T) (P':List PE),τ=[some (.tup (U.map encR)),some (.int a),some (.tup (V.map encR)),some (.int b),some (.bl st),some (.ref d),some (.ref l),some (.ref p),v8,v9,v10,v11,v12,v13]/\G' d=some (.dct (pkv V.length P'))/\Wk (XS st U V a b) U V a b (i+k) 0 P'/\G' l=some (.lst ((P.drop i).map (lvT V.length)))/\G' p=some (.lst ((P'.drop P.length).map (lvT V.length)))/\(∃E,P'=P++E)/\Sub G G'
   refine⟨J3,?_,?_,?_,?_⟩
   ·exact xi7 v8 v9 v10 v11 v12 v13 P rfl ⟨by rw[jJm hpd];exact h1,hW,by rw[jJm hpl];exact h2,by rw[List.drop_length];exact jJg,⟨[],by simp⟩,hs1.trans (.new hp)⟩
   ·intro k τ G' hi h_;apply xe7 h_;clear h_;intro v8 v9 v10 v11 v12 v13 P' h_;apply ae6 h_;clear h_;intro j1 jW j2 j3 jE js
    exact jJn j2
   ·intro k y τ G2 hy h_;apply xe7 h_;clear h_;intro v8 v9 v10 v11 v12 v13 P' h_;apply ae6 h_;clear h_;intro j1 jW j2 j3 q4_ js
    obtain⟨E,jE⟩:=q4_
    obtain⟨x,hx,rfl⟩:=jK5 hy
    rw[List.getElem?_drop] at hx
    have hik:i+k<P.length:=(lJe.mp hx).1
    have hx':P'[i+k]? =some x:=by rw[jE,lKr hik];exact hx
    obtain⟨gx1,gx2⟩:=jW.go x (lJi hx')
    have hV0:0<V.length:=by omega
    have hrU:x.1 / V.length<U.length:=Nat.div_lt_of_lt_mul (by rw[lQz];exact gx1)
    have hrV:x.1%V.length<V.length:=lK7 _ hV0
    obtain⟨es2,hU2⟩:∃es,U[x.1 / V.length]? =some es:=⟨_,lJg hrU⟩
    obtain⟨fs2,hV2⟩:∃fs,V[x.1%V.length]? =some fs:=⟨_,lJg hrV⟩
    have hlen2:es2.length=fs2.length:=by
     have:=qZ1 gx2
     rw[XS,jYp hU2,jYp hV2] at this
     exact lKv fun z=>this (.inl z)
    have hul2:=fU.row _ _ hU2
    wp_walk using 1,lvT,prs,encE,wayT,iEnT,jKz hU2,encR,jJw
    let J4:Nat->St3->Gp->Prop:=fun j τ G'=>∃(v10 v11 v12 v13:Option T) (P2:List PE),τ=[some (.tup (U.map encR)),some (.int a),some (.tup (V.map encR)),some (.int b),some (.bl st),some (.ref d),some (.ref l),some (.ref p),some (.tup [.int (x.1 / V.length:Nat),.int (x.1%V.length:Nat)]),some (.tup (jJk x.2.2)),v10,v11,v12,v13]/\G' d=some (.dct (pkv V.length P2))/\Wk (XS st U V a b) U V a b (i+k) j P2/\G' l=some (.lst ((P.drop i).map (lvT V.length)))/\G' p=some (.lst ((P2.drop P.length).map (lvT V.length)))/\(∃E,P2=P++E)/\Sub G G'
    refine⟨J4,?_,?_,?_,?_⟩
    ·exact xi5 v10 v11 v12 v13 P' rfl ⟨j1,jW,j2,j3,⟨E,jE⟩,js⟩
    ·intros;trivial
    ·intro j y τ G3 hy h_;apply xe5 h_;clear h_;intro v10 v11 v12 v13 P2 h_;apply ae6 h_;clear h_;intro q1 qW q2 q3 q4_ q5
     obtain⟨E2,qE⟩:=q4_
     obtain⟨z,hz,rfl⟩:=uJ4 hy
     obtain⟨e,he,rfl⟩:=jK5 hz
     have hj:j<fs2.length:=by have:=(lJe.mp he).1;omega
     obtain⟨g,hg⟩:∃g,fs2[j]? =some g:=⟨_,lJg hj⟩
     have hx2:P2[i+k]? =some x:=by rw[qE,lKr hik];exact hx
     have hee:en U (x.1 / V.length) j=some e:=jK1 hU2 he
     have hge:en V (x.1%V.length) j=some g:=jK1 hV2 hg
     have he1:=fU.rng _ _ e.1 e.2 hee
     have hg1:=fV.rng _ _ g.1 g.2 hge
     have hP2:=qW.len
     have hwl:=qW.wlen _ _ hx2
     have hkl:(pkv V.length P2).length=P2.length:=by simp[pkv]
     have hgat:L2.atI (fs2.map encE) (j:Int)=some (encE g):=L2.atI_nat (by rw[lJn,hg];rfl)
     have heE:encE e= .tup [.int e.1,.int e.2]:=rfl
     wp_walk using 1,rNeA,jKz hV2,encR,hgat,jZs
     refine⟨U,rfl,a,rfl,e,rfl,he1,fU.len,fU.row,fun G4 s4=>⟨V,rfl,b,rfl,g,rfl,hg1,fV.len,fV.row,fun G5 s5=>⟨_,qYs,?_⟩⟩⟩
     have s35:=s4.trans s5
     have q1':=s35 _ _ q1
     have q2':=s35 _ _ q2
     have q3':=s35 _ _ q3
     have q5':=q5.trans s35
     have hbad:Bad (XS st U V a b) U V (x.1 / V.length) (x.1%V.length) j↔¬ kQu st U a e=kQu st V b g:=by
      rw[uKa,lXw]
      constructor
      ·rintro⟨e',g',z1,z2,z⟩
       rw[hee] at z1;rw[hge] at z2
       cases z1;cases z2;exact z
      ·exact fun z=>⟨e,g,hee,hge,z⟩
     by_cases hlk:kQu st U a e=kQu st V b g
     ·rw[lJb (by simp[hlk])]
      have hin:=qY1 (e:=(e.1,g.1)) q1'
      have hmem:=uJt (r:=e.1) (P:=P2) hg1
      rw[<-kZx] at hmem
      refine⟨.int e.1,rfl,.int g.1,rfl,by omega,_,hin,_,rfl,?_⟩
      by_cases hm:e.1*V.length+g.1∈P2.map Prod.fst
      ·rw[lJb (by simp[hmem.mpr hm])]
       exact xi5 _ _ _ _ P2 rfl ⟨q1',qW.skip hx2 hee hge (fun z=>hbad.mp z hlk) hm,q2',q3',⟨E2,qE⟩,q5'⟩
      ·have hnn:valT (pkv V.length P2) (keyE (e.1,g.1))=none:=by
        cases hv:valT (pkv V.length P2) (keyE (e.1,g.1)) with
        | none=>rfl
        | some t=>exact absurd (hmem.mp (by rw[hv];rfl)) hm
       rw[lJc (by simp[hnn])]
       have hgp:gup G5 d (.dct (putT (pkv V.length P2) (keyE (e.1,g.1)) (.bl true))) p=some (.lst ((P2.drop P.length).map (lvT V.length))):=by rw[jJm hpd.symm];exact q3'
       refine⟨_,kYp (ks:=keyE (e.1,g.1)) q1' jUv (by omega),by rw[jKd hgp];trivial,by omega,qVp (by omega) ?_⟩
       refine⟨by omega,_,hgp,by simp;omega,xi5 _ _ _ _ (P2++[(e.1*V.length+g.1,some (x.1,j),x.2.2++[j])]) rfl ⟨?_,?_,?_,?_,?_,?_⟩⟩
       ·rw[jJm hpd,jJg,qQg hnn,pkv,pkv,lQk]
        simp[prs,dm hg1]
       ·exact qW.add fU fV hx2 hee hge (fun z=>hbad.mp z hlk) hm
       ·rw[jJm hpl,jJm hdl.symm];exact q2'
       ·rw[jJg,List.drop_append_of_le_length (by rw[qE,lKf];omega)]
        simp[lvT,prs,dm hg1,encE]
       ·exact⟨E2++[(e.1*V.length+g.1,some (x.1,j),x.2.2++[j])],by rw[qE,lXp]⟩
       ·exact (q5'.over hd).over hp0
     ·rw[lJc (by simpa using hlk)]
      refine⟨by omega,qVp (by omega) ?_⟩
      exact⟨by omega,kk (some (x.2.2++[j])) d P2 G5 (qW.found fU fV ha hb hx2 (hbad.mpr hlk)) hd q1' (fun z=>by cases z) q5'⟩
    ·intro τ G3 h_;apply xe5 h_;clear h_;intro v10 v11 v12 v13 P2 h_;apply ae6 h_;clear h_;intro q1 qW q2 q3 qE q5
     rw[jKk,lJf] at qW
     obtain⟨E2,qE⟩:=qE
     have hx2:P2[i+k]? =some x:=by rw[qE,lKr hik];exact hx
     exact xi7 _ _ _ _ _ _ P2 rfl ⟨q1,qW.next hx2 (by rw[jYp hU2];exact lJh _),q2,q3,⟨E2,qE⟩,q5⟩
   ·intro τ G2 h_;apply xe7 h_;clear h_;intro v8 v9 v10 v11 v12 v13 P' h_;apply ae6 h_;clear h_;intro j1 jW j2 j3 q4_ js
    obtain⟨E,jE⟩:=q4_
    have hlen:((P.drop i).map (lvT V.length)).length=P.length-i:=by simp
    rw[hlen,show i+(P.length-i)=P.length by omega] at jW
    wp_walk using 1,tSeq
    exact xi9 p _ _ _ _ _ _ _ P' rfl ⟨hpd,hp0,j1,jW,j3,by rw[jE,lKf];omega,js⟩
 ·rename_i hne
  have he:P.length<=i:=by
   have:(P.drop i).map (lvT V.length)=[]:=by simpa using hne
   have:=lJ5 List.length this
   simp at this;omega
  have e:i=P.length:=by omega
  subst e
  exact⟨by omega,kk none d P G1 (hW.none fU fV ha hb) hd h1 (fun _=>hW) hs1⟩
noncomputable def jX7:Sp3:=fun xs G Q=>∃(U V:Web) (a b:Nat),xs=[encW U,.int a,encW V,.int b]/\Fine U/\Fine V/\a<U.length/\b<V.length/\U.length*V.length<=5000/\∀o G',Lst (XL U V) U V a b o->Sub G G'->Q (oWay o) G'
def qVt:List Str:=["one","a","other","b"]
noncomputable def jYd:TS3:=
 (tRet (tOp rIxF (jJr jUg (jJc (tVar 0) (jJc (tVar 1) (jJc (tVar 2) (jJc (tVar 3) (jJc (tC (.bl false)) tNil)))))) (tC (.int 0))))
theorem kUp:RdOk jX7 jYd qVt:=by
 intro xs G Q h_;apply xe4 h_;clear h_;intro U V a b h_;apply ae6 h_;clear h_;intro fU fV ha hb huv kk
 show jYd _ [some (encW U),some (.int a),some (encW V),some (.int b)] G
 wp_walk using 1,jYd
 refine xi5 U V a b false rfl ⟨fU,fV,ha,hb,huv,fun o d P G' h1 h2 h3 h4 s=> ?_⟩
 rw[qZa] at h1
 exact⟨_,rfl,kk o G' h1 s⟩
def nuF (nu:List Nat) (x:Nat):Nat:=(nu[x]?).getD x
def renE (nu:List Nat) (es:List (Nat×Nat)):List (Nat×Nat):=es.map fun e=>(nuF nu e.1,e.2)
structure Ren (W:Web) (nu:List Nat) (V:Web):Prop where
 len:V.length=W.length
 at':∀(r:Nat) (es:List (Nat×Nat)),W[r]? =some es->V[nuF nu r]? =some (renE nu es)
theorem jYs {nu:List Nat} {x y:Nat} (h:nu[x]? =some y):nuF nu x=y:=by unfold nuF;rw[h];rfl
theorem jZ8 {nu:List Nat} {x:Nat} (h:nu.length<=x):nuF nu x=x:=by unfold nuF;rw[lJ4 h];rfl
theorem qZu {n:Nat} {nu:List Nat} (t:Turn n nu) {x:Nat} (h:x<n):nuF nu x<n:=by
 obtain⟨y,hy,hl⟩:=t.at h
 rw[jYs hy];exact hl
theorem uJ5 {n:Nat} {nu:List Nat} (t:Turn n nu) {x y:Nat} (h:nuF nu x=nuF nu y):x=y:=by
 rcases lKk x n with hx | hx<;>rcases lKk y n with hy | hy
 ·obtain⟨a,ha,_⟩:=t.at hx
  obtain⟨b,hb,_⟩:=t.at hy
  rw[jYs ha,jYs hb] at h
  subst h
  exact (lQ8 (by rw[t.len];exact hx) t.nd).mp (ha.trans hb.symm)
 ·have:=qZu t hx;rw[h,jZ8 (by rw[t.len];exact hy)] at this;omega
 ·have:=qZu t hy;rw[<-h,jZ8 (by rw[t.len];exact hx)] at this;omega
 ·rw[jZ8 (by rw[t.len];exact hx),jZ8 (by rw[t.len];exact hy)] at h;exact h
theorem jX0 {n:Nat} {nu:List Nat} (t:Turn n nu) {y:Nat} (h:y<n):∃x,x<n/\nuF nu x=y:=by
 have hm:=jZ9 t.nd t.lt t.len y h
 obtain⟨x,hx⟩:=lKc hm
 exact⟨x,by have:=(lJe.mp hx).1;rw[t.len] at this;exact this,jYs hx⟩
theorem qK3 {W V:Web} {nu:List Nat} (t:Turn W.length nu) (h:Ren W nu V) (r i:Nat):en V (nuF nu r) i=(en W r i).map fun e=>(nuF nu e.1,e.2):=by
 unfold en
 rcases lKk r W.length with hr | hr
 ·have hW:W[r]? =some W[r]:=lJg hr
  rw[hW,h.at' r _ hW]
  show (renE nu W[r])[i]? =_
  rw[renE,lJn];rfl
 ·rw[lJ4 hr,jZ8 (by rw[t.len];exact hr),lJ4 (by rw[h.len];exact hr)];rfl
theorem qU7 {W:Web} (sym:Sym W) (c:Conn W) {r0:Nat} (hr:r0<W.length) (S:Nat->Prop) (h0:S r0) (cl:∀r i s j,S r->en W r i=some (s,j)->S s):∀r,r<W.length->S r:=
 c S (c (fun x=>S x->S 0) (fun h=>h) (fun x i s j hx he hs=>hx (cl s j x i hs (sym _ _ _ _ he))) r0 hr h0) cl
theorem uJn {W V:Web} {nu:List Nat} (t:Turn W.length nu) (h:Ren W nu V) (a:AnyWeb W):AnyWeb V:=by
 have back:∀r i e,en V r i=some e->∃x d,nuF nu x=r/\en W x i=some d/\e=(nuF nu d.1,d.2):=by
  intro r i e he
  have hr:=kJp he
  rw[h.len] at hr
  obtain⟨x,hx,rfl⟩:=jX0 t hr
  rw[qK3 t h] at he
  obtain⟨d,hd,rfl⟩:=lKg.mp he
  exact⟨x,d,rfl,hd,rfl⟩
 refine⟨by rw[h.len];exact a.pos,by rw[h.len];exact a.len,?_,?_,?_⟩
 ·intro r i s j he
  obtain⟨x,d,rfl,hd,e⟩:=back r i _ he
  cases e
  rw[qK3 t h,a.sym _ _ d.1 d.2 hd];rfl
 ·intro r es hr
  have hrl:=(lJe.mp hr).1
  rw[h.len] at hrl
  obtain⟨x,hx,rfl⟩:=jX0 t hrl
  have hW:W[x]? =some W[x]:=lJg hx
  rw[h.at' x _ hW] at hr;cases hr
  rw[renE,lJf];exact a.deg x _ hW
 ·intro S h0 cl r hr
  rw[h.len] at hr
  have ap:=a.pos
  obtain⟨z,hz,e0⟩:=jX0 t (show 0<W.length by omega)
  obtain⟨x,hx,rfl⟩:=jX0 t hr
  exact qU7 a.sym a.conn hz (fun x=>S (nuF nu x)) (by show S (nuF nu z);rw[e0];exact h0) (fun r i s j hS he=>cl _ i _ j hS (by rw[qK3 t h,he];rfl)) x hx
def renW (W:Web) (nu:List Nat):Web:=(List.range W.length).map fun i=>renE nu (row W (nu.idxOf i))
theorem qK4 {W:Web} {nu:List Nat} (t:Turn W.length nu):Ren W nu (renW W nu):=by
 refine⟨by simp[renW],fun r es hr=> ?_⟩
 have hrl:=(lJe.mp hr).1
 obtain⟨x,hx,hxl⟩:=t.at hrl
 have hi:=lX5 (lJi hx)
 have e1:nu[nu.idxOf x]? =some x:=by rw[lJg hi,lXv]
 have e2:nu.idxOf x=r:=(lQ8 hi t.nd).mp (e1.trans hx.symm)
 rw[jYs hx]
 unfold renW
 rw[lJn,lQ5 hxl]
 show some (renE nu (row W (nu.idxOf x)))=_
 rw[e2,jYp hr]
theorem uJ7 {W V:Web} {nu:List Nat} {ms:List T} (t:Turn W.length nu) (h:Ren W nu V) (hl:ms.length=W.length) (hm:∀(r:Nat) (es:List (Nat×Nat)),r<W.length->W[r]? =some es->ms[nuF nu r]? =some (encR (renE nu es))):ms=V.map encR:=by
 apply lK1
 intro i
 rcases lKk i W.length with hi | hi
 ·obtain⟨x,hx,rfl⟩:=jX0 t hi
  have hW:W[x]? =some W[x]:=lJg hx
  rw[hm x _ hx hW,lJn,h.at' x _ hW];rfl
 ·rw[lJ4 (by omega),lJ4 (by rw[lJf,h.len];exact hi)]
structure WS where
 rm:Nat
 cm:Option Nat
 hd:Nat
 ly:List Int
 wk:Nat
def cmT:Option Nat->T
 | none=> .non
 | some d=> .int (d:Nat)
def wfs (W:Web) (l:Addr) (s:WS):List (Str×T):=[("web",encW W),("room",.int (s.rm:Nat)),("came",cmT s.cm),("held",.int (s.hd:Nat)),("lying",.ref l),("walked",.int (s.wk:Nat))]
def wkG (W:Web) (l:Addr) (s:WS):GO:= .ins "Walker" (wfs W l s)
theorem kVf {m:Str}:∀ {fs:List (Str×T)},(∀g,g∈fs.map (·.1)->¬ g=m)->fldT m fs=none
 | [],_=>rfl
 | (g,x)::r,h=>by
  rw[fldT,lJb (h g (by simp))]
  exact kVf fun g' hg=>h g' (by rw[lJq];exact lJx _ hg)
theorem jYg {G:Gp} {a l:Addr} {V:Web} {s:WS} {m:Str} (h:G a=some (wkG V l s)) (hm:∀g,g∈(["web","room","came","held","lying","walked"]:List Str)->¬ g=m:=by decide +kernel):obR "Walker" m G (.ref a)=true:=by
 simp only[obR,h,wkG,kVf (fs:=wfs V l s) hm,Option.isNone_none,decide_true,Bool.and_true]
theorem q1:(("web":Str)="room")=False:=lKu (by decide +kernel)
theorem q2:(("web":Str)="came")=False:=lKu (by decide +kernel)
theorem q3:(("web":Str)="held")=False:=lKu (by decide +kernel)
theorem q4:(("web":Str)="lying")=False:=lKu (by decide +kernel)
theorem q5:(("web":Str)="walked")=False:=lKu (by decide +kernel)
theorem q6:(("room":Str)="came")=False:=lKu (by decide +kernel)
theorem q7:(("room":Str)="held")=False:=lKu (by decide +kernel)
theorem q8:(("room":Str)="lying")=False:=lKu (by decide +kernel)
theorem q9:(("room":Str)="walked")=False:=lKu (by decide +kernel)
theorem q10:(("came":Str)="held")=False:=lKu (by decide +kernel)
theorem q11:(("came":Str)="lying")=False:=lKu (by decide +kernel)
theorem q12:(("came":Str)="walked")=False:=lKu (by decide +kernel)
theorem q13:(("held":Str)="lying")=False:=lKu (by decide +kernel)
theorem q14:(("held":Str)="walked")=False:=lKu (by decide +kernel)
theorem q15:(("lying":Str)="walked")=False:=lKu (by decide +kernel)
section
variable {G:Gp} {a l:Addr} {W:Web} {s:WS}
theorem fl {f:Str} {v:T} (h:G a=some (wkG W l s)) (hf:fldT f (wfs W l s)=some v):fldR "Walker" f G (.ref a)=some v:=by
 simp only[fldR,h,wkG,lJ2,hf]
theorem fWeb (h:G a=some (wkG W l s)):fldR "Walker" "web" G (.ref a)=some (encW W):=fl h (by simp only[wfs,fldT,lJ2])
theorem qYq (h:G a=some (wkG W l s)):fldR "Walker" "room" G (.ref a)=some (.int (s.rm:Nat)):=fl h (by simp only[wfs,fldT,lJ2,q1,lJt])
theorem fCame (h:G a=some (wkG W l s)):fldR "Walker" "came" G (.ref a)=some (cmT s.cm):=fl h (by simp only[wfs,fldT,lJ2,q2,q6,lJt])
theorem fHeld (h:G a=some (wkG W l s)):fldR "Walker" "held" G (.ref a)=some (.int (s.hd:Nat)):=fl h (by simp only[wfs,fldT,lJ2,q3,q7,q10,lJt])
theorem qUt (h:G a=some (wkG W l s)):fldR "Walker" "lying" G (.ref a)=some (.ref l):=fl h (by simp only[wfs,fldT,lJ2,q4,q8,q11,q13,lJt])
theorem qUs (h:G a=some (wkG W l s)):fldR "Walker" "walked" G (.ref a)=some (.int (s.wk:Nat)):=fl h (by simp only[wfs,fldT,lJ2,q5,q9,q12,q14,q15,lJt])
theorem sf {f:Str} {v:T} {fs:List (Str×T)} (h:G a=some (wkG W l s)) (hf:jVe f v (wfs W l s)=fs):jZu "Walker" f G (.ref a) v=some (gup G a (.ins "Walker" fs)):=by
 simp only[jZu,h,wkG]
 rw[lJc ⟨trivial,by simp[wfs]⟩,hf]
theorem pRoom {r:Nat} (h:G a=some (wkG W l s)):jZu "Walker" "room" G (.ref a) (.int (r:Nat))=some (gup G a (wkG W l {s with rm:=r})):=sf h (by simp only[wfs,jVe,lJ2,q1,lJt])
theorem pCame {c:Nat} (h:G a=some (wkG W l s)):jZu "Walker" "came" G (.ref a) (.int (c:Nat))=some (gup G a (wkG W l {s with cm:=some c})):=sf h (by simp only[wfs,jVe,lJ2,q2,q6,lJt,cmT])
theorem pHeld {n:Nat} {i:Int} (hi:i=(n:Nat)) (h:G a=some (wkG W l s)):jZu "Walker" "held" G (.ref a) (.int i)=some (gup G a (wkG W l {s with hd:=n})):=by
 subst hi;exact sf h (by simp only[wfs,jVe,lJ2,q3,q7,q10,lJt])
theorem uJv {n:Nat} {i:Int} (hi:i=(n:Nat)) (h:G a=some (wkG W l s)):jZu "Walker" "walked" G (.ref a) (.int i)=some (gup G a (wkG W l {s with wk:=n})):=by
 subst hi;exact sf h (by simp only[wfs,jVe,lJ2,q5,q9,q12,q14,q15,lJt])
end
def dg (W:Web) (r:Nat):Nat:=((W[r]?).getD []).length
def qJv (W:Web) (s:WS):T:= .tup [.int (dg W s.rm:Nat),cmT s.cm,.int (s.ly.count (s.rm:Int):Nat)]
def WkAt (G:Gp) (a l:Addr) (W:Web) (s:WS):Prop:=G a=some (wkG W l s)/\G l=some (.lst (jKs s.ly))
theorem WkAt.ne {G:Gp} {a l:Addr} {W:Web} {s:WS} (h:WkAt G a l W s):a≠l:=by
 rintro rfl
 have:=h.1.symm.trans h.2
 cases this
theorem kKu (r:Int):∀ly:List Int,(jKs ly).countP (fun z=>eqT z (.int r))=ly.count r
 | []=>rfl
 | a::l=>by
  rw[jKs,lJq,lXb,List.count_cons]
  have:=kKu r l
  rw[jKs] at this
  rw[this]
  simp[eqT]
theorem qUp:∀ly:List Int,(jKs ly).all jXi=true
 | []=>rfl
 | _::l=>qUp l
def jJy:Sp3:=fun xs G Q=>∃(a l:Addr) (W:Web) (s:WS),xs=[.ref a]/\WkAt G a l W s/\s.rm<W.length/\Q (qJv W s) G
def kUd:List Str:=["self"]
noncomputable def jUm:TS3:=
 (tRet (tTup (jJc (tCB rLen (jJc (tOp rIxF (tFld "Walker" "web" (tVar 0)) (tFld "Walker" "room" (tVar 0))) tNil)) (jJc (tFld "Walker" "came" (tVar 0)) (jJc (tBM "list" kUs (tFld "Walker" "lying" (tVar 0)) (jJc (tFld "Walker" "room" (tVar 0)) tNil)) tNil)))))
theorem jY4:RdOk jJy jUm kUd:=by
 intro xs G Q h_;apply xe4 h_;clear h_;intro a l W s h_;apply ae3 h_;clear h_;intro h hr kk
 show jUm _ [some (.ref a)] G
 obtain⟨es,hes⟩:∃es,W[s.rm]? =some es:=⟨_,lJg hr⟩
 have hdg:dg W s.rm=es.length:=by rw[dg,hes];rfl
 wp_walk using 1,jUm,tFld,fWeb h.1,qYq h.1,fCame h.1,qUt h.1,kUs,jKd h.2,h.2,encW,jKz hes,encR
 refine⟨rfl,qUp _,by rw[sz];omega,?_⟩
 rw[kKu,lJf,<-hdg]
 exact kk
def jJs:Sp3:=fun xs G Q=>∃(a l:Addr) (W:Web) (s:WS),xs=[.ref a]/\WkAt G a l W s/\Q (.int (s.hd:Nat)) G
def jY6:List Str:=["self"]
noncomputable def jQo:TS3:=
 (tRet (tFld "Walker" "held" (tVar 0)))
theorem jV9:RdOk jJs jQo jY6:=by
 intro xs G Q h_;apply xe4 h_;clear h_;intro a l W s h_;apply ae2 h_;clear h_;intro h kk
 show jQo _ [some (.ref a)] G
 wp_walk using 1,jQo,tFld,fHeld h.1
 exact kk
def jKx:Sp3:=fun xs G Q=>∃(a l:Addr) (W:Web) (s:WS),xs=[.ref a]/\WkAt G a l W s/\Q (.int (s.wk:Nat)) G
def kKe:List Str:=["self"]
noncomputable def jQ6:TS3:=
 (tRet (tFld "Walker" "walked" (tVar 0)))
theorem jYb:RdOk jKx jQ6 kKe:=by
 intro xs G Q h_;apply xe4 h_;clear h_;intro a l W s h_;apply ae2 h_;clear h_;intro h kk
 show jQ6 _ [some (.ref a)] G
 wp_walk using 1,jQ6,tFld,qUs h.1
 exact kk
def goS (s:WS) (e:Nat×Nat):WS:={s with rm:=e.1,cm:=some e.2,wk:=s.wk+1}
theorem WkAt.gup {G:Gp} {a l:Addr} {W:Web} {s s':WS} (h:WkAt G a l W s) (e:s'.ly=s.ly):WkAt (gup G a (wkG W l s')) a l W s':=⟨jJg,by rw[jJm h.ne.symm,h.2,e]⟩
noncomputable def jKq:Sp3:=fun xs G Q=>∃(a l:Addr) (W:Web) (s:WS) (d:Nat) (e:Nat×Nat),xs=[.ref a,.int (d:Nat)]/\WkAt G a l W s/\Fine W/\en W s.rm d=some e/\Q (qJv W (goS s e)) (gup G a (wkG W l (goS s e)))
def kYh:List Str:=["self","door","end"]
noncomputable def jVr:TS3:=
 (tSeq (tIfS (tNot (jJ1 (kUj rLeF rLt (tC (.int 0)) (tVar 1) (tCB rLen (jJc (tOp rIxF (tFld "Walker" "web" (tVar 0)) (tFld "Walker" "room" (tVar 0))) tNil))))) kUi jKr)
 (tSeq (tAsg (tOp rIxF (tOp rIxF (tFld "Walker" "web" (tVar 0)) (tFld "Walker" "room" (tVar 0))) (tVar 1)) (jJi 2))
 (tSeq (jXk "Walker" "room" (tVar 0) (tOp rIxF (tVar 2) (tC (.int 0))))
 (tSeq (jXk "Walker" "came" (tVar 0) (tOp rIxF (tVar 2) (tC (.int 1))))
 (tSeq (jXk "Walker" "walked" (tVar 0) (tOp jKh (tFld "Walker" "walked" (tVar 0)) (tC (.int 1))))
 (tRet (jKm "Walker" "here" jJy (tVar 0) tNil)))))))
theorem kJ9:RdOk jKq jVr kYh:=by
 intro xs G Q h_;apply xe6 h_;clear h_;intro a l W s d e h_;apply ae4 h_;clear h_;intro h fine he kk
 show jVr _ [some (.ref a),some (.int (d:Nat)),none] G
 obtain⟨es,hes,hd⟩:∃es,W[s.rm]? =some es/\es[d]? =some e:=by
  unfold en at he
  cases q:W[s.rm]? with
  | none=>rw[q] at he;cases he
  | some es=>rw[q] at he;exact⟨es,rfl,he⟩
 have hdl:d<es.length:=(lJe.mp hd).1
 wp_walk using 1,jVr,tFld,kUj,rLeF,kUi,jXk,fWeb h.1,qYq h.1,encW,jKz hes,encR,List.length_map
 rw[lJc (by omega),lJb (by simp;omega)]
 refine⟨_,kQ2 hd,.int (e.1:Nat),rfl,_,pRoom h.1,.int (e.2:Nat),rfl,_,pCame jJg,_,qUs jJg,_,rfl,_,uJv (n:=s.wk+1) rfl jJg,?_⟩
 wp_walk using 1,jKm
 refine⟨jYg jJg,a,l,W,goS s e,rfl,h.gup rfl,fine.rng _ _ _ _ he,kk⟩
theorem qUw {G:Gp} {a c:Int}:eqG G (.int a) (.int c)=some (decide (a=c)):=by
 rw[show eqG G (.int a) (.int c)=some (eqT (.int a) (.int c)) from rfl]
 congr 1
def layS (s:WS):WS:={s with hd:=s.hd-1,ly:=s.ly++[(s.rm:Int)]}
noncomputable def jQh:Sp3:=fun xs G Q=>∃(a l:Addr) (W:Web) (s:WS),xs=[.ref a]/\WkAt G a l W s/\s.rm<W.length/\0<s.hd/\s.ly.length<1000/\Q (qJv W (layS s)) (gup (gup G a (wkG W l (layS s))) l (.lst (jKs (layS s).ly)))
def kVv:List Str:=["self"]
noncomputable def jU3:TS3:=
 (tSeq (tIfS (jJ1 (tOp rEqA (tFld "Walker" "held" (tVar 0)) (tC (.int 0)))) kUi jKr)
 (tSeq (jXk "Walker" "held" (tVar 0) (tOp rSub (tFld "Walker" "held" (tVar 0)) (tC (.int 1))))
 (tSeq (jK2 (tBM "list" jJ8 (tFld "Walker" "lying" (tVar 0)) (jJc (tFld "Walker" "room" (tVar 0)) tNil)))
 (tRet (jKm "Walker" "here" jJy (tVar 0) tNil)))))
theorem jZw:RdOk jQh jU3 kVv:=by
 intro xs G Q h_;apply xe4 h_;clear h_;intro a l W s h_;apply ae5 h_;clear h_;intro h hr hh hl kk
 show jU3 _ [some (.ref a)] G
 have h2:(gup G a (wkG W l {s with hd:=s.hd-1})) l=some (.lst (jKs s.ly)):=by rw[jJm h.ne.symm];exact h.2
 have hs:=sz
 wp_walk using 1,jU3,tFld,kUi,jXk,rEqA,fHeld h.1,qUw
 rw[lJb (by simp;omega)]
 refine⟨_,pHeld (n:=s.hd-1) (by omega) h.1,_,qUt jJg,?_⟩
 wp_walk using 1,jKd h2,qYq jJg,h2
 refine⟨by rw[jKs,lJf];omega,?_⟩
 wp_walk using 1,jKm
 have e1:jKs s.ly++[T.int (s.rm:Nat)]=jKs (layS s).ly:=by simp[layS,jKs]
 rw[e1]
 have ha:(gup (gup G a (wkG W l (layS s))) l (.lst (jKs (layS s).ly))) a=some (wkG W l (layS s)):=by rw[jJm h.ne,jJg]
 exact⟨jYg ha,a,l,W,layS s,rfl,⟨ha,jJg⟩,hr,kk⟩
noncomputable def jKb:Sp3:=fun xs G Q=>∃(a:Addr) (W:Web) (r h:Nat),xs=[.ref a,encW W,.int (r:Nat),.int (h:Nat)]/\G a=some (.ins "Walker" [])/\∀l G',l≠a->G l=none->WkAt G' a l W ⟨r,none,h,[],0⟩->(∀b,b≠a->b≠l->G' b=G b)->Q .non G'
def kUc:List Str:=["self","web","room","stones"]
noncomputable def jUl:TS3:=
 (tSeq (jXk "Walker" "web" (tVar 0) (tVar 1))
 (tSeq (jXk "Walker" "room" (tVar 0) (tVar 2))
 (tSeq (jXk "Walker" "came" (tVar 0) (tC .non))
 (tSeq (jXk "Walker" "held" (tVar 0) (tVar 3))
 (tSeq (jXk "Walker" "lying" (tVar 0) (tLst tNil))
 (jXk "Walker" "walked" (tVar 0) (tC (.int 0))))))))
theorem setN {G:Gp} {a:Addr} {f:Str} {v:T} {fs fs':List (Str×T)} (h:G a=some (.ins "Walker" fs)) (hl:fs.length<1000) (hp:jVe f v fs=fs'):jZu "Walker" f G (.ref a) v=some (gup G a (.ins "Walker" fs')):=by
 simp only[jZu,h]
 rw[lJc ⟨trivial,hl⟩,hp]
theorem jY3:RdOk jKb jUl kUc:=by
 intro xs G Q h_;apply xe4 h_;clear h_;intro a W r h h_;apply ae2 h_;clear h_;intro h0 kk
 show jUl _ [some (.ref a),some (encW W),some (.int (r:Nat)),some (.int (h:Nat))] G
 wp_walk using 1,jUl,jXk
 refine⟨_,setN h0 (show 0<1000 by decide) (fs':=[("web",encW W)]) rfl,_,setN jJg (show 1<1000 by decide) (fs':=[("web",encW W),("room",.int (r:Nat))]) (by simp only[jVe,q1,lJt]),
  _,setN jJg (show 2<1000 by decide) (fs':=[("web",encW W),("room",.int (r:Nat)),("came",.non)]) (by simp only[jVe,q2,q6,lJt]),
  _,setN jJg (show 3<1000 by decide) (fs':=[("web",encW W),("room",.int (r:Nat)),("came",.non),("held",.int (h:Nat))]) (by simp only[jVe,q3,q7,q10,lJt]),lJs _,fun l hl=> ?_⟩
 rw[kJn,kJn,kJn] at hl ⊢
 obtain⟨hla,hl0⟩:=jKn hl
 refine⟨_,setN (fs:=[("web",encW W),("room",.int (r:Nat)),("came",.non),("held",.int (h:Nat))]) (by rw[jJm hla.symm,jJg]) (show 4<1000 by decide) (fs':=[("web",encW W),("room",.int (r:Nat)),("came",.non),("held",.int (h:Nat)),("lying",.ref l)]) (by simp only[jVe,q4,q8,q11,q13,lJt]),
  _,setN jJg (show 5<1000 by decide) (fs':=wfs W l ⟨r,none,h,[],0⟩) (by simp only[jVe,q5,q9,q12,q14,q15,lJt,wfs,cmT];rfl),?_⟩
 refine kk l _ hla hl0 ⟨jJg,by rw[jJm hla,jJm hla,jJg];rfl⟩ fun b h1 h2=> ?_
 rw[jJm h1,jJm h1,jJm h2,jJm h1]
def onT (s:WS):T:= .tup [.int (s.rm:Nat),.tup (jKs (kK7 s.ly))]
def jKw:Sp3:=fun xs G Q=>∃(a l:Addr) (W:Web) (s:WS),xs=[.ref a]/\WkAt G a l W s/\s.ly.length<64/\∀G',Sub G G'->Q (onT s) G'
def qJ3:List Str:=["walker"]
noncomputable def jXa:TS3:=
 (tRet (tTup (jJc (tFld "Walker" "room" (tVar 0)) (jJc (tCB jJ7 (jJc (tCB qQa (jJc (tFld "Walker" "lying" (tVar 0)) tNil)) tNil)) tNil))))
theorem kQe:RdOk jKw jXa qJ3:=by
 intro xs G Q h_;apply xe4 h_;clear h_;intro a l W s h_;apply ae3 h_;clear h_;intro h hl kk
 show jXa _ [some (.ref a)] G
 have hs:=sz
 wp_walk using 1,jXa,tFld,qYq h.1,qUt h.1,qQa
 refine⟨s.ly,by simp only[jQ8,h.2,asL],hl,fun p hp=>⟨by omega,kk _ (.new hp)⟩⟩
theorem kZg:∀ {xs ys:List T},eqTs xs ys=true↔xs.length=ys.length/\∀(i:Nat) (x y:T),xs[i]? =some x->ys[i]? =some y->eqT x y=true
 | [],[]=>by simp[eqTs]
 | [],y::ys=>by simp[eqTs]
 | x::xs,[]=>by simp[eqTs]
 | x::xs,y::ys=>by
  rw[eqTs,lKn,kZg]
  constructor
  ·rintro⟨h1,h2,h3⟩
   refine⟨by simp[h2],fun i u v hu hv=> ?_⟩
   cases i with
   | zero=>cases hu;cases hv;exact h1
   | succ i=>exact h3 i u v hu hv
  ·rintro⟨h1,h2⟩
   exact⟨h2 0 x y rfl rfl,by simpa using h1,fun i u v hu hv=>h2 (i+1) u v hu hv⟩
structure OkD (d:Nat) (x:T):Prop where
 tr:tree x=true
 lay:(td x).canLay0=true
 dep:(td x).depth<=d
theorem okD_int {i:Int}:OkD 0 (.int i):=⟨rfl,rfl,lVn (by simp[td,PyData.depth])⟩
theorem kXq {d:Nat}:∀xs:List T,(∀x,x∈xs->OkD d x)->jQm xs=true/\PyData.canLayAll0 (tds xs)=true/\PyData.depthAll (tds xs)<=d
 | [],_=>⟨rfl,by simp[tds,PyData.canLayAll0],by simp[tds,PyData.depthAll]⟩
 | x::xs,h=>by
  obtain⟨a1,a2,a3⟩:=kXq xs fun y hy=>h y (lJx _ hy)
  obtain⟨b1,b2,b3⟩:=h x (lJu ..)
  refine⟨?_,?_,?_⟩
  ·show (tree x&&jQm xs)=true;rw[a1,b1];rfl
  ·rw[tds,PyData.canLayAll0,a2,b2];rfl
  ·rw[tds,PyData.depthAll];omega
theorem jZ7 {d:Nat} {xs:List T} (h:∀x,x∈xs->OkD d x):OkD (d+1) (.tup xs):=by
 obtain⟨a1,a2,a3⟩:=kXq xs h
 exact⟨a1,by rw[td,PyData.canLay0];exact a2,by rw[td,PyData.depth];omega⟩
theorem OkD.mono {d d':Nat} {x:T} (h:OkD d x) (l:d<=d'):OkD d' x:=⟨h.tr,h.lay,lJ8 h.dep l⟩
theorem uK5 {W:Web} (h:1<=W.length) (k:Nat):1<=cnt W k:=by
 refine List.countP_pos_iff.mpr ⟨0,lJy.mpr h,?_⟩
 rw[isLd_iff];omega
theorem kVk {W:Web} (f:Fine W) (h:1<=W.length):∀n,(∀k,k<n->cnt W k≠cnt W (k+1))->n+1<=cnt W n
 | 0,_=>uK5 h 0
 | n+1,hk=>by
  have:=kVk f h n fun k hk'=>hk k (by omega)
  have:=cnt_up f n
  have:=hk n (by omega)
  omega
theorem kZr {W:Web} (f:Fine W) {r s:Nat} (hr:r<W.length) (hs:s<W.length) (h:∀j,j<W.length->Alk W j r s):∀j,Alk W j r s:=by
 have hc:∃k,k<W.length/\cnt W k=cnt W (k+1):=lKv fun z=>by
  have:=kVk f (by omega) W.length fun k hk e=>z ⟨k,hk,e⟩
  have h2:cnt W W.length<=W.length:=by unfold cnt;exact lJ8 List.countP_le_length (by simp)
  omega
 obtain⟨k,hk,e⟩:=hc
 intro j
 rcases lKk j W.length with z | z
 ·exact h j z
 ·have:=qKj f (fun r s hr hs=>uJf f e hr hs) (j-k) r s hr hs (h k hk)
  rwa [show k+(j-k)=j by omega] at this
theorem qXj {U V:Web} (fU:Fine U) (fV:Fine V) (hl:U.length+V.length<=1000) {r s:Nat} (hr:r<U.length) (hs:s<V.length) (h:∀p:List Nat,p.length<U.length+V.length->¬ PX (XL U V) U V p r s):∀p,¬ PX (XL U V) U V p r s:=by
 have fb:=qUr fU fV hl
 have lb:(both U V).length=U.length+V.length:=by simp[both]
 have e:∀p,PX (XL U V) U V p r s↔PW (both U V) p r (U.length+s):=fun p=>(qVr p r s).trans (kQ8 fU fV p r s hr hs)
 have hA:=kZr fb (r:=r) (s:=U.length+s) (by omega) (by omega) fun j hj=>(jUp fb j r (U.length+s) (by omega) (by omega)).mpr fun p hp z=>h p (by omega) ((e p).mpr z)
 intro p z
 exact (jUp fb p.length r (U.length+s) (by omega) (by omega)).mp (hA p.length) p (lJh _) ((e p).mp z)
def sT (W:Web) (r:Nat) (ds:List Nat):T:=match goW W r ds with
 | none=> .non
 | some es=>qV7 W r es
theorem jZh {W:Web} {r:Nat}:∀(ds:List Nat) (pre:List (Nat×Nat)),ds.foldl (fun o d=>o.bind fun es=>(en W (jK9 r es) d).map fun e=>es++[e]) (some pre)=(goW W (jK9 r pre) ds).map (pre++ ·)
 | [],pre=>by simp[goW]
 | d::ds,pre=>by
  unfold goW
  rw[lQx,(lQx)]
  simp only[lQl]
  rw[show jK9 (jK9 r pre) []=jK9 r pre from rfl]
  have hn:∀(q:Nat) (l:List Nat),l.foldl (fun o d=>o.bind fun es=>(en W (jK9 q es) d).map fun e=>es++[e]) none=none:=by
   intro q l
   induction l with
   | nil=>rfl
   | cons a l ih=>exact ih
  cases e:en W (jK9 r pre) d with
  | none=>
   simp only[Option.map_none]
   rw[hn,hn];rfl
  | some x=>
   simp only[lQ1,List.nil_append]
   rw[jZh ds (pre++[x]),jQd,jZh (W:=W) (r:=jK9 r pre) ds [x],Option.map_map]
   rw[show jK9 (jK9 r pre) [x]=x.1 from rfl]
   congr 1;funext l;simp
theorem jUe {W:Web} {r d:Nat} {ds:List Nat}:goW W r (d::ds)=(en W r d).bind fun e=>(goW W e.1 ds).map (e:: ·):=by
 show (d::ds).foldl _ (some [])=_
 have:=jZh (W:=W) (r:=r) (d::ds) []
 rw[show jK9 r []=r from rfl] at this
 cases e:en W r d with
 | none=>exact jZg (ds:=[d]) (ds':=ds) (by show (en W r d).map _=none;rw[e];rfl)
 | some x=>
  have h2:=jZh (W:=W) (r:=r) ds [x]
  rw[show jK9 r [x]=x.1 from rfl] at h2
  rw[lQx]
  simp only[lQl]
  rw[show jK9 r []=r from rfl,e]
  exact h2
theorem kZl {W:Web} {r:Nat}:degT W r= .int ((row W r).length:Nat):=rfl
theorem uJr {W:Web}:∀ {p:List Nat} {r s:Nat},PX (XL W W) W W p r s->∃es fs,goW W r p=some es/\goW W s p=some fs
 | [],_,_,_=>⟨[],[],rfl,rfl⟩
 | d::p,r,s,h=>by
  obtain⟨_,e,g,he,hg,z⟩:=h
  rw[jUe,jUe,he,hg]
  rcases z with ⟨_,rfl⟩ | ⟨_,z⟩
  ·exact⟨[e],[g],rfl,rfl⟩
  ·obtain⟨es,fs,h1,h2⟩:=uJr z
   refine⟨e::es,g::fs,?_,?_⟩
   ·simp only[lQl,h1];rfl
   ·simp only[lQl,h2];rfl
theorem jV8 {W:Web} {r:Nat} {ds:List Nat} {es:List (Nat×Nat)} (h:goW W r ds=some es):sT W r ds=qV7 W r es:=by unfold sT;rw[h]
theorem qUb {a b:Nat} (h:T.int (a:Nat)= .int (b:Nat)):a=b:=by injection h with h;omega
theorem jYa {W:Web} {r d:Nat} {p:List Nat} {e:Nat×Nat} {es:List (Nat×Nat)} (he:en W r d=some e) (h:goW W e.1 p=some es):sT W r (d::p)= .tup (degT W r:: .tup [.int (e.2:Nat),degT W e.1]::es.map fun e=>T.tup [.int (e.2:Nat),degT W e.1]):=by
 have:goW W r (d::p)=some (e::es):=by rw[jUe,he];simp only[lQl,h];rfl
 rw[jV8 this];rfl
theorem uJq {W:Web}:∀ {p:List Nat} {r s:Nat},PX (XL W W) W W p r s->sT W r p≠sT W s p
 | [],r,s,h=>fun z=>h (by
   have z:T.tup [degT W r]= .tup [degT W s]:=z
   simp only[T.tup.injEq,lK9,and_true] at z
   exact qUb z)
 | d::p,r,s,h=>by
  obtain⟨_,e,g,he,hg,z⟩:=h
  intro q
  rcases z with ⟨z,rfl⟩ | ⟨_,z⟩
  ·rw[jYa he rfl,jYa hg rfl] at q
   simp only[T.tup.injEq,lK9,and_true] at q
   exact z (qUb q.2.1)
  ·obtain⟨es,fs,h1,h2⟩:=uJr z
   rw[jYa he h1,jYa hg h2] at q
   simp only[T.tup.injEq,lK9,and_true] at q
   refine uJq z ?_
   rw[jV8 h1,jV8 h2]
   show T.tup (_::_)=T.tup (_::_)
   rw[q.2.1.2,q.2.2]
theorem uJp {W:Web}:∀ {ds:List Nat} {r s:Nat},sT W r ds≠sT W s ds->∃k,k<=ds.length/\PX (XL W W) W W (ds.take k) r s
 | [],r,s,h=>⟨0,lJh _,fun z=>h (by
   show T.tup [degT W r]= .tup [degT W s]
   rw[kZl,kZl,z])⟩
 | d::p,r,s,h=>by
  by_cases hl:(row W r).length=(row W s).length
  ·cases he:en W r d with
   | none=>
    have hg:en W s d=none:=by
     rw[jYx] at he ⊢
     rw[lX0] at he ⊢
     omega
    exact absurd (by unfold sT;rw[jUe,jUe,he,hg];rfl) h
   | some e=>
    obtain⟨g,hg⟩:∃g,en W s d=some g:=by
     rw[jYx] at he
     have:=(lJe.mp he).1
     exact⟨_,by rw[jYx];exact lJg (by omega)⟩
    by_cases h2:e.2=g.2
    ·have:sT W e.1 p≠sT W g.1 p:=fun z=>h (by
      cases h1:goW W e.1 p with
      | none=>
       cases h3:goW W g.1 p with
       | none=>unfold sT;rw[jUe,jUe,he,hg];simp only[lQl,h1,h3];rfl
       | some fs=>unfold sT at z;rw[h1,h3] at z;cases z
      | some es=>
       cases h3:goW W g.1 p with
       | none=>unfold sT at z;rw[h1,h3] at z;cases z
       | some fs=>
        rw[jV8 h1,jV8 h3] at z
        have z:T.tup (_::_)=T.tup (_::_):=z
        simp only[T.tup.injEq,lK9] at z
        rw[jYa he h1,jYa hg h3,z.1,z.2,h2,show degT W r=degT W s by rw[kZl,kZl,hl]])
     obtain⟨k,hk,hp⟩:=uJp this
     exact⟨k+1,by simpa using hk,fun z=>z hl,e,g,he,hg,.inr ⟨h2,hp⟩⟩
    ·exact⟨1,by simp,fun z=>z hl,e,g,he,hg,.inl ⟨h2,rfl⟩⟩
  ·exact⟨0,lJs _,hl⟩
def Aw (W:Web) (r s:Nat):Prop:=∀p,¬ PX (XL W W) W W p r s
theorem aw_iff {W:Web} {r s:Nat}:Aw W r s↔∀ds,sT W r ds=sT W s ds:=
 ⟨fun h ds=>lKv fun z=>let ⟨k,_,hp⟩:=uJp z;h _ hp,fun h p hp=>uJq hp (h p)⟩
theorem Aw.symm {W:Web} {r s:Nat} (h:Aw W r s):Aw W s r:=aw_iff.mpr fun ds=>(aw_iff.mp h ds).symm
theorem Aw.trans {W:Web} {r s t:Nat} (h:Aw W r s) (h':Aw W s t):Aw W r t:=aw_iff.mpr fun ds=>(aw_iff.mp h ds).trans (aw_iff.mp h' ds)
theorem qZl {W:Web}:∀(p:List Nat) (r s:Nat),PW2 W W p r s↔PW W p r s
 | [],r,s=>by rw[PW2,PW]
 | d::p,r,s=>by
  rw[PW2,PW]
  simp only[qZl p]
theorem px_pw {W:Web} {p:List Nat} {r s:Nat}:PX (XL W W) W W p r s↔PW W p r s:=(qVr p r s).trans (qZl p r s)
theorem aw_alk {W:Web} (f:Fine W) {r s:Nat} (hr:r<W.length) (hs:s<W.length):Aw W r s↔Alk W W.length r s:=by
 constructor
 ·exact fun h=>(jUp f _ r s hr hs).mpr fun p _ z=>h p (px_pw.mpr z)
 ·intro h p z
  have h1:=(jUp f _ r s hr hs).mp h
  have h2:=kZr f hr hs fun j hj=>(jUp f j r s hr hs).mpr fun p hp=>h1 p (by omega)
  exact (jUp f p.length r s hr hs).mp (h2 _) p (lJh _) (px_pw.mp z)
def PlN:Nat->T->Prop
 | 0,t=>t= .non\/∃i,t= .int i
 | n+1,t=>(t= .non\/∃i,t= .int i)\/∃ts,t= .tup ts/\∀u,u∈ts->PlN n u
theorem pl0 {t u:T} (ht:t= .non\/∃i,t= .int i) (hu:(u= .non\/∃i,u= .int i)\/∃ts,u= .tup ts):eqT t u=true↔t=u:=by
 rcases ht with rfl | ⟨i,rfl⟩<;>rcases hu with (rfl | ⟨j,rfl⟩) | ⟨ts,rfl⟩<;>simp[eqT]
theorem pl0' {t u:T} (hu:u= .non\/∃i,u= .int i) (ht:∃ts,t= .tup ts):eqT t u=true↔t=u:=by
 rcases ht with ⟨ts,rfl⟩
 rcases hu with rfl | ⟨j,rfl⟩<;>simp[eqT]
theorem qXl:∀(n:Nat) {t u:T},PlN n t->PlN n u->(eqT t u=true↔t=u)
 | 0,_,_,ht,hu=>pl0 ht (.inl hu)
 | n+1,t,u,ht,hu=>by
  rcases ht with ht | ⟨ts,rfl,hts⟩
  ·exact pl0 ht (hu.imp id fun ⟨ts,e,_⟩=>⟨ts,e⟩)
  ·rcases hu with hu | ⟨us,rfl,hus⟩
   ·exact pl0' hu ⟨ts,rfl⟩
   ·rw[show eqT (.tup ts) (.tup us)=eqTs ts us from rfl,kZg,T.tup.injEq]
    constructor
    ·rintro⟨h1,h2⟩
     apply lK1
     intro i
     cases e1:ts[i]? with
     | none=>rw[lX0] at e1;exact (lJ4 (by omega)).symm
     | some x=>
      have hi:=(lJe.mp e1).1
      have e2:=lJg (l:=us) (i:=i) (by omega)
      rw[e2,(qXl n (hts x (lJi e1)) (hus _ (lJi e2))).mp (h2 i x _ e1 e2)]
    ·rintro rfl
     exact⟨rfl,fun i x y hx hy=>by rw[hx] at hy;cases hy;exact (qXl n (hts x (lJi hx)) (hts x (lJi hx))).mpr rfl⟩
theorem jZ4 {n:Nat} {i:Int}:PlN n (.int i):=by
 cases n with
 | zero=>exact .inr ⟨i,rfl⟩
 | succ n=>exact .inl (.inr ⟨i,rfl⟩)
theorem pl_sT {W:Web} {r:Nat} {ds:List Nat}:PlN 2 (sT W r ds):=by
 unfold sT
 cases goW W r ds with
 | none=>exact .inl (.inl rfl)
 | some es=>
  refine .inr ⟨_,rfl,fun u hu=> ?_⟩
  rcases (lJl.mp hu) with rfl | hu
  ·exact jZ4
  ·obtain⟨e,_,rfl⟩:=lJk.mp hu
   refine .inr ⟨_,rfl,fun u hu=> ?_⟩
   simp only[lJl,lKd,lKy] at hu
   rcases hu with rfl | rfl
   ·exact jZ4
   ·exact jZ4
theorem ok_sT {W:Web} {r:Nat} {ds:List Nat}:eqOk (sT W r ds)=true:=by
 have:OkD 2 (sT W r ds):=by
  unfold sT
  cases goW W r ds with
  | none=>exact⟨rfl,rfl,by simp[td,PyData.depth]⟩
  | some es=>
   refine jZ7 fun x hx=> ?_
   rcases (lJl.mp hx) with rfl | hx
   ·exact okD_int.mono (by omega)
   ·obtain⟨e,_,rfl⟩:=lJk.mp hx
    refine jZ7 fun x hx=> ?_
    simp only[lKd,lJl,lKy] at hx
    rcases hx with rfl | rfl
    ·exact okD_int
    ·exact okD_int
 unfold eqOk
 rw[this.tr,this.lay,lKa (show (td (sT W r ds)).depth<=50 by have:=this.dep;omega)];rfl
noncomputable def jQs:Sp3:=fun xs G Q=>∃(b:Addr) (W:Web) (n:Nat),xs=[.ref b,encW W]/\BoxAt G b n/\n+1000<2^40/\AnyWeb W/\∀nu V G',Turn W.length nu->Ren W nu V->BoxAt G' b (n+W.length)->Keep b G G'->Q (.tup [encW V,.tup (jJk nu)]) G'
def kYd:List Str:=["_law_box_here","_law_web_here","_law_numbers","_law_made","_law_room","_law_other","_law_door"]
noncomputable def jVn:TS3:=
 (tSeq (tAsg (jJr jXo (jJc (tVar 0) (jJc (tCB rLen (jJc (tVar 1) tNil)) (jJc (tC (.bl false)) tNil)))) (jJi 2))
 (tSeq (tAsg (tOp jVd (tLst (jJc (tC .non) tNil)) (tCB rLen (jJc (tVar 1) tNil))) (jJi 3))
 (tSeq (tFor (jJ6 (jJc (tCB rLen (jJc (tVar 1) tNil)) tNil)) (jJi 4) (tAsg (tCB jJ7 (jJc (jQu [false,false,false,false,false,true,true] (iSeq (tOp rIxF (tVar 1) (tVar 4))) (gTup 2 (jKl (jJi 5) (jKl (jJi 6) gNil))) jV0 (tTup (jJc (tOp rIxF (tVar 2) (tVar 5)) (jJc (tVar 6) tNil)))) tNil)) (gSub (tVar 3) (tOp rIxF (tVar 2) (tVar 4)) jVs)))
 (tRet (tTup (jJc (tCB jJ7 (jJc (tVar 3) tNil)) (jJc (tVar 2) tNil)))))))
theorem kJ5:RdOk jQs jVn kYd:=by
 intro xs G Q h_;apply xe3 h_;clear h_;intro b W n h_;apply ae4 h_;clear h_;intro hb hn any kk
 show jVn _ [some (.ref b),some (.tup (W.map encR)),none,none,none,none,none] G
 have hs:=sz
 have hW1:=any.pos
 have hW2:=any.len
 have fine:=any.fine
 wp_walk using 1,jVn,jJw,jJ6,List.length_map
 refine⟨b,W.length,n,false,rfl,hb,by omega,hW1,by omega,fun nu G1 t _ b1 k1=> ?_⟩
 obtain⟨bo,hbo⟩:=b1.some
 wp_walk using 1,List.length_map
 refine⟨by omega,fun z hz=> ?_⟩
 have e1:mulR (gup G1 z (GO.lst [T.non])) (.ref z) (.int (W.length:Nat))=some (.newL (List.replicate W.length T.non)):=by
  simp only[mulR,jJg];rw[lJc]
  ·congr 2
   rw[show ((W.length:Nat):Int).toNat=W.length by omega]
   induction W.length with
   | zero=>rfl
   | succ n ih=>rw[lK6,lQw,ih,lK6];rfl
  ·refine⟨?_,?_,?_⟩<;>simp<;>omega
 refine⟨_,e1,?_⟩
 rw[kQ1]
 intro p hp
 have hbz:b≠z:=jJf hbo hz
 have hzp:z≠p:=jJf (jJg (G:=G1) (a:=z) (o:= .lst [T.non])) hp
 have hp1:G1 p=none:=by rw[jJm hzp.symm] at hp;exact hp
 have hbp:b≠p:=jJf hbo hp1
 have hpG:G p=none:=k1.none hbp.symm hp1
 refine⟨by omega,by omega,?_⟩
 refine⟨fun k τ G'=>∃(v4 v5 v6:Option T) (ms:List T),τ=[some (.ref b),some (.tup (W.map encR)),some (.tup (jJk nu)),some (.ref p),v4,v5,v6]/\G' p=some (.lst ms)/\ms.length=W.length/\(∀(r:Nat) (es:List (Nat×Nat)),r<k->W[r]? =some es->ms[nuF nu r]? =some (encR (renE nu es)))/\Sub G1 G',?_,?_,?_,?_⟩
 ·exact⟨none,none,none,_,rfl,jJg,by simp,fun r es h=>absurd h (lKx _),(Sub.new hz).trans (.new hp)⟩
 ·intros;trivial
 ·intro k y τ G2 hy h_;apply xe4 h_;clear h_;intro v4 v5 v6 ms h_;apply ae4 h_;clear h_;intro h1 h2 h3 h4
  obtain⟨hk,rfl⟩:=jQ0 hy
  have hk':k<W.length:=by omega
  have he:W[k]? =some W[k]:=lJg hk'
  generalize W[k]=es at he
  have hel:=any.deg k es he
  obtain⟨x,hx,hxl⟩:=t.at hk'
  wp_walk using 1,iSeq,jKz he,encR
  refine jQb (fun e=>encE (nuF nu e.1,e.2)) (by omega) (fun _ _=>trivial) ?_ ?_
  ·intro i e hi G3 K K0 s hK
   have hex:=fine.rng k i e.1 e.2 (jK1 he hi)
   obtain⟨y,hy,_⟩:=t.at hex
   wp_walk using 1,encE,qVm hy
   rw[encE,jYs hy] at hK
   exact⟨by omega,hK G3 (.refl _)⟩
  ·intro D G3 hD q1 q2
   refine⟨_,jJn q1,?_⟩
   have hp3:=q2 _ _ h1
   wp_walk using 1,qVm hx,qKr hp3
   rw[kQw (show x<ms.length by rw[h2];exact hxl)]
   refine⟨_,rfl,ms.set x (encR (renE nu es)),(by show gup _ _ _ _=_;rw[jJg,encR,renE,lJ6];rfl),by rw[lQq];exact h2,fun r es' hr he'=> ?_,(h4.trans q2).over hp1⟩
   rcases Nat.lt_or_eq_of_le (lVw hr) with h | rfl
   ·rw[lKl (fun e=> ?_)]
    ·exact h3 r es' h he'
    ·have:=uJ5 t ((jYs hx).trans e)
     omega
   ·rw[he] at he';cases he'
    rw[jYs hx,lKw (by rw[h2];exact hxl)];rfl
 ·intro τ G2 h_;apply xe4 h_;clear h_;intro v4 v5 v6 ms h_;apply ae4 h_;clear h_;intro h1 h2 h3 h4
  wp_walk using 1,tSeq
  refine⟨_,jJn h1,by omega,?_⟩
  rw[uJ7 t (qK4 t) h2 fun r es hr=>h3 r es (by rw[rngT,lJf,lK8];omega)]
  exact kk nu (renW W nu) G2 t (qK4 t) (b1.sub h4) (k1.trans (.sub h4))
def line (n:Nat):Web:=(List.range n).map fun r=>[if r>0 then (r-1,1) else (0,0),if r<n-1 then (r+1,0) else (r,1)]
theorem jXf {n r:Nat} (h:r<n):(line n)[r]? =some [if r>0 then (r-1,1) else (0,0),if r<n-1 then (r+1,0) else (r,1)]:=by simp[line,h]
theorem uK0 {n r i s j:Nat} (h:en (line n) r i=some (s,j)):r<n/\((i=0/\r>0/\s=r-1/\j=1)\/(i=0/\r=0/\s=0/\j=0)\/(i=1/\r<n-1/\s=r+1/\j=0)\/(i=1/\r=n-1/\s=r/\j=1)):=by
 have hr:=kJp h
 rw[show (line n).length=n by simp[line]] at hr
 obtain⟨es,h1,h2⟩:=jK0 h
 rw[jXf hr] at h1;cases h1
 refine⟨hr,?_⟩
 have hi:=(lJe.mp h2).1
 simp at hi
 have:i=0\/i=1:=by omega
 rcases this with rfl | rfl
 ·simp at h2
  by_cases h0:r>0
  ·rw[lJc h0] at h2;cases h2;exact .inl ⟨rfl,h0,rfl,rfl⟩
  ·rw[lJb h0] at h2;cases h2;exact .inr (.inl ⟨rfl,by omega,rfl,rfl⟩)
 ·simp at h2
  by_cases h0:r<n-1
  ·rw[lJc h0] at h2;cases h2;exact .inr (.inr (.inl ⟨rfl,h0,rfl,rfl⟩))
  ·rw[lJb h0] at h2;cases h2;exact .inr (.inr (.inr ⟨rfl,by omega,rfl,rfl⟩))
theorem kY1 {n r:Nat} (h:r<n) (h0:r>0):en (line n) r 0=some (r-1,1):=jK1 (jXf h) (by simp[h0])
theorem uKb {n:Nat} (hn:1<=n):WebOk n 2 (line n) where
 len:=by simp[line]
 sym:=by
  intro r i s j h
  obtain⟨hr,h⟩:=uK0 h
  rcases h with ⟨rfl,h0,rfl,rfl⟩ | ⟨rfl,rfl,rfl,rfl⟩ | ⟨rfl,h0,rfl,rfl⟩ | ⟨rfl,h0,rfl,rfl⟩
  ·rw[jK1 (jXf (show r-1<n by omega)) (e:=(r,0)) (i:=1)]
   simp only[List.getElem?_cons_succ,List.getElem?_cons_zero]
   rw[lJc (by omega)];congr 2;omega
  ·exact jK1 (jXf hr) (by simp)
  ·rw[kY1 (by omega) (by omega)];rfl
  ·exact jK1 (jXf hr) (by simp only[List.getElem?_cons_succ,List.getElem?_cons_zero];rw[lJb (by omega)])
 deg:=fun r es h=>by
  have hr:r<n:=by have:=(lJe.mp h).1;simpa[line] using this
  rw[jXf hr] at h;cases h;simp
 low:=fun r h1 h2=>⟨0,r-1,1,kY1 h2 (by omega),by omega⟩
def jXp:Sp3:=fun xs G Q=>∃n:Nat,xs=[.int n]/\1<=n/\n<=1000/\∀G',Sub G G'->Q (encW (line n)) G'
def qZe:List Str:=["_law_many","_law_made","_law_room","_law_back","_law_ahead"]
noncomputable def jZ0:TS3:=
 (tSeq (tAsg (tLst tNil) (jJi 1))
 (tSeq (tFor (jJ6 (jJc (tVar 0) tNil)) (jJi 2) (tSeq (tAsg (tIf (jJ1 (tOp rGt (tVar 2) (tC (.int 0)))) (tTup (jJc (tOp rSub (tVar 2) (tC (.int 1))) (jJc (tC (.int 1)) tNil))) (tTup (jJc (tC (.int 0)) (jJc (tC (.int 0)) tNil)))) (jJi 3))
 (tSeq (tAsg (tIf (jJ1 (tOp rLt (tVar 2) (tOp rSub (tVar 0) (tC (.int 1))))) (tTup (jJc (tOp jKh (tVar 2) (tC (.int 1))) (jJc (tC (.int 0)) tNil))) (tTup (jJc (tVar 2) (jJc (tC (.int 1)) tNil)))) (jJi 4))
 (jK2 (tBM "list" jJ8 (tVar 1) (jJc (tTup (jJc (tVar 3) (jJc (tVar 4) tNil))) tNil))))))
 (tRet (tCB jJ7 (jJc (tVar 1) tNil)))))
theorem kXd:RdOk jXp jZ0 qZe:=by
 intro xs G Q h_;apply xe1 h_;clear h_;intro n h_;apply ae3 h_;clear h_;intro hn1 hn kk
 show jZ0 _ [some (.int n),none,none,none,none] G
 have hs:=sz
 wp_walk using 1,jZ0,jJw,jJ6
 refine⟨by omega,fun p hp=>⟨by omega,by omega,?_⟩⟩
 rw[show ((n:Nat):Int).toNat=n by omega]
 refine⟨fun k τ G'=>∃(v2 v3 v4:Option T),τ=[some (.int n),some (.ref p),v2,v3,v4]/\G' p=some (.lst (((line n).take k).map encR))/\Sub G G',?_,?_,?_,?_⟩
 ·exact⟨none,none,none,rfl,by rw[List.take_zero];exact jJg,.new hp⟩
 ·intros;trivial
 ·intro k y τ G1 hy h_;apply xe3 h_;clear h_;intro v2 v3 v4 h_;apply ae2 h_;clear h_;intro h1 h2
  obtain⟨hk,rfl⟩:=jQ0 hy
  have tk:((line n).take (k+1)).map encR=((line n).take k).map encR++[encR [if k>0 then (k-1,1) else (0,0),if k<n-1 then (k+1,0) else (k,1)]]:=by
   rw[lQ2,jXf hk];simp
  have hlen:(((line n).take k).map encR).length<sizeLine:=by simp[line];omega
  have hty:tyT G1 "list" (T.ref p):=by rw[jKd h1];trivial
  wp_walk using 1,h1
  by_cases h0:0<k
  ·rw[lJc (by omega)]
   refine⟨by omega,?_⟩
   by_cases h3:k<n-1
   ·rw[lJc (by omega)]
    refine⟨by omega,hty,by omega,hlen,?_,h2.over hp⟩
    rw[tk,lJc h0,lJc h3,show ((k:Int)-1)=((k-1:Nat):Int) by omega];rfl
   ·rw[lJb (by omega)]
    refine⟨by omega,hty,by omega,hlen,?_,h2.over hp⟩
    rw[tk,lJc h0,lJb h3,show ((k:Int)-1)=((k-1:Nat):Int) by omega];rfl
  ·rw[lJb (by omega)]
   refine⟨by omega,?_⟩
   by_cases h3:k<n-1
   ·rw[lJc (by omega)]
    refine⟨by omega,hty,by omega,hlen,?_,h2.over hp⟩
    rw[tk,lJb h0,lJc h3];rfl
   ·rw[lJb (by omega)]
    refine⟨by omega,hty,by omega,hlen,?_,h2.over hp⟩
    rw[tk,lJb h0,lJb h3];rfl
 ·intro τ G1 h_;apply xe3 h_;clear h_;intro v2 v3 v4 h_;apply ae2 h_;clear h_;intro h1 h2
  rw[jKu,List.take_of_length_le (by simp[line])] at h1
  wp_walk using 1,tSeq
  exact⟨_,jJn h1,kk G1 h2⟩
def Kp (S:List Addr) (G G':Gp):Prop:=∀x o,x∉S->G x=some o->G' x=some o
theorem Kp.refl (S:List Addr) (G:Gp):Kp S G G:=fun _ _ _ h=>h
theorem Kp.trans {S:List Addr} {G G1 G2:Gp} (h:Kp S G G1) (h':Kp S G1 G2):Kp S G G2:=fun x o hx e=>h' x o hx (h x o hx e)
theorem Kp.sub {S:List Addr} {G G':Gp} (h:Sub G G'):Kp S G G':=fun x o _ e=>h x o e
theorem Kp.gup {S:List Addr} {a:Addr} {G:Gp} {o:GO} (h:a∈S):Kp S G (gup G a o):=fun x u hx e=>by rw[jJm (by rintro rfl;exact hx h)];exact e
theorem Kp.over {S:List Addr} {p:Addr} {G G':Gp} {o:GO} (h:Kp S G G') (hp:G p=none):Kp S G (L3.gup G' p o):=fun x u hx e=>by rw[jJm (by rintro rfl;rw[hp] at e;cases e)];exact h x u hx e
theorem Kp.none {S:List Addr} {p:Addr} {G G':Gp} (h:Kp S G G') (hb:p∉S) (hp:G' p=none):G p=none:=by
 cases e:G p with
 | none=>rfl
 | some o=>rw[h _ _ hb e] at hp;cases hp
noncomputable def jXn:Sp3:=fun xs G Q=>∃(b:Addr) (W:Web) (r m n:Nat),xs=[.ref b,encW W,.int r,.int m]/\BoxAt G b n/\n+300<2^40/\Fine W/\r<W.length/\m<=60/\∀ds es G',goW W r ds=some es->ds.length<=60->BoxAt G' b (n+100)->Keep b G G'->Q (.tup (jJk ds)) G'
def uQg:List Str:=["_law_box_here","_law_web_here","_law_room","_law_most","_law_way_here","_law_turn_here"]
noncomputable def kQm:TS3:=
 (tSeq (tAsg (tLst tNil) (jJi 4))
 (tSeq (tFor (jJ6 (jJc (jJr jJp (jJc (tVar 0) (jJc (tOp jKh (tVar 3) (tC (.int 1))) tNil))) tNil)) (jJi 5) (tIfS (jJ1 (tOp rGt (tCB rLen (jJc (tOp rIxF (tVar 1) (tVar 2)) tNil)) (tC (.int 0)))) (tSeq (jK2 (tBM "list" jJ8 (tVar 4) (jJc (jJr jJp (jJc (tVar 0) (jJc (tCB rLen (jJc (tOp rIxF (tVar 1) (tVar 2)) tNil)) tNil))) tNil)))
 (tAsg (tOp rIxF (tOp rIxF (tOp rIxF (tVar 1) (tVar 2)) (tOp rIxF (tVar 4) (tUn rNeg (tC (.int 1))))) (tC (.int 0))) (jJi 2))) jKr))
 (tRet (tCB jJ7 (jJc (tVar 4) tNil)))))
theorem kZ9:RdOk jXn kQm uQg:=by
 intro xs G Q h_;apply xe5 h_;clear h_;intro b W r m n h_;apply ae6 h_;clear h_;intro hb hn fine hr hm kk
 show kQm _ [some (.ref b),some (.tup (W.map encR)),some (.int r),some (.int m),none,none] G
 have hs:=sz
 wp_walk using 1,kQm,jJw,jJ6
 refine⟨by omega,fun p hp=> ?_⟩
 obtain⟨bo,hbo⟩:=hb.some
 have hbp:=jJf hbo hp
 refine⟨b,_,n,rfl,hb.gup hbp,by omega,by omega,by omega,fun ti G1 h0 h1 hb1 k1=> ?_⟩
 obtain⟨t,rfl⟩:=lKj h0
 have ht:t<=60:=by omega
 refine⟨_,rfl,by omega,by omega,?_⟩
 rw[show ((t:Nat):Int).toNat=t by omega,jQz]
 refine⟨fun k τ G'=>∃(v5:Option T) (ds:List Nat) (es:List (Nat×Nat)),τ=[some (.ref b),some (.tup (W.map encR)),some (.int (jK9 r es:Nat)),some (.int m),some (.ref p),v5]/\G' p=some (.lst (jJk ds))/\goW W r ds=some es/\ds.length<=k/\BoxAt G' b (n+1+k)/\Keep b G G',?_,?_,?_,?_⟩
 ·exact⟨none,[],[],rfl,k1 _ _ hbp.symm jJg,rfl,lJh _,hb1,(Keep.new hp).trans k1⟩
 ·intros;trivial
 ·intro k y τ G2 hy h_;apply xe3 h_;clear h_;intro v5 ds es h_;apply ae5 h_;clear h_;intro h2 h3 h4 h5 h6
  obtain⟨k',hk',rfl⟩:=jK5 hy
  have hk:k<t:=by have:=(lJe.mp hk').1;simpa using this
  obtain⟨b1,b2,b3⟩:=kVd fine hr h3
  obtain⟨row,hrow,hen⟩:=kUm b1
  have hrl:=fine.row _ _ hrow
  wp_walk using 1,jKz hrow,encR,List.length_map
  by_cases h0:0<row.length
  ·rw[lJc (by omega)]
   refine⟨by rw[jKd h2];trivial,b,_,_,rfl,h5,by omega,by omega,by omega,fun di G3 d0 d1 hb3 k3=> ?_⟩
   obtain⟨d,rfl⟩:=lKj d0
   have hd:d<row.length:=by omega
   have hp3:=k3 _ _ hbp.symm h2
   obtain⟨e,he⟩:∃e,row[d]? =some e:=⟨_,lJg hd⟩
   have hgo:goW W r (ds++[d])=some (es++[e]):=by rw[jZf,h3];simp[hen,he]
   have e1:jJk ds++[T.int (d:Nat)]=jJk (ds++[d]):=by simp[jJk]
   have hlast:L2.atI (jJk (ds++[d])) (-1)=some (.int (d:Nat)):=by rw[show jJk (ds++[d])=jJk ds++[T.int (d:Nat)] by simp[jJk]];exact qVl
   refine⟨_,hp3,by simp[jJk];omega,?_⟩
   rw[e1]
   refine⟨_,hlast,_,kQ2 he,_,rfl,_,ds++[d],es++[e],by rw[jQd],rfl,rfl,hgo,by simp;omega,(by have:=hb3.gup (o:= .lst (jJk (ds++[d]))) hbp;rwa [show n+1+k+1=n+1+(k+1) by omega] at this),(h6.trans k3).over hp⟩
  ·rw[lJb (by omega)]
   exact⟨_,ds,es,rfl,rfl,h2,h3,by omega,h5.mono (by omega),h6⟩
 ·intro τ G2 h_;apply xe3 h_;clear h_;intro v5 ds es h_;apply ae5 h_;clear h_;intro h2 h3 h4 h5 h6
  rw[lJf,lK8] at h4 h5
  wp_walk using 1,tSeq
  exact⟨_,jJn h2,kk ds es G2 h3 (by omega) (h5.mono (by omega)) h6⟩
def BkR (W:Web):List Nat->Nat->Nat->Prop
 | [],r,r0=>r=r0
 | c::cs,r,r0=>∃e,en W r c=some e/\BkR W cs e.1 r0
structure SameS (s s':WS):Prop where
 rm:s'.rm=s.rm
 hd:s'.hd=s.hd
 ly:s'.ly=s.ly
noncomputable def jUz:Sp3:=fun xs G Q=>∃(a l p:Addr) (W:Web) (s:WS) (cs:List Nat) (r0:Nat),xs=[.ref a,.ref p]/\WkAt G a l W s/\Fine W/\G p=some (.lst (jJk cs))/\BkR W cs.reverse s.rm r0/\∀s' G',WkAt G' a l W s'->s'.rm=r0->s'.hd=s.hd->s'.ly=s.ly->s.wk<=s'.wk->Kp [a] G G'->Q .non G'
def qJ4:List Str:=["walker","doors","door"]
noncomputable def jXb:TS3:=
 (tFor (iRev (jJc (tVar 1) tNil)) (jJi 2) (jK2 (jKm "Walker" "go" jKq (tVar 0) (jJc (tVar 2) tNil))))
theorem kQf:RdOk jUz jXb qJ4:=by
 intro xs G Q h_;apply xe7 h_;clear h_;intro a l p W s cs r0 h_;apply ae5 h_;clear h_;intro h fine hp hbk kk
 show jXb _ [some (.ref a),some (.ref p),none] G
 have hpa:p≠a:=by rintro rfl;rw[h.1] at hp;cases hp
 wp_walk using 1,jXb,jJw,iRev
 have lt:∀G':Gp,G' p=some (.lst (jJk cs))->jQ8 G' (.ref p)=some (jJk cs):=fun G' z=>by simp only[jQ8,z,asL]
 refine⟨_,lt G hp,?_⟩
 have e1:(jJk cs).reverse=jJk cs.reverse:=by simp[jJk]
 rw[e1]
 refine⟨fun k τ G'=>∃(v2:Option T) (s':WS),τ=[some (.ref a),some (.ref p),v2]/\WkAt G' a l W s'/\BkR W (cs.reverse.drop k) s'.rm r0/\s'.hd=s.hd/\s'.ly=s.ly/\s.wk<=s'.wk/\Kp [a] G G',?_,?_,?_,?_⟩
 ·exact⟨none,s,rfl,h,hbk,rfl,rfl,lJh _,.refl _ _⟩
 ·intro k τ G1 _ h_;apply xe2 h_;clear h_;intro v2 s' h_;apply ae6 h_;clear h_;intro h1 h2 h3 h4 h5 h6
  exact lt _ (h6 _ _ (by simpa using hpa) hp)
 ·intro k y τ G1 hy h_;apply xe2 h_;clear h_;intro v2 s' h_;apply ae6 h_;clear h_;intro h1 h2 h3 h4 h5 h6
  obtain⟨c,hc,rfl⟩:=jK5 hy
  have hk:=(lJe.mp hc).1
  have hdr:cs.reverse.drop k=c::cs.reverse.drop (k+1):=by
   (rw[List.drop_eq_getElem_cons hk])
   congr 1
   rw[lJg hk] at hc;exact lJ7 hc
  rw[hdr] at h2
  obtain⟨e,he,h2⟩:=h2
  wp_walk using 1,jKm
  refine⟨jYg h1.1,a,l,W,s',c,e,rfl,h1,fine,he,goS s' e,h1.gup rfl,h2,h3,h4,by show _<=s'.wk+1;omega,h6.trans (.gup (by simp))⟩
 ·intro τ G1 h_;apply xe2 h_;clear h_;intro v2 s' h_;apply ae6 h_;clear h_;intro h1 h2 h3 h4 h5 h6
  have hl:(jJk cs.reverse).length=cs.reverse.length:=by simp[jJk]
  rw[hl,List.drop_length] at h2
  wp_walk using 1,tSeq
  exact kk s' G1 h1 h2 h3 h4 h5 h6
noncomputable def jX6:Sp3:=fun xs G Q=>∃(a l:Addr) (W:Web) (s:WS) (ds:List Nat),xs=[.ref a,.tup (jJk ds)]/\WkAt G a l W s/\Fine W/\Sym W/\s.rm<W.length/\ds.length<=1000/\∀s' G',WkAt G' a l W s'->SameS s s'->(∀k,k<=ds.length->(goW W s.rm (ds.take k)).isSome=true->s.wk+k<=s'.wk)->Kp [a] G G'->Q (sT W s.rm ds) G'
def qVs:List Str:=["walker","way","here","told","back","door"]
noncomputable def jYc:TS3:=
 (tSeq (tAsg (jKm "Walker" "here" jJy (tVar 0) tNil) (jJi 2))
 (tSeq (tAsg (tLst (jJc (tOp rIxF (tVar 2) (tC (.int 0))) tNil)) (jJi 3))
 (tSeq (tAsg (tLst tNil) (jJi 4))
 (tSeq (tFor (iSeq (tVar 1)) (jJi 5) (tSeq (tIfS (jJ1 (tOp rGe (tVar 5) (tOp rIxF (tVar 2) (tC (.int 0))))) qKh jKr)
 (tSeq (tAsg (jKm "Walker" "go" jKq (tVar 0) (jJc (tVar 5) tNil)) (jJi 2))
 (tSeq (jK2 (tBM "list" jJ8 (tVar 4) (jJc (tOp rIxF (tVar 2) (tC (.int 1))) tNil)))
 (jK2 (tBM "list" jJ8 (tVar 3) (jJc (tTup (jJc (tOp rIxF (tVar 2) (tC (.int 1))) (jJc (tOp rIxF (tVar 2) (tC (.int 0))) tNil))) tNil)))))))
 (tSeq (jK2 (jJr jUz (jJc (tVar 0) (jJc (tVar 4) tNil))))
 (tRet (tIf (jJ1 (tOp rEqA (tCB rLen (jJc (tVar 4) tNil)) (tCB rLen (jJc (tVar 1) tNil)))) (tCB jJ7 (jJc (tVar 3) tNil)) (tC .non))))))))
noncomputable def kYt:TS3:=(tSeq (jK2 (jJr jUz (jJc (tVar 0) (jJc (tVar 4) tNil))))
 (tRet (tIf (jJ1 (tOp rEqA (tCB rLen (jJc (tVar 4) tNil)) (tCB rLen (jJc (tVar 1) tNil)))) (tCB jJ7 (jJc (tVar 3) tNil)) (tC .non))))
theorem kQi:jYc=(tSeq (tAsg (jKm "Walker" "here" jJy (tVar 0) tNil) (jJi 2)) (tSeq (tAsg (tLst (jJc (tOp rIxF (tVar 2) (tC (.int 0))) tNil)) (jJi 3)) (tSeq (tAsg (tLst tNil) (jJi 4)) (tSeq (tFor (iSeq (tVar 1)) (jJi 5) (tSeq (tIfS (jJ1 (tOp rGe (tVar 5) (tOp rIxF (tVar 2) (tC (.int 0))))) qKh jKr)
 (tSeq (tAsg (jKm "Walker" "go" jKq (tVar 0) (jJc (tVar 5) tNil)) (jJi 2))
 (tSeq (jK2 (tBM "list" jJ8 (tVar 4) (jJc (tOp rIxF (tVar 2) (tC (.int 1))) tNil)))
 (jK2 (tBM "list" jJ8 (tVar 3) (jJc (tTup (jJc (tOp rIxF (tVar 2) (tC (.int 1))) (jJc (tOp rIxF (tVar 2) (tC (.int 0))) tNil))) tNil))))))) kYt)))):=rfl
theorem qUj {W:Web} {r k:Nat} {ds:List Nat} (h:(goW W r ds).isSome=true):(goW W r (ds.take k)).isSome=true:=by
 cases e:goW W r (ds.take k) with
 | some _=>rfl
 | none=>
  have:=jZg (ds':=ds.drop k) e
  rw[lVy] at this
  rw[this] at h;exact h
def jXj (es:List (Nat×Nat)):List Nat:=es.map Prod.snd
theorem uQa {W:Web} (sy:Sym W):∀(ds:List Nat) {r:Nat} {es:List (Nat×Nat)},goW W r ds=some es->BkR W (jXj es).reverse (jK9 r es) r:=by
 intro ds
 refine qKp (P:=fun ds=>∀ {r:Nat} {es:List (Nat×Nat)},goW W r ds=some es->BkR W (jXj es).reverse (jK9 r es) r) ?_ ?_ ds
 ·intro r es h;cases h;rfl
 ·intro ds d ih r es h
  rw[jZf] at h
  cases e1:goW W r ds with
  | none=>rw[e1] at h;cases h
  | some es1=>
   rw[e1] at h
   simp only[lQl] at h
   cases e2:en W (jK9 r es1) d with
   | none=>rw[e2] at h;cases h
   | some e=>
    rw[e2] at h;cases h
    rw[jQd]
    have:(jXj (es1++[e])).reverse=e.2::(jXj es1).reverse:=by simp[jXj]
    rw[this]
    exact⟨_,sy _ _ _ _ e2,ih e1⟩
theorem sbR {G:Gp} {Q:VK3} {a l p q:Addr} {W:Web} {s s':WS} {ds:List Nat} {k:Nat} {es:List (Nat×Nat)} {v2 v5:Option T} (h:WkAt G a l W s') (fine:Fine W) (sy:Sym W) (hq:G q=some (.lst (jJk (jXj es)))) (hp:G p=some (.lst (degT W s.rm::es.map fun e=>T.tup [.int (e.2:Nat),degT W e.1])))
  (hg:goW W s.rm (ds.take k)=some es) (hk:k<=ds.length) (hno:k<ds.length->goW W s.rm ds=none) (hdl:ds.length<=1000) (hrm:s'.rm=jK9 s.rm es) (kk:∀s2 G',WkAt G' a l W s2->s2.rm=s.rm->s2.hd=s'.hd->s2.ly=s'.ly->s'.wk<=s2.wk->Kp [a] G G'->Q (sT W s.rm ds) G'):
  kYt {nx:=fun _ G'=>Q .non G',rt:=Q} [some (.ref a),some (.tup (jJk ds)),v2,some (.ref p),some (.ref q),v5] G:=by
 have hs:=sz
 have hel:es.length=k:=by
  have:∀(ds:List Nat) {r:Nat} {es:List (Nat×Nat)},goW W r ds=some es->es.length=ds.length:=by
   intro ds
   induction ds with
   | nil=>intro r es h;cases h;rfl
   | cons d ds ih=>
    intro r es h
    rw[jUe] at h
    obtain⟨e,_,h⟩:=Option.bind_eq_some_iff.mp h
    obtain⟨fs,h1,rfl⟩:=lKg.mp h
    rw[lJz,lJz,ih h1]
  rw[this _ hg,lQd];omega
 wp_walk using 1,kYt,rEqA
 refine⟨a,l,q,W,s',jXj es,s.rm,rfl,h,fine,hq,by rw[hrm];exact uQa sy _ hg,fun s2 G' h2 r2 d2 l2 w2 k2=> ?_⟩
 have hqa:q≠a:=by rintro rfl;rw[h.1] at hq;cases hq
 have hpa:p≠a:=by rintro rfl;rw[h.1] at hp;cases hp
 have hq2:=k2 _ _ (by simpa using hqa) hq
 have hp2:=k2 _ _ (by simpa using hpa) hp
 have lb:(jJk (jXj es)).length=k:=by simp[jJk,jXj,hel]
 have ld:(jJk ds).length=ds.length:=by simp[jJk]
 refine⟨_,jJn hq2,_,jU8,?_⟩
 rw[lb,ld]
 have fin:=kk s2 G' h2 r2 d2 l2 w2 k2
 by_cases z:k=ds.length
 ·rw[lJc (by simpa using z)]
  rw[z,lQs] at hg
  refine⟨_,jJn hp2,?_⟩
  rw[jV8 hg] at fin
  exact fin
 ·rw[lJb (by simpa using z)]
  have:sT W s.rm ds= .non:=by unfold sT;rw[hno (by omega)]
  rw[this] at fin
  exact fin
theorem here0 {W:Web} {s:WS} {G:Gp}:ixR G (qJv W s) (.int 0)=some (.int (dg W s.rm:Nat))/\ixR G (qJv W s) (.int 1)=some (cmT s.cm):=⟨rfl,rfl⟩
theorem kUo:RdOk jX6 jYc qVs:=by
 intro xs G Q h_;apply xe5 h_;clear h_;intro a l W s ds h_;apply ae6 h_;clear h_;intro h fine sy hr hdl kk
 show jYc _ [some (.ref a),some (.tup (jJk ds)),none,none,none,none] G
 have hs:=sz
 wp_walk using 1,kQi,jKm,jJw,iSeq,rGe,here0
 refine⟨jYg h.1,a,l,W,s,rfl,h,hr,_,here0.1,by omega,fun p hp=>⟨lJs _,fun q hq=> ?_⟩⟩
 have hpq:p≠q:=jJf (jJg (G:=G) (a:=p) (o:= .lst [T.int (dg W s.rm:Nat)])) hq
 have hq0:G q=none:=by rw[jJm hpq.symm] at hq;exact hq
 have hap:a≠p:=jJf h.1 hp
 have haq:a≠q:=jJf h.1 hq0
 have hlp:l≠p:=jJf h.2 hp
 have hlq:l≠q:=jJf h.2 hq0
 let J1:Nat->St3->Gp->Prop:=fun k τ G'=>∃(v5:Option T) (s':WS) (es:List (Nat×Nat)),τ=[some (.ref a),some (.tup (jJk ds)),some (qJv W s'),some (.ref p),some (.ref q),v5]/\WkAt G' a l W s'/\goW W s.rm (ds.take k)=some es/\s'.rm=jK9 s.rm es/\s'.hd=s.hd/\s'.ly=s.ly/\s'.wk=s.wk+k/\G' q=some (.lst (jJk (jXj es)))/\G' p=some (.lst (degT W s.rm::es.map fun e=>T.tup [.int (e.2:Nat),degT W e.1]))/\Kp [a] G G'
 have fin:∀(k:Nat) (s':WS) (es:List (Nat×Nat)) (G':Gp) (v2 v5:Option T),WkAt G' a l W s'->goW W s.rm (ds.take k)=some es->s'.rm=jK9 s.rm es->s'.hd=s.hd->s'.ly=s.ly->s'.wk=s.wk+k->G' q=some (.lst (jJk (jXj es)))->G' p=some (.lst (degT W s.rm::es.map fun e=>T.tup [.int (e.2:Nat),degT W e.1]))->Kp [a] G G'->k<=ds.length->(k<ds.length->goW W s.rm (ds.take (k+1))=none)->kYt {nx:=fun _ G'=>Q .non G',rt:=Q} [some (.ref a),some (.tup (jJk ds)),v2,some (.ref p),some (.ref q),v5] G':=by
  intro k s' es G' v2 v5 h1 h2 h3 h4 h5 h6 h7 h8 h9 hk hn
  refine sbR h1 fine sy h7 h8 h2 hk (fun z=> ?_) hdl h3 fun s2 G2 w1 w2 w3 w4 w5 w6=>kk s2 G2 w1 ⟨w2,w3.trans h4,w4.trans h5⟩ (fun j hj hg=> ?_) (h9.trans w6)
  ·have:=jZg (ds':=ds.drop (k+1)) (hn z)
   rwa [lVy] at this
  ·have:j<=k:=by
    rcases lKk k j with z | z
    ·have h0:=qUj (k:=k+1) hg
     rw[List.take_take,Nat.min_eq_left (by omega),hn (by omega)] at h0
     cases h0
    ·exact z
   omega
 refine⟨J1,?_,?_,?_,?_⟩
 ·refine⟨none,s,[],rfl,?_,rfl,rfl,rfl,rfl,rfl,jJg,?_,((Kp.refl _ _).over hp).over hq0⟩
  ·exact⟨by rw[jJm haq,jJm hap];exact h.1,by rw[jJm hlq,jJm hlp];exact h.2⟩
  ·rw[jJm hpq,jJg];rfl
 ·intros;trivial
 ·intro k y τ G1 hy h_;apply xe3 h_;clear h_;intro v5 s' es h_;apply ae9 h_;clear h_;intro h1 h2 h3 h4 h5 h6 h7 h8 h9
  obtain⟨d,hd,rfl⟩:=jK5 hy
  have hk:=(lJe.mp hd).1
  obtain⟨b1,b2,b3⟩:=kVd fine hr h2
  obtain⟨row,hrow,hen⟩:=kUm b1
  have hrl:=fine.row _ _ hrow
  have hdg:dg W s'.rm=row.length:=by rw[h3];unfold dg;rw[hrow];rfl
  wp_walk using 1,here0,hdg
  by_cases z:d<row.length
  ·rw[lJb (by omega)]
   obtain⟨e,he⟩:∃e,row[d]? =some e:=⟨_,lJg z⟩
   have hee:en W s'.rm d=some e:=by rw[h3,hen];exact he
   have hgo:goW W s.rm (ds.take (k+1))=some (es++[e]):=by rw[jVw hd,h2];simp[hen,he]
   have hqa:q≠a:=haq.symm
   wp_walk using 1,jKm
   refine⟨jYg h1.1,a,l,W,s',d,e,rfl,h1,fine,hee,?_⟩
   dsimp only
   have hq2:(gup G1 a (wkG W l (goS s' e))) q=some (.lst (jJk (jXj es))):=by rw[jJm hqa];exact h7
   have hp2:(gup G1 a (wkG W l (goS s' e))) p=some (.lst (degT W s.rm::es.map fun e=>T.tup [.int (e.2:Nat),degT W e.1])):=by rw[jJm hap.symm];exact h8
   have hel:es.length<=1000:=by rw[b2,lQd];omega
   have wk2:=h1.gup (s':=goS s' e) rfl
   have kp2:Kp [a] G (gup G1 a (wkG W l (goS s' e))):=h9.trans (.gup (by simp))
   generalize gup G1 a (wkG W l (goS s' e))=G2 at hq2 hp2 wk2 kp2 ⊢
   have hp3:(gup G2 q (.lst (jJk (jXj es)++[T.int (e.2:Nat)]))) p=some (.lst (degT W s.rm::es.map fun e=>T.tup [.int (e.2:Nat),degT W e.1])):=by rw[jJm hpq];exact hp2
   refine⟨by rw[jKd hq2];trivial,_,rfl,_,hq2,by simp[jJk,jXj];omega,of_eq_true (jKd hp3),_,rfl,_,rfl,by omega,_,hp3,by simp;omega,_,goS s' e,es++[e],rfl,⟨?_,?_⟩,hgo,by rw[jQd];rfl,h4,h5,by show s'.wk+1=_;omega,?_,?_,(kp2.over hq0).over hp⟩
   ·rw[jJm hap,jJm haq];exact wk2.1
   ·rw[jJm hlp,jJm hlq];exact wk2.2
   ·rw[jJm hpq.symm,jJg];simp[jJk,jXj,cmT,goS]
   ·rw[jJg];simp[degT,dg,goS];rfl
  ·rw[lJc (by omega)]
   exact fin k s' es G1 _ _ h1 h2 h3 h4 h5 h6 h7 h8 h9 (by omega) fun _=>by
    rw[jVw hd,h2]
    simp only[lQl,hen]
    rw[lJ4 (by omega)];rfl
 ·intro τ G1 h_;apply xe3 h_;clear h_;intro v5 s' es h_;apply ae9 h_;clear h_;intro h1 h2 h3 h4 h5 h6 h7 h8 h9
  have hl:(jJk ds).length=ds.length:=by simp[jJk]
  rw[hl] at h2 h6
  exact fin _ s' es G1 _ _ h1 h2 h3 h4 h5 h6 h7 h8 h9 (lJh _) fun z=>absurd z (lQv _)
theorem kU5 {κ:Type} [DecidableEq κ] {ls:List κ}:num (num ls)=num ls:=by
 conv=>lhs;rw[num]
 exact kQt (f:=fun x=>(jYw ls).idxOf x) fun x y hx _ h=>kJk (firsts_mem.mpr hx) h
theorem kXu {W:Web}:∀k,num (jJ4 W k)=jJ4 W k
 | 0=>kU5
 | _+1=>kU5
section
variable {κ μ:Type} [DecidableEq κ] [DecidableEq μ]
theorem uJ3 {ls:List κ} {ms:List μ} (hl:ls.length=ms.length) (h:∀(i j:Nat) (a b:κ) (c d:μ),ls[i]? =some a->ls[j]? =some b->ms[i]? =some c->ms[j]? =some d->(a=b↔c=d)):num ls=num ms:=by
 have e1:ls=(ls.zip ms).map Prod.fst:=(List.map_fst_zip (lVn hl)).symm
 have e2:ms=(ls.zip ms).map Prod.snd:=(List.map_snd_zip (lVn hl.symm)).symm
 have key:∀x y,x∈ls.zip ms->y∈ls.zip ms->(x.1=y.1↔x.2=y.2):=by
  intro x y hx hy
  obtain⟨i,hi⟩:=lKc hx
  obtain⟨j,hj⟩:=lKc hy
  rw[lXa] at hi hj
  exact h i j x.1 y.1 x.2 y.2 hi.1 hj.1 hi.2 hj.2
 have n1:num ((ls.zip ms).map Prod.fst)=num (ls.zip ms):=kQt (f:=Prod.fst) fun x y hx hy e=>Prod.ext e ((key x y hx hy).mp e)
 have n2:num ((ls.zip ms).map Prod.snd)=num (ls.zip ms):=kQt (f:=Prod.snd) fun x y hx hy e=>Prod.ext ((key x y hx hy).mpr e) e
 rw[e1,n1,<-n2,<-e2]
theorem qXw {ls:List κ} {ms:List μ} (h:num ls=num ms) {i j:Nat} {a b:κ} {c d:μ} (ha:ls[i]? =some a) (hb:ls[j]? =some b) (hc:ms[i]? =some c) (hd:ms[j]? =some d):a=b↔c=d:=by
 have e1:=lJ5 (fun l=>l[i]?) h
 have e2:=lJ5 (fun l=>l[j]?) h
 simp only[jVc ha,jVc hc,jVc hb,jVc hd,lQ7] at e1 e2
 constructor
 ·intro z
  subst z
  exact kJk (firsts_mem.mpr (lJi hc)) (e1.symm.trans e2)
 ·intro z
  subst z
  exact kJk (firsts_mem.mpr (lJi ha)) (e1.trans e2.symm)
end
abbrev Row:=Nat×List (Nat×Nat)
def kUn (M:List Nat) (r:Nat) (es:List (Nat×Nat)):Row:=(M.getD r 0,es.map fun e=>(e.2,M.getD e.1 0))
def jUa (W:Web) (M:List Nat):List Row:=(List.range W.length).map fun r=>kUn M r (row W r)
theorem qKy {W:Web} {M:List Nat} {r:Nat} {es:List (Nat×Nat)} (h:W[r]? =some es):(jUa W M)[r]? =some (kUn M r es):=by
 have hr:r<W.length:=(lJe.mp h).1
 unfold jUa
 rw[lJn,lQ5 hr]
 show some (kUn M r (row W r))=_
 rw[show row W r=es by unfold row;rw[h];rfl]
theorem jU1 {W:Web} {M:List Nat}:(jUa W M).length=W.length:=by unfold jUa;rw[lJf,lK8]
theorem qV9 {W:Web} (f:Fine W) {M:List Nat} {k:Nat} (hl:M.length=W.length) (hm:num M=jJ4 W k):num (jUa W M)=jJ4 W (k+1):=by
 show _=num (tups W (jJ4 W k))
 have mk_len:=kJa (W:=W) k
 have mm:∀i,i<W.length->M[i]? =some (M.getD i 0)/\(jJ4 W k)[i]? =some ((jJ4 W k).getD i 0):=by
  intro i hi
  exact⟨by rw[lV2,lJg (by omega)];rfl,by rw[lV2,lJg (by omega)];rfl⟩
 have hm':num M=num (jJ4 W k):=by rw[kXu];exact hm
 have same:∀i j,i<W.length->j<W.length->(M.getD i 0=M.getD j 0↔(jJ4 W k).getD i 0=(jJ4 W k).getD j 0):=fun i j hi hj=>qXw hm' (mm i hi).1 (mm j hj).1 (mm i hi).2 (mm j hj).2
 refine uJ3 (by rw[jU1];simp[tups]) fun i j a b c d ha hb hc hd=> ?_
 have hi:i<W.length:=by rw[<-jU1 (W:=W) (M:=M)];exact (lJe.mp ha).1
 have hj:j<W.length:=by rw[<-jU1 (W:=W) (M:=M)];exact (lJe.mp hb).1
 have hei:W[i]? =some W[i]:=lJg hi
 have hej:W[j]? =some W[j]:=lJg hj
 generalize W[i]=es at hei
 generalize W[j]=fs at hej
 rw[qKy hei] at ha;rw[qKy hej] at hb
 rw[jQ4 hei] at hc;rw[jQ4 hej] at hd
 cases ha;cases hb;cases hc;cases hd
 have inner:(es.map fun e=>(e.2,M.getD e.1 0))=(fs.map fun e=>(e.2,M.getD e.1 0))↔(es.map fun e=>(e.2,(jJ4 W k).getD e.1 0))=(fs.map fun e=>(e.2,(jJ4 W k).getD e.1 0)):=by
  have go:∀(g g':List Nat),(∀i j,i<W.length->j<W.length->g.getD i 0=g.getD j 0->g'.getD i 0=g'.getD j 0)->(es.map fun e=>(e.2,g.getD e.1 0))=(fs.map fun e=>(e.2,g.getD e.1 0))->(es.map fun e=>(e.2,g'.getD e.1 0))=(fs.map fun e=>(e.2,g'.getD e.1 0)):=by
   intro g g' hg h
   apply lK1
   intro x
   have hx:=lJ5 (fun l=>l[x]?) h
   simp only[lJn] at hx ⊢
   cases e1:es[x]? with
   | none=>
    rw[e1] at hx
    cases e2:fs[x]? with
    | none=>rfl
    | some q=>rw[e2] at hx;cases hx
   | some p=>
    rw[e1] at hx
    cases e2:fs[x]? with
    | none=>rw[e2] at hx;cases hx
    | some q=>
     rw[e2] at hx
     simp only[lQ1,lQ7,Prod.mk.injEq] at hx ⊢
     exact⟨hx.1,hg _ _ (f.rng i x p.1 p.2 (jK1 hei e1)) (f.rng j x q.1 q.2 (jK1 hej e2)) hx.2⟩
  exact⟨go M (jJ4 W k) fun a b ha hb=>(same a b ha hb).mp,go (jJ4 W k) M fun a b ha hb=>(same a b ha hb).mpr⟩
 constructor
 ·intro z
  exact inner.mp (Prod.mk.inj z).2
 ·intro z
  have fin:=finer f k i j es fs hei hej z
  rw[(mm i hi).2,(mm j hj).2] at fin
  unfold kUn
  rw[(same i j hi hj).mpr (lJ7 fin),inner.mpr z]
def rowT (x:Row):List T:=[.int x.1,.tup (x.2.map fun p=> .tup [.int p.1,.int p.2])]
def rowK (x:Row):L2.TKey:=[.inl (.inl x.1),.inr (x.2.map fun p=> .inr [.inl p.1,.inl p.2])]
theorem kUu:∀ps:List (Nat×Nat),allK key1 (ps.map fun p=>T.tup [.int p.1,.int p.2])=some (ps.map fun p=> .inr [.inl p.1,.inl p.2])
 | []=>rfl
 | p::ps=>by
  rw[lJq]
  unfold allK
  rw[kUu ps]
  rfl
theorem jZb (x:Row):jQe (rowT x)=some (rowK x):=by
 have e:key2 (T.tup (x.2.map fun p=>T.tup [.int p.1,.int p.2]))=some (.inr (x.2.map fun p=> .inr [.inl p.1,.inl p.2])):=by
  show (allK key1 _).map Sum.inr=_
  rw[kUu];rfl
 unfold jQe rowT
 unfold allK
 rw[show allK key2 [T.tup (x.2.map fun p=>T.tup [.int p.1,.int p.2])]=some [.inr (x.2.map fun p=> .inr [.inl p.1,.inl p.2])] by unfold allK;rw[e];rfl]
 rfl
theorem qXa (x:Row):SKey true (rowT x) (rowK x):=by
 refine⟨jZb x,rfl,?_⟩
 show ((true:Bool)&&((x.2.map fun p=>(Sum.inr [Sum.inl (p.1:Int),Sum.inl (p.2:Int)]:L2.K1)).all (intS intK)&&true))=true
 rw[Bool.true_and,Bool.and_true,lQ0]
 intro k hk
 obtain⟨p,_,rfl⟩:=lJk.mp hk
 rfl
theorem kYw:∀ps qs:List (Nat×Nat),(L3.lexLt (ltS ltI) (ps.map fun p=>(Sum.inr [Sum.inl (p.1:Int),Sum.inl (p.2:Int)]:L2.K1)) (qs.map fun p=>Sum.inr [Sum.inl (p.1:Int),Sum.inl (p.2:Int)])).isSome=true
 | [],[]=>rfl
 | [],_::_=>rfl
 | _::_,[]=>rfl
 | p::ps,q::qs=>by
  rw[lJq,lJq]
  unfold L3.lexLt
  split
  ·exact kYw ps qs
  ·show (L3.lexLt ltI [Sum.inl (p.1:Int),Sum.inl (p.2:Int)] [Sum.inl (q.1:Int),Sum.inl (q.2:Int)]).isSome=true
   unfold L3.lexLt
   split
   ·unfold L3.lexLt
    split
    ·rfl
    ·rfl
   ·rfl
theorem row_lt (x y:Row):(ltK (rowK x) (rowK y)).isSome=true:=by
 unfold ltK rowK L3.lexLt
 split
 ·unfold L3.lexLt
  split
  ·rfl
  ·exact kYw x.2 y.2
 ·rfl
theorem uJj {x y:Row} (h:rowK x=rowK y):x=y:=by
 obtain⟨a,ps⟩:=x
 obtain⟨b,qs⟩:=y
 unfold rowK at h
 simp only[lK9,Sum.inl.injEq,Sum.inr.injEq,and_true] at h
 have e1:a=b:=by
  have:=h.1
  exact Int.ofNat.inj this
 subst e1
 have:∀ps qs:List (Nat×Nat),(ps.map fun p=>(Sum.inr [Sum.inl (p.1:Int),Sum.inl (p.2:Int)]:L2.K1))=(qs.map fun p=>Sum.inr [Sum.inl (p.1:Int),Sum.inl (p.2:Int)])->ps=qs:=by
  intro ps
  induction ps with
  | nil=>intro qs e;cases qs with | nil=>rfl | cons _ _=>cases e
  | cons p ps ih=>
   intro qs e
   cases qs with
   | nil=>cases e
   | cons q qs=>
    rw[lJq,lJq,lK9] at e
    have e1:=e.1
    simp only[Sum.inr.injEq,lK9,Sum.inl.injEq,and_true] at e1
    rw[ih qs e.2]
    have h1:p.1=q.1:=Int.ofNat.inj e1.1
    have h2:p.2=q.2:=Int.ofNat.inj e1.2
    rw[Prod.ext h1 h2]
 rw[this ps qs h.2]
theorem getD_at {m:List Nat} {x:Nat} (h:x<m.length):L2.atI (jJk m) (x:Int)=some (.int (m.getD x 0:Nat)):=by
 rw[atN,jJk,lJn,lJg h,lV2,lJg h];rfl
theorem kVb {κ:Type} [DecidableEq κ] {ks:List κ} {k:κ} (h:k∈ks):ks[ix1 ks k]? =some k/\∀m,m<ix1 ks k->ks[m]? ≠some k:=by
 unfold ix1
 have hi:=lX5 h
 refine⟨by rw[lJg hi,lXv],fun m hm e=> ?_⟩
 obtain⟨hm',e'⟩:=lJe.mp e
 have:=List.not_of_lt_findIdx (p:=(· == k)) (xs:=ks) hm
 rw[e'] at this
 simp at this
def kJ3 (W:Web) (M:List Nat) (n:Nat):List T:=(List.range n).map fun r=>T.tup (rowT (kUn M r (row W r)))
theorem jZv {W:Web} {M:List Nat}:kJ3 W M W.length=(jUa W M).map fun x=>T.tup (rowT x):=by
 unfold kJ3 jUa;rw[lJ6];rfl
theorem kKl {W:Web} {M:List Nat} {n:Nat} {es:List (Nat×Nat)} (h:W[n]? =some es):kJ3 W M (n+1)=kJ3 W M n++[T.tup (rowT (kUn M n es))]:=by
 unfold kJ3;rw[lQj,lQk];simp[jYp h]
theorem qKm {W:Web} {M:List Nat} {k:Nat} {G:Gp} {p:Addr} {Q:VK3} (fine:Fine W) (hl:W.length<=60) (hM:M.length=W.length) (hm:num M=jJ4 W k) (hp:G p=some (.lst (kJ3 W M W.length))) {τ:St3} {i:Nat} (hi:τ[i]? =some (some (.ref p)))
  (kk:∀(p4:Addr) (ys:List (List T×L2.TKey)),G p4=none->(∀x,x∈jUa W M->rowK x∈ys.map (·.2))->(∀e,e∈ys->jQe e.1=some e.2)->Q (.ref p4) (gup G p4 (.lst (ys.map fun e=> .tup e.1)))):qKf (jJc (tVar i) tNil) τ G Q:=by
 have hs:=sz
 have hrl:=jU1 (W:=W) (M:=M)
 rw[jZv] at hp
 wp_walk using 1,qKf,jJc,tVar,tNil,hi
 refine⟨true,(jUa W M).map fun x=>(rowT x,rowK x),?_,⟨(jUa W M).map rowK,by rw[lJf];omega,fun e he=>by obtain⟨x,hx,rfl⟩:=lJk.mp he;exact lJk.mpr ⟨x,hx,rfl⟩⟩,?_,?_,fun p4 ys kys hp4 ris=> ?_⟩
 ·simp only[jQ8,hp,asL,lJ6];rfl
 ·intro e he
  obtain⟨x,_,rfl⟩:=lJk.mp he
  exact qXa x
 ·intro e he e' he'
  obtain⟨x,_,rfl⟩:=lJk.mp he
  obtain⟨x',_,rfl⟩:=lJk.mp he'
  exact row_lt x x'
 ·rw[ris.eq]
  refine kk p4 kys hp4 (fun x hx=> ?_) ris.keys
  have:=(ris.mem (.tup (rowT x))).mpr (lJk.mpr ⟨(rowT x,rowK x),lJk.mpr ⟨x,hx,rfl⟩,rfl⟩)
  rw[ris.eq] at this
  obtain⟨e,he,ee⟩:=lJk.mp this
  have e1:e.1=rowT x:=T.tup.inj ee
  have e2:=ris.keys e he
  rw[e1,jZb] at e2
  exact lJk.mpr ⟨e,he,(lJ7 e2).symm⟩
def nxM (W:Web) (M:List Nat) (ks:List L2.TKey):List Nat:=(jUa W M).map fun x=>ix1 ks (rowK x)
theorem qZs {W:Web} {M:List Nat} {k:Nat} {ks:List L2.TKey} (fine:Fine W) (hM:M.length=W.length) (hm:num M=jJ4 W k) (hk:∀x,x∈jUa W M->rowK x∈ks):num (nxM W M ks)=jJ4 W (k+1):=by
 rw[<-qV9 fine hM hm]
 exact kQt fun x y hx hy e=>uJj (kJk (hk x hx) e)
theorem qZt {W:Web} {M:List Nat} {ks:List L2.TKey}:(nxM W M ks).length=W.length:=by unfold nxM;rw[lJf,jU1]
noncomputable def jUr:Sp3:=fun xs G Q=>∃W:Web,xs=[encW W]/\Fine W/\W.length<=60/\∀q G' M,G q=none->G' q=some (.lst (jJk M))->M.length=W.length->num M=jJ4 W W.length->Sub G G'->Q (.ref q) G'
def qVu:List Str:=["_law_web_here","_law_sorts","_law_turn_here","_law_rows","_law_room","_law_some","_law_doors","_law_other","_law_door","_law_row"]
noncomputable def jYe:TS3:=
 (tSeq (tAsg (jQu [false,false,false,false,false,false,true,false,false,false] (iSeq (tVar 0)) (jJi 6) jV0 (tCB rLen (jJc (tVar 6) tNil))) (jJi 1))
 (tSeq (tFor (jJ6 (jJc (tCB rLen (jJc (tVar 0) tNil)) tNil)) (jJi 2) (tSeq (tAsg (tLst tNil) (jJi 3))
 (tSeq (tFor (jJ6 (jJc (tCB rLen (jJc (tVar 0) tNil)) tNil)) (jJi 4) (jK2 (tBM "list" jJ8 (tVar 3) (jJc (tTup (jJc (tOp rIxF (tVar 1) (tVar 4)) (jJc (tCB jJ7 (jJc (jQu [false,false,false,false,false,false,false,true,true,false] (iSeq (tOp rIxF (tVar 0) (tVar 4))) (gTup 2 (jKl (jJi 7) (jKl (jJi 8) gNil))) jV0 (tTup (jJc (tVar 8) (jJc (tOp rIxF (tVar 1) (tVar 7)) tNil)))) tNil)) tNil))) tNil))))
 (tSeq (tAsg (qKf (jJc (tVar 3) tNil)) (jJi 5))
 (tAsg (jQu [false,false,false,false,false,false,false,false,false,true] (iSeq (tVar 3)) (jJi 9) jV0 (tBM "list" jZ3 (tVar 5) (jJc (tVar 9) tNil))) (jJi 1))))))
 (tRet (tVar 1))))
theorem kUq:RdOk jUr jYe qVu:=by
 intro xs G Q h_;apply xe1 h_;clear h_;intro W h_;apply ae3 h_;clear h_;intro fine hl kk
 show jYe _ [some (.tup (W.map encR)),none,none,none,none,none,none,none,none,none] G
 have hs:=sz
 wp_walk using 1,jYe,jJw,jJ6,iSeq
 refine jQb (es:=W) (enc:=encR) (fun es=>T.int (es.length:Nat)) (by omega) (fun _ _=>trivial) ?_ ?_
 ·intro i es he G' K K0 s hk
  wp_walk using 1,encR,List.length_map
  exact hk G' (.refl _)
 intro p0 G1 hp0 h1 s1
 rw[lJf]
 refine⟨by omega,by omega,?_⟩
 rw[show ((W.length:Nat):Int).toNat=W.length by omega]
 let J1:Nat->St3->Gp->Prop:=fun k τ G'=>∃(q:Addr) (M:List Nat) (v2 v3 v4 v5:Option T),τ=[some (.tup (W.map encR)),some (.ref q),v2,v3,v4,v5,none,none,none,none]/\G q=none/\G' q=some (.lst (jJk M))/\M.length=W.length/\num M=jJ4 W k/\Sub G G'
 refine⟨J1,?_,?_,?_,?_⟩
 ·exact⟨p0,W.map List.length,none,none,none,none,rfl,hp0,by rw[h1];simp[jJk,lJ6],by simp,rfl,s1⟩
 ·intros;trivial
 ·intro k y τ G3 hy h_;apply xe6 h_;clear h_;intro q M v2 v3 v4 v5 h_;apply ae5 h_;clear h_;intro i1 i2 i3 i4 i5
  obtain⟨hk,rfl⟩:=jQ0 hy
  wp_walk using 1,jJw,jJ6,List.length_map
  refine⟨by omega,fun p3 hp3=>⟨by omega,by omega,?_⟩⟩
  have hqp:q≠p3:=jJf i2 hp3
  have hp3G:=jY9 i5 hp3
  rw[show ((W.length:Nat):Int).toNat=W.length by omega]
  let J2:Nat->St3->Gp->Prop:=fun i τ G'=>∃v4:Option T,τ=[some (.tup (W.map encR)),some (.ref q),some (.int (k:Nat)),some (.ref p3),v4,v5,none,none,none,none]/\G' p3=some (.lst (kJ3 W M i))/\Sub G3 G'
  refine⟨J2,?_,?_,?_,?_⟩
  ·exact⟨v4,rfl,jJg,.new hp3⟩
  ·intros;trivial
  ·intro i y τ G4 hy h_;apply xe1 h_;clear h_;intro v4 h_;apply ae2 h_;clear h_;intro j1 j2
   obtain⟨hi,rfl⟩:=jQ0 hy
   have hes:W[i]? =some (row W i):=by unfold row;rw[lJg hi];rfl
   generalize row W i=es at hes
   have hel:=fine.row i es hes
   wp_walk using 1,iSeq,jKe (j2 _ _ i2),getD_at (show i<M.length by omega),jKz hes,encR,jKd j1
   refine jQb (es:=es) (enc:=encE) (fun e=>T.tup [.int (e.2:Nat),.int (M.getD e.1 0:Nat)]) (by omega) (fun _ _=>trivial) ?_ ?_
   ·intro x e hx G5 K' K0' s' hK'
    have hlt:=fine.rng i x e.1 e.2 (jK1 hes hx)
    wp_walk using 1,encE,jKe ((j2.trans s') _ _ i2),getD_at (show e.1<M.length by omega)
    exact⟨by omega,hK' G5 (.refl _)⟩
   ·intro D G5 hD q1 q2
    refine⟨_,jJn q1,by omega,?_⟩
    have hp5:=q2 _ _ j1
    wp_walk using 1,hp5
    refine⟨by simp[kJ3];omega,_,rfl,?_,(j2.trans q2).over hp3⟩
    rw[jJg,kKl hes,kUn,rowT,lJ6];rfl
  ·intro τ G4 h_;apply xe1 h_;clear h_;intro v4 h_;apply ae2 h_;clear h_;intro j1 j2
   rw[jKu] at j1
   wp_walk using 1,iSeq
   refine qKm fine hl i3 i4 j1 rfl fun p4 kys hp4 hkeys hks=> ?_
   have hrl:=jU1 (W:=W) (M:=M)
   have h34:=jJf j1 hp4
   rw[jZv] at j1
   refine⟨_,jJn (by rw[jJm h34];exact j1),?_⟩
   refine jQb (es:=jUa W M) (enc:=fun x=>T.tup (rowT x)) (fun x=>T.int (ix1 (kys.map (·.2)) (rowK x):Nat)) (by omega) (fun G' s=>jJn (s _ _ (by rw[jJm h34];exact j1))) ?_ ?_
   ·intro i x hx G' K K0 s hK
    have hm:=hkeys x (lJi hx)
    wp_walk using 1,jZ3
    obtain⟨f1,f2⟩:=kVb hm
    have hG4:G' p4=some (.lst (kys.map fun e=> .tup e.1)):=s _ _ jJg
    refine⟨by rw[jKd hG4];trivial,kys,hG4,hks,rowK x,jZb x,_,f1,f2,hK G' (.refl _)⟩
   ·intro D G5 hD q1 q2
    have sG:=((i5.trans j2).trans (.new hp4)).trans q2
    have hDG:G D=none:=jY9 (i5.trans j2) (by
     by_cases e:D=p4
     ·subst e;rw[jJg] at hD;cases hD
     ·rw[jJm e] at hD;exact hD)
    exact⟨D,nxM W M (kys.map (·.2)),_,_,_,_,rfl,hDG,by rw[q1];simp[nxM,jJk,lJ6],qZt,qZs fine i3 i4 hkeys,sG⟩
 ·intro τ G3 h_;apply xe6 h_;clear h_;intro q M v2 v3 v4 v5 h_;apply ae5 h_;clear h_;intro i1 i2 i3 i4 i5
  rw[jKu] at i4
  wp_walk using 1,tSeq
  exact kk q G3 M i1 i2 i3 i4 i5
theorem jUw {α:Type} {p:α->Prop} [DecidablePred p] {g:α->T}:∀ {l:List α},(l.filterMap fun x=>if p x then some (g x) else none)=(l.filter fun x=>decide (p x)).map g
 | []=>rfl
 | x::l=>by
  rw[lQo,lV0]
  by_cases z:p x
  ·simp[z,jUw (p:=p) (g:=g) (l:=l)]
  ·simp[z,jUw (p:=p) (g:=g) (l:=l)]
theorem qKz {n i e:Nat} (h:(List.range n)[i]? =some e):i<n/\i=e:=by
 obtain⟨q1,q2⟩:=lJe.mp h;simp at q1 q2;exact⟨q1,q2⟩
def uQl (W:Web) (r t m:Nat):Prop:=m=0\/∃j y,j<t/\m=j+1/\y<W.length/\Alk W j r y/\¬ Alk W (j+1) r y
theorem kYb {W:Web} {M:List Nat} {k x y:Nat} (hM:M.length=W.length) (hm:num M=jJ4 W k) (hx:x<W.length) (hy:y<W.length):M.getD x 0=M.getD y 0↔Alk W k x y:=by
 unfold Alk
 rw[<-hm]
 have a:∀z,z<W.length->M[z]? =some (M.getD z 0):=fun z hz=>by rw[lV2,lJg (by omega)];rfl
 exact (jYj (a x hx) (a y hy)).symm
def jXq:Sp3:=fun xs G Q=>∃(W:Web) (r:Nat),xs=[encW W,.int (r:Nat)]/\Fine W/\W.length<=60/\r<W.length/\∀m G',uQl W r W.length m->Sub G G'->Q (.int (m:Nat)) G'
noncomputable def uQh:List Str:=["_law_web_here","_law_room","_law_sorts","_law_least","_law_turn_here","_law_rows","_law_spot","_law_some","_law_alike","_law_doors","_law_other","_law_door","_law_row"]
noncomputable def kQn:TS3:=
 (tSeq (tAsg (jQu [false,false,false,false,false,false,false,false,false,true,false,false,false] (iSeq (tVar 0)) (jJi 9) jV0 (tCB rLen (jJc (tVar 9) tNil))) (jJi 2))
 (tSeq (tAsg (tC (.int 0)) (jJi 3))
 (tSeq (tFor (jJ6 (jJc (tCB rLen (jJc (tVar 0) tNil)) tNil)) (jJi 4) (tSeq (tAsg (tLst tNil) (jJi 5))
 (tSeq (tFor (jJ6 (jJc (tCB rLen (jJc (tVar 0) tNil)) tNil)) (jJi 6) (jK2 (tBM "list" jJ8 (tVar 5) (jJc (tTup (jJc (tOp rIxF (tVar 2) (tVar 6)) (jJc (tCB jJ7 (jJc (jQu [false,false,false,false,false,false,false,false,false,false,true,true,false] (iSeq (tOp rIxF (tVar 0) (tVar 6))) (gTup 2 (jKl (jJi 10) (jKl (jJi 11) gNil))) jV0 (tTup (jJc (tVar 11) (jJc (tOp rIxF (tVar 2) (tVar 10)) tNil)))) tNil)) tNil))) tNil))))
 (tSeq (tAsg (qKf (jJc (tVar 5) tNil)) (jJi 7))
 (tSeq (tAsg (jQu [false,false,false,false,false,false,true,false,false,false,false,false,false] (jJ6 (jJc (tCB rLen (jJc (tVar 0) tNil)) tNil)) (jJi 6) (jJ1 (tOp rEqA (tOp rIxF (tVar 2) (tVar 6)) (tOp rIxF (tVar 2) (tVar 1)))) (tVar 6)) (jJi 8))
 (tSeq (tAsg (jQu [false,false,false,false,false,false,false,false,false,false,false,false,true] (iSeq (tVar 5)) (jJi 12) jV0 (tBM "list" jZ3 (tVar 7) (jJc (tVar 12) tNil))) (jJi 2))
 (tIfS (jJ1 (tOp qZi (jQu [false,false,false,false,false,false,true,false,false,false,false,false,false] (iSeq (tVar 8)) (jJi 6) (jJ1 (tOp rNeA (tOp rIxF (tVar 2) (tVar 6)) (tOp rIxF (tVar 2) (tVar 1)))) (tVar 6)) (tLst tNil))) (tAsg (tOp jKh (tVar 4) (tC (.int 1))) (jJi 3)) jKr)))))))
 (tRet (tVar 3)))))
theorem qJa:RdOk jXq kQn uQh:=by
 intro xs G Q h_;apply xe2 h_;clear h_;intro W r h_;apply ae4 h_;clear h_;intro fine hl hr kk
 show kQn _ [some (.tup (W.map encR)),some (.int (r:Nat)),none,none,none,none,none,none,none,none,none,none,none] G
 have hs:=sz
 wp_walk using 1,kQn,jJw,jJ6,iSeq
 refine jQb (es:=W) (enc:=encR) (fun es=>T.int (es.length:Nat)) (by omega) (fun _ _=>trivial) ?_ ?_
 ·intro i es he G' K K0 s hk
  wp_walk using 1,encR,List.length_map
  exact hk G' (.refl _)
 intro p0 G1 hp0 h1 s1
 rw[lJf]
 refine⟨by omega,by omega,?_⟩
 rw[show ((W.length:Nat):Int).toNat=W.length by omega]
 let J1:Nat->St3->Gp->Prop:=fun k τ G'=>∃(q:Addr) (M:List Nat) (m:Nat) (v4 v5 v6 v7 v8:Option T),τ=[some (.tup (W.map encR)),some (.int (r:Nat)),some (.ref q),some (.int (m:Nat)),v4,v5,v6,v7,v8,none,none,none,none]/\G' q=some (.lst (jJk M))/\M.length=W.length/\num M=jJ4 W k/\uQl W r k m/\Sub G G'
 refine⟨J1,?_,?_,?_,?_⟩
 ·exact⟨p0,W.map List.length,0,none,none,none,none,none,rfl,by rw[h1];simp[jJk,lJ6],by simp,rfl,.inl rfl,s1⟩
 ·intros;trivial
 ·intro k y τ G3 hy h_;apply xe8 h_;clear h_;intro q M m v4 v5 v6 v7 v8 h_;apply ae5 h_;clear h_;intro i2 i3 i4 i6 i5
  obtain⟨hk,rfl⟩:=jQ0 hy
  wp_walk using 1,jJw,jJ6,List.length_map
  refine⟨by omega,fun p3 hp3=>⟨by omega,by omega,?_⟩⟩
  have hqp:q≠p3:=jJf i2 hp3
  have hp3G:=jY9 i5 hp3
  rw[show ((W.length:Nat):Int).toNat=W.length by omega]
  let J2:Nat->St3->Gp->Prop:=fun i τ G'=>∃v6:Option T,τ=[some (.tup (W.map encR)),some (.int (r:Nat)),some (.ref q),some (.int (m:Nat)),some (.int (k:Nat)),some (.ref p3),v6,v7,v8,none,none,none,none]/\G' p3=some (.lst (kJ3 W M i))/\Sub G3 G'
  refine⟨J2,?_,?_,?_,?_⟩
  ·exact⟨v6,rfl,jJg,.new hp3⟩
  ·intros;trivial
  ·intro i y τ G4 hy h_;apply xe1 h_;clear h_;intro v6 h_;apply ae2 h_;clear h_;intro j1 j2
   obtain⟨hi,rfl⟩:=jQ0 hy
   have hes:W[i]? =some (row W i):=by unfold row;rw[lJg hi];rfl
   generalize row W i=es at hes
   have hel:=fine.row i es hes
   wp_walk using 1,iSeq,jKe (j2 _ _ i2),getD_at (show i<M.length by omega),jKz hes,encR,jKd j1
   refine jQb (es:=es) (enc:=encE) (fun e=>T.tup [.int (e.2:Nat),.int (M.getD e.1 0:Nat)]) (by omega) (fun _ _=>trivial) ?_ ?_
   ·intro x e hx G5 K' K0' s' hK'
    have hlt:=fine.rng i x e.1 e.2 (jK1 hes hx)
    wp_walk using 1,encE,jKe ((j2.trans s') _ _ i2),getD_at (show e.1<M.length by omega)
    exact⟨by omega,hK' G5 (.refl _)⟩
   ·intro D G5 hD q1 q2
    refine⟨_,jJn q1,by omega,?_⟩
    have hp5:=q2 _ _ j1
    wp_walk using 1,hp5
    refine⟨by simp[kJ3];omega,_,rfl,?_,(j2.trans q2).over hp3⟩
    rw[jJg,kKl hes,kUn,rowT,lJ6];rfl
  ·intro τ G4 h_;apply xe1 h_;clear h_;intro v6 h_;apply ae2 h_;clear h_;intro j1 j2
   rw[jKu] at j1
   wp_walk using 1,iSeq,jJ6,rEqA,List.length_map
   refine qKm fine hl i3 i4 j1 rfl fun p4 kys hp4 hkeys hks=> ?_
   have hrl:=jU1 (W:=W) (M:=M)
   have h34:=jJf j1 hp4
   rw[jZv] at j1
   have hq4:=j2 _ _ i2
   have h24:=jJf hq4 hp4
   have sg4:Sub G4 (gup G4 p4 (.lst (kys.map fun e=> .tup e.1))):= .new hp4
   have hG4:(gup G4 p4 (.lst (kys.map fun e=> .tup e.1))) p4=some (.lst (kys.map fun e=> .tup e.1)):=jJg
   generalize gup G4 p4 (.lst (kys.map fun e=> .tup e.1))=G5 at sg4 hG4 ⊢
   have hq5:=sg4 _ _ hq4
   have hp5:=sg4 _ _ j1
   refine⟨by omega,by omega,?_⟩
   rw[show ((W.length:Nat):Int).toNat=W.length by omega,jQz]
   refine jU9 (es:=List.range W.length) (enc:=fun x:Nat=>T.int (x:Nat)) (fun x=>if M.getD x 0=M.getD r 0 then some (T.int (x:Nat)) else none) (by simp;omega) (fun _ _=>trivial) ?_ ?_
   ·intro i x hx G6 K K0 s6 hK hK0
    obtain⟨hi,rfl⟩:=qKz hx
    wp_walk using 1,rEqA,jKe (s6 _ _ hq5),getD_at (show i<M.length by omega),getD_at (show r<M.length by omega),jU8
    by_cases z:M.getD i 0=M.getD r 0
    ·rw[lJc z];exact hK _ _ (lJc z) (.refl _)
    ·rw[lJb z];exact hK0 (lJb z) _ (.refl _)
   intro D6 G6 hD6 q6 s6
   rw[jUw] at q6
   refine⟨_,jJn (s6 _ _ hp5),?_⟩
   refine jQb (es:=jUa W M) (enc:=fun x=>T.tup (rowT x)) (fun x=>T.int (ix1 (kys.map (·.2)) (rowK x):Nat)) (by omega) (fun G' s=>jJn (s _ _ (s6 _ _ hp5))) ?_ ?_
   ·intro i x hx G' K K0 s hK
    have hm:=hkeys x (lJi hx)
    wp_walk using 1,jZ3
    obtain⟨f1,f2⟩:=kVb hm
    have hG7:G' p4=some (.lst (kys.map fun e=> .tup e.1)):=s _ _ (s6 _ _ hG4)
    refine⟨by rw[jKd hG7];trivial,kys,hG7,hks,rowK x,jZb x,_,f1,f2,hK G' (.refl _)⟩
   intro D7 G7 hD7 q7 s7
   have q7:G7 D7=some (.lst (jJk (nxM W M (kys.map (·.2))))):=by rw[q7];simp[nxM,jJk,lJ6]
   have hN:=qZt (W:=W) (M:=M) (ks:=kys.map (·.2))
   have hNm:=qZs fine i3 i4 hkeys
   generalize nxM W M (kys.map (·.2))=N at q7 hN hNm
   refine⟨_,jJn (s7 _ _ q6),?_⟩
   generalize hAL:(List.range W.length).filter (fun x=>decide (M.getD x 0=M.getD r 0))=AL at q6
   have hal:∀x,x∈AL->x<W.length/\M.getD x 0=M.getD r 0:=fun x hx=>by
    rw[<-hAL,lK2] at hx
    exact⟨lJy.mp hx.1,lXy hx.2⟩
   have hall:AL.length<=W.length:=by rw[<-hAL];exact lJ8 (lVj _ _) (by simp)
   refine jU9 (es:=AL) (enc:=fun x:Nat=>T.int (x:Nat)) (fun x=>if ¬ N.getD x 0=N.getD r 0 then some (T.int (x:Nat)) else none) (by omega) (fun G' s=>jJn (s _ _ (s7 _ _ q6))) ?_ ?_
   ·intro i x hx G8 K K0 s8 hK hK0
    have hx1:=(hal x (lJi hx)).1
    wp_walk using 1,rNeA,jKe (s8 _ _ q7),getD_at (show x<N.length by omega),getD_at (show r<N.length by omega),jU8
    by_cases z:N.getD x 0=N.getD r 0
    ·rw[lJb (by simpa using z)];exact hK0 (lJb (by simpa using z)) _ (.refl _)
    ·rw[lJc (by simpa using z)];exact hK _ _ (lJc z) (.refl _)
   intro D8 G8 hD8 q8 s8
   rw[jUw] at q8
   refine⟨lJs _,fun p9 hp9=> ?_⟩
   have h89:=jJf q8 hp9
   refine⟨D8,p9,_,rfl,rfl,by rw[jJm h89];exact q8,jJg,_,rfl,?_⟩
   have sAll:Sub G (gup G8 p9 (.lst [])):=(((((i5.trans j2).trans sg4).trans s6).trans s7).trans s8).trans (.new hp9)
   have hN9:(gup G8 p9 (.lst [])) D7=some (.lst (jJk N)):=by
    have:=s8 _ _ q7
    rw[jJm (jJf this hp9)];exact this
   cases hc:(AL.filter fun x=>decide (¬ N.getD x 0=N.getD r 0)) with
   | nil=>
    rw[lJb (by simp)]
    refine⟨D7,N,m,_,_,_,_,_,rfl,hN9,hN,hNm,?_,sAll⟩
    exact i6.imp id fun ⟨j,y,a,b⟩=>⟨j,y,by omega,b⟩
   | cons y ys=>
    rw[lJc (by simp)]
    refine⟨D7,N,k+1,_,_,_,_,_,rfl,hN9,hN,hNm,.inr ⟨k,y,by omega,rfl,?_⟩,sAll⟩
    have hy:y∈AL.filter fun x=>decide (¬ N.getD x 0=N.getD r 0):=by rw[hc];exact lJu ..
    rw[lK2] at hy
    obtain⟨hy1,hy2⟩:=hal y hy.1
    exact⟨hy1,(kYb i3 i4 hr hy1).mp hy2.symm,fun z=>lXy hy.2 ((kYb hN hNm hr hy1).mpr z).symm⟩
 ·intro τ G3 h_;apply xe8 h_;clear h_;intro q M m v4 v5 v6 v7 v8 h_;apply ae5 h_;clear h_;intro i2 i3 i4 i6 i5
  rw[jKu] at i6
  wp_walk using 1,tSeq
  exact kk m G3 i6 i5
def hd0 (R:List Nat):Nat:=R.getD 0 0
def FP (W:Web) (R:List Nat):Option (List Nat)->Prop
 | none=>∀x,x∈R->Aw W (hd0 R) x
 | some w=>w.length<=1000/\∃x,x∈R/\PX (XL W W) W W w (hd0 R) x
theorem uJ8 {W:Web} (f:Fine W) (hl:W.length<=60) {a b:Nat} {w:List Nat} (ha:a<W.length) (hb:b<W.length) (h:Lst (XL W W) W W a b (some w)):w.length<=1000:=by
 rcases lKk 1000 w.length with z | z
 ·exfalso
  refine qXj f f (by omega) ha hb (fun p hp q=> ?_) w h.1
  have:=h.2 p q
  rcases this with e | e | ⟨e,_⟩
  ·rw[e] at z;omega
  ·omega
  ·omega
 ·exact z
noncomputable def jQa:Sp3:=fun xs G Q=>∃(W:Web) (p:Addr) (R:List Nat),xs=[encW W,.ref p]/\Fine W/\W.length<=60/\G p=some (.lst (jJk R))/\R≠[]/\(∀x,x∈R->x<W.length)/\∀o G',FP W R o->Sub G G'->Q (oWay o) G'
def kJ0:List Str:=["web","rooms","room","way"]
noncomputable def jQv:TS3:=
 (tSeq (tFor (iSeq (tVar 1)) (jJi 2) (tSeq (tAsg (jJr jX7 (jJc (tVar 0) (jJc (tOp rIxF (tVar 1) (tC (.int 0))) (jJc (tVar 0) (jJc (tVar 2) tNil))))) (jJi 3))
 (tIfS (jJ1 (tOp uJo (tVar 3) (tC .non))) (tRet (tVar 3)) jKr)))
 (tRet (tC .non)))
theorem jXw:RdOk jQa jQv kJ0:=by
 intro xs G Q h_;apply xe3 h_;clear h_;intro W p R h_;apply ae6 h_;clear h_;intro fine hl hp hne hR kk
 show jQv _ [some (encW W),some (.ref p),none,none] G
 have hs:=sz
 obtain⟨x0,R0,rfl⟩:∃x R0,R=x::R0:=by
  cases R with
  | nil=>exact absurd rfl hne
  | cons x R0=>exact⟨x,R0,rfl⟩
 have h00:L2.atI (jJk (x0::R0)) 0=some (.int (x0:Nat)):=by
  show L2.atI (jJk (x0::R0)) ((0:Nat):Int)=_
  rw[atN];rfl
 have hx0:=hR x0 (lJu ..)
 wp_walk using 1,jQv,jJw,iSeq
 refine⟨_,jJn hp,?_⟩
 let J1:Nat->St3->Gp->Prop:=fun i τ G'=>∃v2 v3:Option T,τ=[some (encW W),some (.ref p),v2,v3]/\(∀(j x:Nat),j<i->(x0::R0)[j]? =some x->Aw W x0 x)/\Sub G G'
 refine⟨J1,?_,?_,?_,?_⟩
 ·exact⟨none,none,rfl,fun j x h=>absurd h (lKx _),.refl _⟩
 ·intro i τ G1 _ h_;apply xe2 h_;clear h_;intro v2 v3 h_;apply ae2 h_;clear h_;intro h1 h2
  exact jJn (h2 _ _ hp)
 ·intro i y τ G1 hy h_;apply xe2 h_;clear h_;intro v2 v3 h_;apply ae2 h_;clear h_;intro h1 h2
  obtain⟨x,hx,rfl⟩:=jK5 hy
  have hxl:=hR x (lJi hx)
  wp_walk using 1,jKe (h2 _ _ hp),h00
  refine⟨W,W,x0,x,rfl,fine,fine,hx0,hxl,by have:W.length*W.length<=60*60:=Nat.mul_le_mul hl hl;omega,fun o G2 lo s2=> ?_⟩
  cases o with
  | none=>
   wp_walk using 1,oWay
   refine⟨_,_,rfl,fun j x' hj hx'=> ?_,h2.trans s2⟩
   rcases lKk j i with z | z
   ·exact h1 j x' z hx'
   ·have:j=i:=by omega
    subst this
    rw[hx] at hx';cases hx'
    exact lo
  | some w=>
   have hw:=uJ8 fine hl hx0 hxl lo
   wp_walk using 1,oWay,wayT
   exact kk (some w) G2 ⟨hw,x,lJi hx,lo.1⟩ (h2.trans s2)
 ·intro τ G1 h_;apply xe2 h_;clear h_;intro v2 v3 h_;apply ae2 h_;clear h_;intro h1 h2
  have hl:(jJk (x0::R0)).length=(x0::R0).length:=by simp[jJk]
  rw[hl] at h1
  wp_walk using 1,tSeq
  refine kk none G1 (fun x hx=> ?_) h2
  (obtain⟨j,hj⟩:=lKc hx)
  exact h1 j x (lJe.mp hj).1 hj
def whL (W:Web) (r:Nat):List Nat:=(List.range W.length).filter fun x=>decide ((jJ4 W W.length)[r]? =(jJ4 W W.length)[x]?)
structure Good (W:Web) (r w0:Nat) (R:List Nat) (wk:Nat):Prop where
 le:w0<=wk
 ex:∃P:Nat->Bool,R=(List.range W.length).filter P/\P r=true/\∀y,y<W.length->P y=false->∃q,PX (XL W W) W W q r y/\w0+q.length<=wk
theorem Good.mem {W:Web} {r w0 wk:Nat} {R:List Nat} (h:Good W r w0 R wk) (hr:r<W.length):r∈R:=by
 obtain⟨P,rfl,h1,_⟩:=h.ex
 exact lK2.mpr ⟨lJy.mpr hr,h1⟩
theorem Good.lt {W:Web} {r w0 wk:Nat} {R:List Nat} (h:Good W r w0 R wk) {x:Nat} (hx:x∈R):x<W.length:=by
 obtain⟨P,rfl,_,_⟩:=h.ex
 exact lJy.mp (lK2.mp hx).1
theorem Good.len {W:Web} {r w0 wk:Nat} {R:List Nat} (h:Good W r w0 R wk):R.length<=W.length:=by
 obtain⟨P,rfl,_,_⟩:=h.ex
 exact lJ8 (lVj _ _) (by simp)
def sq (W:Web) (r:Nat) (w:List Nat) (x:Nat):Bool:=eqT (sT W x w) (sT W r w)
theorem sq_iff {W:Web} {r x:Nat} {w:List Nat}:sq W r w x=true↔sT W x w=sT W r w:=qXl 2 pl_sT pl_sT
theorem eqG_sq {G:Gp} {W:Web} {r x:Nat} {w:List Nat}:eqG G (sT W x w) (sT W r w)=some (sq W r w x):=by
 have:eqG G (sT W x w) (sT W r w)=if eqOk (sT W x w)=true/\eqOk (sT W r w)=true then some (eqT (sT W x w) (sT W r w)) else none:=by
  unfold sT
  cases goW W x w<;>rfl
 rw[this,lJc ⟨ok_sT,ok_sT⟩];rfl
theorem Good.step {W:Web} {r w0 wk wk':Nat} {R:List Nat} {w:List Nat} (h:Good W r w0 R wk) (hw:∀k,k<=w.length->(goW W r (w.take k)).isSome=true->wk+k<=wk') (hm:wk<=wk'):Good W r w0 (R.filter (sq W r w)) wk':=by
 obtain⟨P,rfl,h1,h2⟩:=h.ex
 have hle:=h.le
 refine⟨by omega,fun x=>sq W r w x&&P x,by rw[List.filter_filter],?_,fun y hy hf=> ?_⟩
 ·show (sq W r w r&&P r)=true
  rw[h1,sq_iff.mpr rfl];rfl
 ·cases hp:P y with
  | false=>
   obtain⟨q,a,b⟩:=h2 y hy hp
   exact⟨q,a,by omega⟩
  | true=>
   have hf:(sq W r w y&&P y)=false:=hf
   rw[hp,Bool.and_true] at hf
   have hne:sT W r w≠sT W y w:=fun z=>by rw[sq_iff.mpr z.symm] at hf;cases hf
   obtain⟨k,hk,hpx⟩:=uJp hne
   obtain⟨es,_,e1,_⟩:=uJr hpx
   have:=hw k hk (by rw[e1];rfl)
   refine⟨_,hpx,?_⟩
   rw[lQd,Nat.min_eq_left hk]
   omega
theorem Good.less {W:Web} {r:Nat} {R w:List Nat} (hp:FP W R (some w)) (hne:R≠[]):(R.filter (sq W r w)).length<R.length:=by
 obtain⟨_,x,hx,h⟩:=hp
 have h0:hd0 R∈R:=by
  cases R with
  | nil=>exact absurd rfl hne
  | cons a R=>exact lJu ..
 refine List.length_filter_lt_length_iff_exists.mpr ?_
 by_cases z:sq W r w x=true
 ·refine⟨hd0 R,h0,fun y=>uJq h ?_⟩
  rw[sq_iff.mp y,sq_iff.mp z]
 ·exact⟨x,hx,z⟩
theorem Good.done {W:Web} {r w0 wk:Nat} {R:List Nat} (fine:Fine W) (hr:r<W.length) (h:Good W r w0 R wk) (hp:FP W R none):R=whL W r/\∀y,y<W.length->¬ Aw W r y->∃q,PX (XL W W) W W q r y/\w0+q.length<=wk:=by
 have hm:=h.mem hr
 obtain⟨P,rfl,h1,h2⟩:=h.ex
 have key:∀y,y<W.length->(P y=true↔Aw W r y):=fun y hy=>by
  constructor
  ·intro z
   exact (hp r hm).symm.trans (hp y (lK2.mpr ⟨lJy.mpr hy,z⟩))
  ·intro z
   cases q:P y with
   | true=>rfl
   | false=>
    obtain⟨p,a,_⟩:=h2 y hy q
    exact absurd a (z p)
 refine⟨List.filter_congr fun y hy=> ?_,fun y hy z=>h2 y hy ?_⟩
 ·have hy:=lJy.mp hy
  have k1:=(key y hy).trans (aw_alk fine hr hy)
  unfold Alk at k1
  by_cases q:(jJ4 W W.length)[r]? =(jJ4 W W.length)[y]?
  ·rw[lKa q];exact k1.mpr q
  ·rw[lJ0 q]
   cases e:P y with
   | true=>exact absurd (k1.mp e) q
   | false=>rfl
 ·cases q:P y with
  | true=>exact absurd ((key y hy).mp q) z
  | false=>rfl
noncomputable def jKa:Sp3:=fun xs G Q=>∃(a l:Addr) (W:Web) (s:WS),xs=[.ref a,encW W]/\WkAt G a l W s/\Fine W/\Sym W/\W.length<=60/\s.rm<W.length/\∀p s' G',G p=none->G' p=some (.lst (jJk (whL W s.rm)))->WkAt G' a l W s'->SameS s s'->(∀y,y<W.length->¬ Aw W s.rm y->∃q,PX (XL W W) W W q s.rm y/\s.wk+q.length<=s'.wk)->Kp [a] G G'->Q (.ref p) G'
def kQ9:List Str:=["walker","web","rooms","way","found","room"]
noncomputable def jUi:TS3:=
 (tSeq (tAsg (jQ2 (jJc (tCB rLen (jJc (tVar 1) tNil)) tNil)) (jJi 2))
 (tSeq (tAsg (jJr jQa (jJc (tVar 1) (jJc (tVar 2) tNil))) (jJi 3))
 (tSeq (jZq (jJ1 (tOp uJo (tVar 3) (tC .non))) (tSeq (tAsg (jJr jX6 (jJc (tVar 0) (jJc (tVar 3) tNil))) (jJi 4))
 (tSeq (tAsg (jQu [false,false,false,false,false,true] (iSeq (tVar 2)) (jJi 5) (jJ1 (tOp rEqA (jJr kV4 (jJc (tVar 1) (jJc (tVar 5) (jJc (tVar 3) tNil)))) (tVar 4))) (tVar 5)) (jJi 2))
 (tAsg (jJr jQa (jJc (tVar 1) (jJc (tVar 2) tNil))) (jJi 3)))))
 (tRet (tVar 2)))))
theorem jY0:RdOk jKa jUi kQ9:=by
 intro xs G Q h_;apply xe4 h_;clear h_;intro a l W s h_;apply ae6 h_;clear h_;intro h fine sy hl hr kk
 show jUi _ [some (.ref a),some (encW W),none,none,none,none] G
 have hs:=sz
 wp_walk using 1,jUi,jQ2,jZq
 refine⟨W.map encR,rfl,by omega,by rw[lJf];omega,fun p0 hp0=> ?_⟩
 have e0:rngT 0 (((W.map encR).length:Nat):Int).toNat=jJk (List.range W.length):=by
  rw[show (((W.map encR).length:Nat):Int).toNat=W.length by rw[lJf];rfl,jQz];rfl
 rw[e0]
 have g0:Good W s.rm s.wk (List.range W.length) s.wk:=⟨lJh _,fun _=>true,(List.filter_eq_self.mpr fun _ _=>rfl).symm,rfl,fun y _ z=>by cases z⟩
 have ne0:∀ {R:List Nat} {wk:Nat},Good W s.rm s.wk R wk->R≠[]:=fun g z=>by have:=g.mem hr;rw[z] at this;cases this
 have hap0:a≠p0:=jJf h.1 hp0
 have hlp0:l≠p0:=jJf h.2 hp0
 refine⟨W,p0,List.range W.length,rfl,fine,hl,jJg,ne0 g0,fun x hx=>g0.lt hx,fun o G1 fp s1=> ?_⟩
 let J:Nat->St3->Gp->Prop:=fun m τ G'=>∃(p:Addr) (R:List Nat) (o:Option (List Nat)) (s':WS) (v4 v5:Option T),τ=[some (.ref a),some (encW W),some (.ref p),some (oWay o),v4,v5]/\G p=none/\G' p=some (.lst (jJk R))/\Good W s.rm s.wk R s'.wk/\FP W R o/\WkAt G' a l W s'/\SameS s s'/\Kp [a] G G'/\m=R.length
 refine⟨J,⟨_,p0,_,o,s,none,none,rfl,hp0,s1 _ _ jJg,g0,fp,?_,⟨rfl,rfl,rfl⟩,((Kp.refl _ _).over hp0).trans (.sub s1),rfl⟩,?_⟩
 ·exact⟨s1 _ _ (by rw[jJm hap0];exact h.1),s1 _ _ (by rw[jJm hlp0];exact h.2)⟩
 intro m τ G2 h_;apply xe6 h_;clear h_;intro p R o s' v4 v5 h_;apply ae8 h_;clear h_;intro hp h1 g fp wk ss kp e7_
 subst e7_
 have hpa:p≠a:=by rintro rfl;rw[wk.1] at h1;cases h1
 cases o with
 | none=>
  wp_walk using 1,oWay
  obtain⟨e,hd⟩:=g.done fine hr fp
  subst e
  exact kk p s' G2 hp h1 wk ss hd kp
 | some w=>
  have hwl:=fp.1
  wp_walk using 1,oWay,wayT,iSeq
  let N1:St3->Gp->Prop:=fun τ' G'=>∃(p:Addr) (R':List Nat) (o:Option (List Nat)) (s':WS) (v4 v5:Option T),τ'=[some (.ref a),some (encW W),some (.ref p),some (oWay o),v4,v5]/\G p=none/\G' p=some (.lst (jJk R'))/\Good W s.rm s.wk R' s'.wk/\FP W R' o/\WkAt G' a l W s'/\SameS s s'/\Kp [a] G G'/\R'.length<R.length
  refine⟨N1,?_,?_⟩
  ·rintro τ' G' ⟨p,R',o,s',v4,v5,e1,e2,e3,e4,e5,e6,e7,e8,e9⟩
   exact⟨_,e9,p,R',o,s',v4,v5,e1,e2,e3,e4,e5,e6,e7,e8,rfl⟩
  refine⟨a,l,W,s',w,rfl,wk,fine,sy,by rw[ss.rm];exact hr,hwl,fun s2 G3 wk3 ss3 st3 kp3=> ?_⟩
  rw[ss.rm] at st3 ⊢
  have h3:=kp3 _ _ (by simpa using hpa) h1
  have gs:=g.step st3 (by have:=st3 0 (lJs _) rfl;omega)
  refine⟨_,jJn h3,?_⟩
  have hRl:=g.len
  refine jU9 (es:=R) (enc:=fun x:Nat=>T.int (x:Nat)) (fun x=>if sq W s.rm w x=true then some (T.int (x:Nat)) else none) (by omega) (fun G' s=>jJn (s _ _ h3)) ?_ ?_
  ·intro i x hx G4 K K0 s4 hK hK0
   have hxl:=g.lt (lJi hx)
   have fin:∀G5,Sub G4 G5->∀t,t=sT W x w->∃b,eqG G5 t (sT W s.rm w)=some b/\if b=true then K (T.int (x:Nat)) G5 else K0 G5:=fun G5 s5 t ht=>by
    subst ht
    refine⟨_,eqG_sq,?_⟩
    by_cases z:sq W s.rm w x=true
    ·rw[lJc z];exact hK _ _ (lJc z) s5
    ·rw[lJb z];exact hK0 (lJb z) _ s5
   wp_walk using 1,rEqA
   refine⟨W,x,_,w,rfl,fine,hxl,rfl,hwl,fun G5 s5=>⟨fun hn=> ?_,fun es he=> ?_⟩⟩
   ·exact fin G5 s5 _ (by unfold sT;rw[hn])
   ·exact fin G5 s5 _ (jV8 he).symm
  ·intro D G4 hD q4 s4
   rw[jUw] at q4
   have eR:(R.filter fun x=>decide (sq W s.rm w x=true))=R.filter (sq W s.rm w):=by
    congr 1;funext x;cases sq W s.rm w x<;>rfl
   rw[eR] at q4
   refine⟨W,D,R.filter (sq W s.rm w),rfl,fine,hl,q4,ne0 gs,fun x hx=>gs.lt hx,fun o G5 fp5 s5=> ?_⟩
   have kp5:=(kp.trans kp3).trans (.sub s4)
   have hDa:D≠a:=by rintro rfl;rw[wk3.1] at hD;cases hD
   exact⟨D,_,o,s2,_,_,rfl,(kp.trans kp3).none (by simpa using hDa) hD,s5 _ _ q4,gs,fp5,⟨s5 _ _ (s4 _ _ wk3.1),s5 _ _ (s4 _ _ wk3.2)⟩,⟨ss3.rm.trans ss.rm,ss3.hd.trans ss.hd,ss3.ly.trans ss.ly⟩,kp5.trans (.sub s5),Good.less fp (ne0 g)⟩
theorem uKp:∀i:Nat,i<31->(PyData.shown (.int (i:Nat))).length<=2/\PyData.showable (.int (i:Nat))=true/\PyData.strOk (PyData.shown (.int (i:Nat)))=true:=by decide +kernel
theorem jZr {a b:Str} (ha:PyData.strOk a=true) (hb:PyData.strOk b=true):PyData.strOk (a++b)=true:=by
 unfold PyData.strOk at *
 rw[Str.cps_append,Array.all_append,ha,hb];rfl
theorem qZh:∀(ts:List Str) (k:Nat) (acc:Str),(∀t,t∈ts->t.length<=2/\PyData.strOk t=true)->PyData.strOk acc=true->(textFrom k acc ts).length<=acc.length+ts.length*4/\PyData.strOk (textFrom k acc ts)=true
 | [],k,acc,_,ha=>⟨lJh _,ha⟩
 | t::ts,k,acc,h,ha=>by
  obtain⟨h1,h2⟩:=h t (lJu ..)
  have hc:PyData.strOk (Str.ofString (if k>0 then ", " else ""))=true/\(Str.ofString (if k>0 then ", " else "")).length<=2:=by split<;>exact⟨by decide +kernel,by decide⟩
  obtain⟨i1,i2⟩:=qZh ts (k+1) (acc++Str.ofString (if k>0 then ", " else "")++t) (fun t ht=>h t (lJx _ ht)) (jZr (jZr ha hc.1) h2)
  refine⟨lJ8 i1 ?_,i2⟩
  rw[Str.length_append,Str.length_append,lJz]
  omega
def dI (R:List Nat):PyData:= .list (R.map fun x:Nat=>PyData.int (x:Nat))
theorem kXh {G:Gp}:∀R:List Nat,RdGs G (jJk R) (R.map fun x:Nat=>PyData.int (x:Nat))
 | []=> .nil
 | x::R=> .cons (.int _) (kXh R)
theorem dI_ok {R:List Nat} (h:∀x,x∈R->x<31) (hl:R.length<=60):(dI R).showable=true/\(dI R).depth<=50/\(dI R).hasDict=false/\(dI R).shown.length<=sizeLine/\PyData.strOk (dI R).shown=true:=by
 have hs:=sz
 have a:∀R:List Nat,(∀x,x∈R->x<31)->PyData.showableAll (R.map fun x:Nat=>PyData.int (x:Nat))=true/\PyData.depthAll (R.map fun x:Nat=>PyData.int (x:Nat))<=1/\PyData.hasDictAll (R.map fun x:Nat=>PyData.int (x:Nat))=false/\(PyData.shownAll (R.map fun x:Nat=>PyData.int (x:Nat))).length=R.length/\∀t,t∈PyData.shownAll (R.map fun x:Nat=>PyData.int (x:Nat))->t.length<=2/\PyData.strOk t=true:=by
  intro R
  induction R with
  | nil=>exact fun _=>⟨rfl,by simp[PyData.depthAll],rfl,rfl,fun t ht=>by cases ht⟩
  | cons x R ih=>
   intro h
   obtain⟨a1,a2,a3,a4,a5⟩:=ih fun y hy=>h y (lJx _ hy)
   obtain⟨b1,b2,b3⟩:=uKp x (h x (lJu ..))
   refine⟨?_,?_,?_,?_,?_⟩
   ·show (PyData.showable (.int (x:Nat))&&PyData.showableAll _)=true
    rw[b2,a1];rfl
   ·rw[lJq,PyData.depthAll,PyData.depth];omega
   ·show (PyData.hasDict (.int (x:Nat))||PyData.hasDictAll _)=false
    rw[a3];rfl
   ·show (_::PyData.shownAll _).length=_
    rw[lJz,lJz,a4]
   ·intro t ht
    rcases lJl.mp (show t∈PyData.shown (.int (x:Nat))::PyData.shownAll _ from ht) with rfl | ht
    ·exact⟨b1,b3⟩
    ·exact a5 t ht
 obtain⟨a1,a2,a3,a4,a5⟩:=a R h
 obtain⟨c1,c2⟩:=qZh _ 0 "[" a5 (by decide +kernel)
 refine⟨a1,by unfold dI;rw[PyData.depth];omega,a3,?_,?_⟩
 ·show (textFrom 0 "[" _++Str.ofString "]").length<=_
  rw[Str.length_append,show (Str.ofString "]").length=1 from rfl]
  rw[a4] at c1
  have:(Str.ofString "[").length=1:=rfl
  omega
 ·exact jZr c2 (by decide +kernel)
theorem uKx {G:Gp} {x:Str} (h:PyData.strOk x=true):eqG G (.str x) (.str x)=some true:=by
 have e:eqOk (.str x)=true:=by
  unfold eqOk
  rw[show tree (.str x)=true from rfl,show (td (.str x)).canLay0=true by rw[td,PyData.canLay0];exact h,lKa (show (td (.str x)).depth<=50 by simp[td,PyData.depth])];rfl
 show (if eqOk (.str x)=true/\eqOk (.str x)=true then some (eqT (.str x) (.str x)) else none)=_
 rw[lJc ⟨e,e⟩]
 simp[eqT]
theorem qYt {G:Gp} {p q:Addr} {L:List Nat} (hp:G p=some (.lst (jJk L))) (hq:G q=some (.lst (jJk L))):eqG G (.ref p) (.ref q)=some true:=by
 obtain⟨a1,a2,a3⟩:=kXq (d:=0) (jJk L) fun x hx=>by obtain⟨i,_,rfl⟩:=lJk.mp hx;exact okD_int
 have e:kX1 (jJk L)=true:=by
  unfold kX1
  rw[a1,a2,lKa (show (PyData.list (tds (jJk L))).depth<=50 by rw[PyData.depth];omega)];rfl
 simp only[eqG,hp,hq]
 rw[lJc ⟨e,e⟩,kJo];simp
def ahT (s:WS):T:= .tup [onT s,.int (s.hd:Nat),.int (s.ly.count (s.rm:Int):Nat)]
theorem uQd {s s':WS} (h:SameS s s'):ahT s'=ahT s:=by
 obtain⟨h1,h2,h3⟩:=h
 unfold ahT onT
 rw[h1,h2,h3]
theorem eq_ah {G:Gp} {s:WS}:eqG G (ahT s) (ahT s)=some true:=by
 have k:OkD 3 (ahT s):=jZ7 fun x hx=>by
  simp only[lKd,lJl,lKy] at hx
  rcases hx with rfl | rfl | rfl
  ·refine jZ7 fun x hx=> ?_
   simp only[lKd,lJl,lKy] at hx
   rcases hx with rfl | rfl
   ·exact okD_int.mono (by omega)
   ·refine jZ7 fun x hx=> ?_
    obtain⟨i,_,rfl⟩:=lJk.mp hx
    exact okD_int
  ·exact okD_int.mono (by omega)
  ·exact okD_int.mono (by omega)
 have p:PlN 3 (ahT s):= .inr ⟨_,rfl,fun u hu=>by
  simp only[lKd,lJl,lKy] at hu
  rcases hu with rfl | rfl | rfl
  ·refine .inr ⟨_,rfl,fun u hu=> ?_⟩
   simp only[lKd,lJl,lKy] at hu
   rcases hu with rfl | rfl
   ·exact jZ4
   ·refine .inr ⟨_,rfl,fun u hu=> ?_⟩
    obtain⟨i,_,rfl⟩:=lJk.mp hu
    exact jZ4
  ·exact jZ4
  ·exact jZ4⟩
 have e:eqOk (ahT s)=true:=by
  unfold eqOk
  rw[k.tr,k.lay,lKa (show (td (ahT s)).depth<=50 by have:=k.dep;omega)];rfl
 show (if eqOk (ahT s)=true/\eqOk (ahT s)=true then some (eqT (ahT s) (ahT s)) else none)=_
 rw[lJc ⟨e,e⟩,(qXl 3 p p).mpr rfl]
theorem far_le {W:Web} (fine:Fine W) {r m w0 wk:Nat} (hr:r<W.length) (hf:uQl W r W.length m) (h:∀y,y<W.length->¬ Aw W r y->∃q,PX (XL W W) W W q r y/\w0+q.length<=wk):w0+m<=wk\/m=0:=by
 rcases hf with rfl | ⟨j,y,_,rfl,hy,h1,h2⟩
 ·exact .inr rfl
 ·refine .inl ?_
  have hn:¬ Aw W r y:=fun z=>h2 ((jUp fine _ r y hr hy).mpr fun p _ q=>z p (px_pw.mpr q))
  obtain⟨q,hq,hw⟩:=h y hy hn
  have:¬ q.length<=j:=fun z=>(jUp fine j r y hr hy).mp h1 q z (px_pw.mp hq)
  omega
noncomputable def N_law:List Str:=["_law_script","_law_k","_law_box_here","_law_web_here","_law_numbers","_law_room","_law_walker","_law_door","_law_ahead","_law_told","_law_due","_law_fresh","_law_turn_here","_law_found","_law_other"]
noncomputable def kYu:TS3:=
 (tSeq (tAsg (jJr jU0 (jJc (tVar 0) (jJc (tC (.int 8)) tNil))) (jJi 0))
 (tSeq (tFor (jJ6 (jJc (tCB rMax (jJc (tC (.int 1)) (jJc (tCB rLen (jJc (tVar 0) tNil)) tNil))) tNil)) (jJi 1) (tSeq (tAsg (jJr jZa (jJc (tVar 0) (jJc (tVar 1) tNil))) (jJi 2))
 (tSeq (tAsg (jJr jQ9 (jJc (tVar 2) tNil)) (jJi 3))
 (tSeq (tIfS (jJ1 (tOp rEqA (jJr jJp (jJc (tVar 2) (jJc (tC (.int 4)) tNil))) (tC (.int 0)))) (tAsg (jJr jXp (jJc (tOp jKh (tC (.int 2)) (jJr jJp (jJc (tVar 2) (jJc (tC (.int 23)) tNil)))) tNil)) (jJi 3)) jKr)
 (tSeq (tAsg (jJr jQs (jJc (tVar 2) (jJc (tVar 3) tNil))) (gTup 2 (jKl (jJi 3) (jKl (jJi 4) gNil))))
 (tSeq (tAsg (jJr jJp (jJc (tVar 2) (jJc (tCB rLen (jJc (tVar 3) tNil)) tNil))) (jJi 5))
 (tSeq (tAsg (kK5 "Walker" jKb (jJc (tVar 3) (jJc (tVar 5) (jJc (jJr jJp (jJc (tVar 2) (jJc (tC (.int 5)) tNil))) tNil)))) (jJi 6))
 (tSeq (tFor (iSeq (jJr jXn (jJc (tVar 2) (jJc (tVar 3) (jJc (tVar 5) (jJc (tC (.int 9)) tNil)))))) (jJi 7) (tSeq (jK2 (jKm "Walker" "go" jKq (tVar 6) (jJc (tVar 7) tNil)))
 (tIfS (tAnd (jJ1 (tOp rGt (jKm "Walker" "in_hand" jJs (tVar 6) tNil) (tC (.int 0)))) (jJ1 (tOp rEqA (jJr jJp (jJc (tVar 2) (jJc (tC (.int 4)) tNil))) (tC (.int 0))))) (jK2 (jKm "Walker" "lay" jQh (tVar 6) tNil)) jKr)))
 (tSeq (tAsg (tTup (jJc (jJr jKw (jJc (tVar 6) tNil)) (jJc (jKm "Walker" "in_hand" jJs (tVar 6) tNil) (jJc (tOp rIxF (jKm "Walker" "here" jJy (tVar 6) tNil) (tC (.int 2))) tNil)))) (jJi 8))
 (tSeq (tAsg (jJr jUr (jJc (tVar 3) tNil)) (jJi 9))
 (tSeq (tAsg (jQu [false,false,false,false,false,false,false,false,false,false,false,false,false,false,true] (jJ6 (jJc (tCB rLen (jJc (tVar 3) tNil)) tNil)) (jJi 14) (jJ1 (tOp rEqA (tOp rIxF (tVar 9) (tVar 14)) (tOp rIxF (tVar 9) (tOp rIxF (tOp rIxF (tVar 8) (tC (.int 0))) (tC (.int 0)))))) (tVar 14)) (jJi 10))
 (tSeq (tAsg (kK5 "Walker" jKb (jJc (tVar 3) (jJc (tOp rIxF (tOp rIxF (tVar 8) (tC (.int 0))) (tC (.int 0))) (jJc (tC (.int 0)) tNil)))) (jJi 11))
 (tSeq (tIfS (tOr (jJ1 (tOp rNeA (jJr jKa (jJc (tVar 11) (jJc (tVar 3) tNil))) (tVar 10))) (jJ1 (tOp rLt (jKm "Walker" "steps" jKx (tVar 11) tNil) (jJr jXq (jJc (tVar 3) (jJc (tOp rIxF (tOp rIxF (tVar 8) (tC (.int 0))) (tC (.int 0))) tNil)))))) (tRet (tC (.bl false))) jKr)
 (tFor (jJ6 (jJc (tC (.int 2)) tNil)) (jJi 12) (tSeq (tAsg (jJr jKa (jJc (tVar 6) (jJc (tVar 3) tNil))) (jJi 13))
 (tSeq (tIfS (tOr (tNot (jJ1 (tCB rIsi (jJc (tVar 13) (jJc (tC (.ty "list")) tNil))))) (jJ1 (tOp rNeA (tCB jYr (jJc (tVar 13) tNil)) (tCB jYr (jJc (tVar 10) tNil))))) (tRet (tC (.bl false))) jKr)
 (tSeq (jK2 (tBM "list" jJ8 (tVar 13) (jJc (tC (.int 0)) tNil)))
 (tIfS (jJ1 (tOp rNeA (tTup (jJc (jJr jKw (jJc (tVar 6) tNil)) (jJc (jKm "Walker" "in_hand" jJs (tVar 6) tNil) (jJc (tOp rIxF (jKm "Walker" "here" jJy (tVar 6) tNil) (tC (.int 2))) tNil)))) (tVar 8))) (tRet (tC (.bl false))) jKr))))))))))))))))))
 (tRet (tC (.bl true)))))
noncomputable def kXg:TS3:=(tSeq (tAsg (tTup (jJc (jJr jKw (jJc (tVar 6) tNil)) (jJc (jKm "Walker" "in_hand" jJs (tVar 6) tNil) (jJc (tOp rIxF (jKm "Walker" "here" jJy (tVar 6) tNil) (tC (.int 2))) tNil)))) (jJi 8))
 (tSeq (tAsg (jJr jUr (jJc (tVar 3) tNil)) (jJi 9))
 (tSeq (tAsg (jQu [false,false,false,false,false,false,false,false,false,false,false,false,false,false,true] (jJ6 (jJc (tCB rLen (jJc (tVar 3) tNil)) tNil)) (jJi 14) (jJ1 (tOp rEqA (tOp rIxF (tVar 9) (tVar 14)) (tOp rIxF (tVar 9) (tOp rIxF (tOp rIxF (tVar 8) (tC (.int 0))) (tC (.int 0)))))) (tVar 14)) (jJi 10))
 (tSeq (tAsg (kK5 "Walker" jKb (jJc (tVar 3) (jJc (tOp rIxF (tOp rIxF (tVar 8) (tC (.int 0))) (tC (.int 0))) (jJc (tC (.int 0)) tNil)))) (jJi 11))
 (tSeq (tIfS (tOr (jJ1 (tOp rNeA (jJr jKa (jJc (tVar 11) (jJc (tVar 3) tNil))) (tVar 10))) (jJ1 (tOp rLt (jKm "Walker" "steps" jKx (tVar 11) tNil) (jJr jXq (jJc (tVar 3) (jJc (tOp rIxF (tOp rIxF (tVar 8) (tC (.int 0))) (tC (.int 0))) tNil)))))) (tRet (tC (.bl false))) jKr)
 (tFor (jJ6 (jJc (tC (.int 2)) tNil)) (jJi 12) (tSeq (tAsg (jJr jKa (jJc (tVar 6) (jJc (tVar 3) tNil))) (jJi 13))
 (tSeq (tIfS (tOr (tNot (jJ1 (tCB rIsi (jJc (tVar 13) (jJc (tC (.ty "list")) tNil))))) (jJ1 (tOp rNeA (tCB jYr (jJc (tVar 13) tNil)) (tCB jYr (jJc (tVar 10) tNil))))) (tRet (tC (.bl false))) jKr)
 (tSeq (jK2 (tBM "list" jJ8 (tVar 13) (jJc (tC (.int 0)) tNil)))
 (tIfS (jJ1 (tOp rNeA (tTup (jJc (jJr jKw (jJc (tVar 6) tNil)) (jJc (jKm "Walker" "in_hand" jJs (tVar 6) tNil) (jJc (tOp rIxF (jKm "Walker" "here" jJy (tVar 6) tNil) (tC (.int 2))) tNil)))) (tVar 8))) (tRet (tC (.bl false))) jKr))))))))))
noncomputable def kQk:TS3:=(tSeq (tAsg (jJr jQs (jJc (tVar 2) (jJc (tVar 3) tNil))) (gTup 2 (jKl (jJi 3) (jKl (jJi 4) gNil))))
 (tSeq (tAsg (jJr jJp (jJc (tVar 2) (jJc (tCB rLen (jJc (tVar 3) tNil)) tNil))) (jJi 5))
 (tSeq (tAsg (kK5 "Walker" jKb (jJc (tVar 3) (jJc (tVar 5) (jJc (jJr jJp (jJc (tVar 2) (jJc (tC (.int 5)) tNil))) tNil)))) (jJi 6))
 (tSeq (tFor (iSeq (jJr jXn (jJc (tVar 2) (jJc (tVar 3) (jJc (tVar 5) (jJc (tC (.int 9)) tNil)))))) (jJi 7) (tSeq (jK2 (jKm "Walker" "go" jKq (tVar 6) (jJc (tVar 7) tNil)))
 (tIfS (tAnd (jJ1 (tOp rGt (jKm "Walker" "in_hand" jJs (tVar 6) tNil) (tC (.int 0)))) (jJ1 (tOp rEqA (jJr jJp (jJc (tVar 2) (jJc (tC (.int 4)) tNil))) (tC (.int 0))))) (jK2 (jKm "Walker" "lay" jQh (tVar 6) tNil)) jKr)))
 (tSeq (tAsg (tTup (jJc (jJr jKw (jJc (tVar 6) tNil)) (jJc (jKm "Walker" "in_hand" jJs (tVar 6) tNil) (jJc (tOp rIxF (jKm "Walker" "here" jJy (tVar 6) tNil) (tC (.int 2))) tNil)))) (jJi 8))
 (tSeq (tAsg (jJr jUr (jJc (tVar 3) tNil)) (jJi 9))
 (tSeq (tAsg (jQu [false,false,false,false,false,false,false,false,false,false,false,false,false,false,true] (jJ6 (jJc (tCB rLen (jJc (tVar 3) tNil)) tNil)) (jJi 14) (jJ1 (tOp rEqA (tOp rIxF (tVar 9) (tVar 14)) (tOp rIxF (tVar 9) (tOp rIxF (tOp rIxF (tVar 8) (tC (.int 0))) (tC (.int 0)))))) (tVar 14)) (jJi 10))
 (tSeq (tAsg (kK5 "Walker" jKb (jJc (tVar 3) (jJc (tOp rIxF (tOp rIxF (tVar 8) (tC (.int 0))) (tC (.int 0))) (jJc (tC (.int 0)) tNil)))) (jJi 11))
 (tSeq (tIfS (tOr (jJ1 (tOp rNeA (jJr jKa (jJc (tVar 11) (jJc (tVar 3) tNil))) (tVar 10))) (jJ1 (tOp rLt (jKm "Walker" "steps" jKx (tVar 11) tNil) (jJr jXq (jJc (tVar 3) (jJc (tOp rIxF (tOp rIxF (tVar 8) (tC (.int 0))) (tC (.int 0))) tNil)))))) (tRet (tC (.bl false))) jKr)
 (tFor (jJ6 (jJc (tC (.int 2)) tNil)) (jJi 12) (tSeq (tAsg (jJr jKa (jJc (tVar 6) (jJc (tVar 3) tNil))) (jJi 13))
 (tSeq (tIfS (tOr (tNot (jJ1 (tCB rIsi (jJc (tVar 13) (jJc (tC (.ty "list")) tNil))))) (jJ1 (tOp rNeA (tCB jYr (jJc (tVar 13) tNil)) (tCB jYr (jJc (tVar 10) tNil))))) (tRet (tC (.bl false))) jKr)
 (tSeq (jK2 (tBM "list" jJ8 (tVar 13) (jJc (tC (.int 0)) tNil)))
 (tIfS (jJ1 (tOp rNeA (tTup (jJc (jJr jKw (jJc (tVar 6) tNil)) (jJc (jKm "Walker" "in_hand" jJs (tVar 6) tNil) (jJc (tOp rIxF (jKm "Walker" "here" jJy (tVar 6) tNil) (tC (.int 2))) tNil)))) (tVar 8))) (tRet (tC (.bl false))) jKr))))))))))))))
theorem qJc:kQk=(tSeq (tAsg (jJr jQs (jJc (tVar 2) (jJc (tVar 3) tNil))) (gTup 2 (jKl (jJi 3) (jKl (jJi 4) gNil)))) (tSeq (tAsg (jJr jJp (jJc (tVar 2) (jJc (tCB rLen (jJc (tVar 3) tNil)) tNil))) (jJi 5)) (tSeq (tAsg (kK5 "Walker" jKb (jJc (tVar 3) (jJc (tVar 5) (jJc (jJr jJp (jJc (tVar 2) (jJc (tC (.int 5)) tNil))) tNil)))) (jJi 6)) (tSeq (tFor (iSeq (jJr jXn (jJc (tVar 2) (jJc (tVar 3) (jJc (tVar 5) (jJc (tC (.int 9)) tNil)))))) (jJi 7) (tSeq (jK2 (jKm "Walker" "go" jKq (tVar 6) (jJc (tVar 7) tNil)))
 (tIfS (tAnd (jJ1 (tOp rGt (jKm "Walker" "in_hand" jJs (tVar 6) tNil) (tC (.int 0)))) (jJ1 (tOp rEqA (jJr jJp (jJc (tVar 2) (jJc (tC (.int 4)) tNil))) (tC (.int 0))))) (jK2 (jKm "Walker" "lay" jQh (tVar 6) tNil)) jKr))) kXg)))):=rfl
theorem qK8:kYu=(tSeq (tAsg (jJr jU0 (jJc (tVar 0) (jJc (tC (.int 8)) tNil))) (jJi 0)) (tSeq (tFor (jJ6 (jJc (tCB rMax (jJc (tC (.int 1)) (jJc (tCB rLen (jJc (tVar 0) tNil)) tNil))) tNil)) (jJi 1) (tSeq (tAsg (jJr jZa (jJc (tVar 0) (jJc (tVar 1) tNil))) (jJi 2)) (tSeq (tAsg (jJr jQ9 (jJc (tVar 2) tNil)) (jJi 3)) (tSeq (tIfS (jJ1 (tOp rEqA (jJr jJp (jJc (tVar 2) (jJc (tC (.int 4)) tNil))) (tC (.int 0)))) (tAsg (jJr jXp (jJc (tOp jKh (tC (.int 2)) (jJr jJp (jJc (tVar 2) (jJc (tC (.int 23)) tNil)))) tNil)) (jJi 3)) jKr) kQk)))) (tRet (tC (.bl true))))):=rfl
theorem whL_is {W:Web} {M:List Nat} {r:Nat} (hM:M.length=W.length) (hm:num M=jJ4 W W.length) (hr:r<W.length):((List.range W.length).filter fun x=>decide (M.getD x 0=M.getD r 0))=whL W r:=by
 unfold whL
 refine List.filter_congr fun x hx=> ?_
 have hx:=lJy.mp hx
 have:=kYb hM hm hr hx
 unfold Alk at this
 by_cases z:M.getD x 0=M.getD r 0
 ·rw[lKa z,lKa (this.mp z.symm)]
 ·rw[lJ0 z,lJ0 fun q=>z (this.mpr q).symm]
theorem whL_lt {W:Web} {r x:Nat} (h:x∈whL W r):x<W.length:=lJy.mp (lK2.mp h).1
theorem qZ6 {W:Web} {r:Nat}:(whL W r).length<=W.length:=by unfold whL;exact lJ8 (lVj _ _) (by simp)
theorem lawB {D:Ends3} {G:Gp} {a l:Addr} {W:Web} {s:WS} {v0 v1 v2 v4 v5 v7 v8 v9 v10 v11 v12 v13 v14:Option T} (aw:AnyWeb W) (h:WkAt G a l W s) (hr:s.rm<W.length) (hly:s.ly.length<64)
  (kk:∀v0' v1' v2' v4' v5' v7' v8' v9' v10' v11' v12' v13' v14' G',v0'=v0->v1'=v1->v2'=v2->Kp [a] G G'->D.nx [v0',v1',v2',some (encW W),v4',v5',some (.ref a),v7',v8',v9',v10',v11',v12',v13',v14'] G'):
  kXg D [v0,v1,v2,some (encW W),v4,v5,some (.ref a),v7,v8,v9,v10,v11,v12,v13,v14] G:=by
 have hs:=sz
 have fine:=aw.fine
 have hl:=aw.len
 wp_walk using 1,kXg,jKm,kK5,jJw,jJ6,iSeq,rEqA,rNeA,rLt
 refine⟨a,l,W,s,rfl,h,hly,fun G1 s1=> ?_⟩
 have w1:WkAt G1 a l W s:=⟨s1 _ _ h.1,s1 _ _ h.2⟩
 refine⟨jYg w1.1,a,l,W,s,rfl,w1,jYg w1.1,a,l,W,s,rfl,w1,hr,_,rfl,by omega,W,rfl,fine,by omega,fun q G2 M hq hq2 hM hm s2=> ?_⟩
 refine⟨W.map encR,rfl,by rw[lJf];omega,by rw[lJf];omega,?_⟩
 rw[show (((W.map encR).length:Nat):Int).toNat=W.length by rw[lJf];rfl,jQz]
 refine jU9 (es:=List.range W.length) (enc:=fun x:Nat=>T.int (x:Nat)) (fun x=>if M.getD x 0=M.getD s.rm 0 then some (T.int (x:Nat)) else none) (by simp;omega) (fun _ _=>trivial) ?_ ?_
 ·intro i x hx G3 K K0 s3 hK hK0
  obtain⟨hi,rfl⟩:=qKz hx
  have on0:∀G:Gp,ixR G (onT s) (.int 0)=some (.int (s.rm:Nat)):=fun _=>rfl
  wp_walk using 1,rEqA,on0,jKe (s3 _ _ hq2),getD_at (show i<M.length by omega),getD_at (show s.rm<M.length by omega),jU8
  by_cases z:M.getD i 0=M.getD s.rm 0
  ·rw[lJc z];exact hK _ _ (lJc z) (.refl _)
  ·rw[lJb z];exact hK0 (lJb z) _ (.refl _)
 intro D3 G3 hD3 q3 s3
 rw[jUw,whL_is hM hm hr] at q3
 have q3:G3 D3=some (.lst (jJk (whL W s.rm))):=q3
 refine⟨.int (s.rm:Nat),rfl,fun a2 ha2=>⟨a2,W,s.rm,0,rfl,jJg,fun l2 G4 hl2 hl20 w4 e4=>⟨rfl,?_⟩⟩⟩
 obtain⟨_,hl23⟩:=jKn hl20
 have s4:Sub G3 G4:=fun x u e=>by
  rw[e4 x (jJf e ha2) (jJf e hl23),jJm (jJf e ha2)];exact e
 refine⟨a2,l2,W,_,rfl,w4,fine,aw.sym,by omega,hr,fun p5 s5' G5 hp5 q5 w5 ss5 st5 kp5=> ?_⟩
 have sG4:Sub G G4:=((s1.trans s2).trans s3).trans s4
 have a2G:∀x u,G3 x=some u->x∉[a2]:=fun x u e z=>by
  rw[lJ1] at z
  rw[z,ha2] at e;cases e
 have keep5:Sub G3 G5:=fun x u e=>kp5 x u (a2G x u e) (s4 _ _ e)
 have due5:=keep5 _ _ q3
 refine⟨true,qYt q5 due5,?_⟩
 rw[lJb (by simp)]
 refine⟨jYg w5.1,a2,l2,W,s5',rfl,w5,.int (s.rm:Nat),rfl,W,s.rm,rfl,fine,by omega,hr,fun m G6 far s6=> ?_⟩
 have hfar:=far_le fine hr far st5
 refine⟨_,rfl,_,rfl,?_⟩
 rw[lJb (by have h0:(0:Nat)=(⟨s.rm,none,0,[],0⟩:WS).wk:=rfl;rcases hfar with z | z;(simp at z;omega);omega)]
 have sG6:Sub G G6:=(((s1.trans s2).trans s3).trans keep5).trans s6
 refine⟨by decide,by decide,?_⟩
 rw[show Int.toNat 2=2 from rfl]
 let J:Nat->St3->Gp->Prop:=fun i τ G'=>∃(v12 v13 v14:Option T) (s':WS),τ=[v0,v1,v2,some (encW W),v4,v5,some (.ref a),v7,some (ahT s),some (.ref q),some (.ref D3),some (.ref a2),v12,v13,v14]/\WkAt G' a l W s'/\SameS s s'/\G' D3=some (.lst (jJk (whL W s.rm)))/\Kp [a] G G'
 have hDa:D3≠a:=by
  rintro rfl
  have:=s2 _ _ (s1 _ _ h.1)
  rw[this] at hD3;cases hD3
 refine⟨J,?_,?_,?_,?_⟩
 ·exact⟨_,_,_,s,rfl,⟨sG6 _ _ h.1,sG6 _ _ h.2⟩,⟨rfl,rfl,rfl⟩,s6 _ _ due5,.sub sG6⟩
 ·intros;trivial
 ·intro i y τ G7 hy h_;apply xe4 h_;clear h_;intro v12 v13 v14 s' h_;apply ae4 h_;clear h_;intro w7 ss7 d7 k7
  have hr7:s'.rm<W.length:=by rw[ss7.rm];exact hr
  wp_walk using 1,jKm,rIsi,jYr,rNeA
  refine⟨a,l,W,s',rfl,w7,fine,aw.sym,by omega,hr7,fun p s8 G8 hp q8 w8 ss8 _ k8=> ?_⟩
  rw[ss7.rm] at q8
  have d8:=k8 _ _ (by simpa using hDa) d7
  have hwl:=qZ6 (W:=W) (r:=s.rm)
  obtain⟨o1,o2,o3,o4,o5⟩:=dI_ok (R:=whL W s.rm) (fun x hx=>by have:=whL_lt hx;omega) (by omega)
  refine⟨true,by simp only[isiT,kUg,q8];rfl,?_⟩
  rw[lJb (by simp)]
  refine⟨p,rfl,dI _,.lst q8 (kXh _),o1,o2,o3,o4,dI _,.lst d8 (kXh _),o1,o2,o3,o4,true,uKx o5,?_⟩
  rw[lJb (by simp)]
  have hpa:p≠a:=by rintro rfl;rw[w7.1] at hp;cases hp
  have hpl:p≠l:=by rintro rfl;rw[w7.2] at hp;cases hp
  have hpD:p≠D3:=by rintro rfl;rw[d7] at hp;cases hp
  have sS:SameS s s8:=⟨ss8.rm.trans ss7.rm,ss8.hd.trans ss7.hd,ss8.ly.trans ss7.ly⟩
  refine⟨by rw[jKd q8];trivial,p,rfl,_,q8,by simp[jJk];omega,?_⟩
  have w9:WkAt (gup G8 p (.lst (jJk (whL W s.rm)++[T.int 0]))) a l W s8:=⟨by rw[jJm hpa.symm];exact w8.1,by rw[jJm hpl.symm];exact w8.2⟩
  have d9:(gup G8 p (.lst (jJk (whL W s.rm)++[T.int 0]))) D3=some (.lst (jJk (whL W s.rm))):=by rw[jJm hpD.symm];exact d8
  have hpG:G p=none:=k7.none (by simpa using hpa) hp
  have k9:Kp [a] G (gup G8 p (.lst (jJk (whL W s.rm)++[T.int 0]))):=(k7.trans k8).over hpG
  generalize gup G8 p (.lst (jJk (whL W s.rm)++[T.int 0]))=G9 at w9 d9 k9 ⊢
  refine⟨a,l,W,s8,rfl,w9,by rw[sS.ly];exact hly,fun G10 s10=> ?_⟩
  have w10:WkAt G10 a l W s8:=⟨s10 _ _ w9.1,s10 _ _ w9.2⟩
  refine⟨jYg w10.1,a,l,W,s8,rfl,w10,jYg w10.1,a,l,W,s8,rfl,w10,by rw[sS.rm];exact hr,_,rfl,by omega,true,?_,?_⟩
  ·have:=eq_ah (G:=G10) (s:=s)
   rw[<-uQd sS] at this ⊢
   exact this
  ·rw[lJb (by simp)]
   exact⟨_,_,_,s8,rfl,w10,sS,s10 _ _ d9,k9.trans (.sub s10)⟩
 ·intro τ G7 h_;apply xe4 h_;clear h_;intro v12 v13 v14 s' h_;apply ae4 h_;clear h_;intro w7 ss7 d7 k7
  exact kk _ _ _ _ _ _ _ _ _ _ _ _ _ _ rfl rfl rfl k7
theorem lawA {D:Ends3} {G:Gp} {b:Addr} {W:Web} {n:Nat} {v0 v1 v4 v5 v6 v7 v8 v9 v10 v11 v12 v13 v14:Option T} (aw:AnyWeb W) (hb:BoxAt G b n) (hn:n+20000<2^40)
  (kk:∀v0' v1' v2' v3' v4' v5' v6' v7' v8' v9' v10' v11' v12' v13' v14' G',v0'=v0->v1'=v1->Kp [b] G G'->D.nx [v0',v1',v2',v3',v4',v5',v6',v7',v8',v9',v10',v11',v12',v13',v14'] G'):
  kQk D [v0,v1,some (.ref b),some (encW W),v4,v5,v6,v7,v8,v9,v10,v11,v12,v13,v14] G:=by
 have hs:=sz
 have hpos:=aw.pos
 have hl:=aw.len
 wp_walk using 1,qJc,jKm,kK5,jJw,iSeq,rEqA,rGt
 refine⟨b,W,n,rfl,hb,by omega,aw,fun nu V G1 tn rn b1 k1=> ?_⟩
 have av:=uJn tn rn aw
 have hVl:V.length=W.length:=rn.len
 refine⟨[encW V,.tup (jJk nu)],rfl,rfl,encW V,_,rfl,_,_,rfl,rfl,V.map encR,rfl,?_⟩
 rw[lJf]
 refine⟨b,_,_,rfl,b1,by omega,by omega,by omega,fun ri G2 r0 r1 b2 k2=> ?_⟩
 obtain⟨r,rfl⟩:=lKj r0
 have hr:r<V.length:=by omega
 refine⟨b,5,_,rfl,b2,by omega,by decide,by decide,fun si G3 t0 t1 b3 k3 a ha=> ?_⟩
 obtain⟨st,rfl⟩:=lKj t0
 obtain⟨bo,hbo⟩:=b3.some
 have hba:b≠a:=jJf hbo ha
 refine⟨a,V,r,st,rfl,jJg,fun l G4 hla hl0 w4 e4=>⟨rfl,?_⟩⟩
 obtain⟨_,hl3⟩:=jKn hl0
 have hbl:b≠l:=jJf hbo hl3
 have s4:Sub G3 G4:=fun x u e=>by
  rw[e4 x (jJf e ha) (jJf e hl3),jJm (jJf e ha)];exact e
 have b4:BoxAt G4 b (n+W.length+1+1):=let ⟨x,y,z,e,q⟩:=b3;⟨x,y,z,s4 _ _ e,q⟩
 have hkb:∀ {G G':Gp},Keep b G G'->Kp [b] G G':=fun k x u hx e=>k x u (fun z=>hx (by rw[z];simp)) e
 have k4:Kp [b] G G4:=((hkb ((k1.trans k2).trans k3))).trans (.sub s4)
 refine⟨b,V,r,9,_,rfl,b4,by omega,av.fine,hr,by decide,fun ds es G5 hgo hdl b5 k5=> ?_⟩
 have hal:a≠l:=hla.symm
 have w5:WkAt G5 a l V ⟨r,none,st,[],0⟩:=⟨k5 _ _ hba.symm w4.1,k5 _ _ hbl.symm w4.2⟩
 refine⟨jJk ds,rfl,?_⟩
 have aG:G a=none:=by
  cases e:G a with
  | none=>rfl
  | some u=>have:=(hkb ((k1.trans k2).trans k3)) _ _ (by simpa using hba.symm) e;rw[ha] at this;cases this
 have lG:G l=none:=by
  cases e:G l with
  | none=>rfl
  | some u=>have:=(hkb ((k1.trans k2).trans k3)) _ _ (by simpa using hbl.symm) e;rw[hl3] at this;cases this
 let J:Nat->St3->Gp->Prop:=fun i τ G'=>∃(v7:Option T) (s:WS),τ=[v0,v1,some (.ref b),some (encW V),some (.tup (jJk nu)),some (.int (r:Nat)),some (.ref a),v7,v8,v9,v10,v11,v12,v13,v14]/\WkAt G' a l V s/\(∃es,goW V r (ds.take i)=some es/\s.rm=jK9 r es)/\s.hd+s.ly.length<=5/\BoxAt G' b (n+W.length+1+1+100+i)/\Kp [b] G G'
 refine⟨J,?_,?_,?_,?_⟩
 ·exact⟨_,_,rfl,w5,⟨[],rfl,rfl⟩,by show st+0<=5;omega,b5,k4.trans (hkb k5)⟩
 ·intros;trivial
 ·intro i y τ G6 hy h_;apply xe2 h_;clear h_;intro v7 s h_;apply ae5 h_;clear h_;intro w6 q1_ h6 b6 k6
  obtain⟨es6,g6,r6⟩:=q1_
  obtain⟨d,hd,rfl⟩:=jK5 hy
  have hi:=(lJe.mp hd).1
  have hg7:(goW V r (ds.take (i+1))).isSome=true:=qUj (by rw[hgo];rfl)
  rw[jVw hd,g6] at hg7
  simp only[lQl] at hg7
  cases he:en V (jK9 r es6) d with
  | none=>rw[he] at hg7;cases hg7
  | some e=>
   have g7:goW V r (ds.take (i+1))=some (es6++[e]):=by rw[jVw hd,g6];simp[he]
   have he':en V s.rm d=some e:=by rw[r6];exact he
   have w7:=w6.gup (s':=goS s e) rfl
   have b7:BoxAt (gup G6 a (wkG V l (goS s e))) b (n+W.length+1+1+100+i):=b6.gup hba
   have k7:Kp [b] G (gup G6 a (wkG V l (goS s e))):=k6.over aG
   have e1:(goS s e).rm=e.1:=rfl
   have hrm:(goS s e).rm<V.length:=av.fine.rng _ _ e.1 e.2 he
   have hly:(goS s e).ly.length<1000:=by show s.ly.length<1000;omega
   wp_walk using 1,jKm,rEqA,rGt
   refine⟨jYg w6.1,a,l,V,s,d,e,rfl,w6,av.fine,he',?_⟩
   generalize gup G6 a (wkG V l (goS s e))=G7 at w7 b7 k7 ⊢
   refine⟨jYg w7.1,a,l,V,goS s e,rfl,w7,_,rfl,?_⟩
   have stay:∀G',WkAt G' a l V (goS s e)->BoxAt G' b (n+W.length+1+1+100+(i+1))->Kp [b] G G'->J (i+1) [v0,v1,some (.ref b),some (encW V),some (.tup (jJk nu)),some (.int (r:Nat)),some (.ref a),some (.int (d:Nat)),v8,v9,v10,v11,v12,v13,v14] G':=fun G' w' b' k'=>⟨_,goS s e,rfl,w',⟨_,g7,by rw[jQd];rfl⟩,h6,b',k'⟩
   by_cases z:0<(goS s e).hd
   ·rw[lJc (by exact_mod_cast z)]
    refine⟨b,4,_,rfl,b7,by omega,by decide,by decide,fun x G8 x0 x1 b8 k8=>⟨_,qUw,?_⟩⟩
    have w8:WkAt G8 a l V (goS s e):=⟨k8 _ _ hba.symm w7.1,k8 _ _ hbl.symm w7.2⟩
    by_cases zx:x=0
    ·rw[lJc (by simpa using zx)]
     refine⟨jYg w8.1,a,l,V,goS s e,rfl,w8,hrm,z,hly,?_⟩
     refine⟨_,layS (goS s e),rfl,⟨?_,jJg⟩,⟨_,g7,by rw[jQd];rfl⟩,?_,?_,((k7.trans (hkb k8)).over aG).over lG⟩
     ·rw[jJm hal,jJg]
     ·show (s.hd-1)+(s.ly++[_]).length<=5
      have z':0<s.hd:=z
      simp;omega
     ·exact (b8.gup hba).gup hbl
    ·rw[lJb (by simpa using zx)]
     exact stay G8 w8 b8 (k7.trans (hkb k8))
   ·rw[lJb (by exact_mod_cast z)]
    exact stay G7 w7 (b7.mono (by omega)) k7
 ·intro τ G6 h_;apply xe2 h_;clear h_;intro v7 s h_;apply ae5 h_;clear h_;intro w6 q1_ h6 b6 k6
  obtain⟨es6,g6,r6⟩:=q1_
  have hll:(jJk ds).length=ds.length:=by simp[jJk]
  rw[hll,lQs,hgo] at g6
  cases g6
  have hrm:s.rm<V.length:=by rw[r6];exact (kVd av.fine hr hgo).1
  refine lawB av w6 hrm (by omega) fun v0' v1' v2' v4' v5' v7' v8' v9' v10' v11' v12' v13' v14' G' e0 e1 e2 k'=> ?_
  refine kk _ _ _ _ _ _ _ _ _ _ _ _ _ _ _ G' e0 e1 (fun x u hx e=>k' x u (fun z=> ?_) (k6 x u hx e))
  rw[lJ1] at z
  rw[z,aG] at e;cases e
def qKn:Sp3:=fun xs G Q=>∃ns:List Int,xs=[.scr (jKs ns)]/\ns.length<=63/\∀G',Q (.bl true) G'
theorem qXe:RdOk qKn kYu N_law:=by
 intro xs G Q h_;apply xe1 h_;clear h_;intro ns h_;apply ae2 h_;clear h_;intro hns kk
 show kYu _ [some (.scr (jKs ns)),none,none,none,none,none,none,none,none,none,none,none,none,none,none] G
 have hs:=sz
 wp_walk using 1,qK8,jJw,jJ6
 refine⟨ns,8,rfl,hns,by decide,by decide,fun c G1 ms hc h1 hm1 hm2 s1=>⟨_,jJn h1,?_⟩⟩
 have hm1:ms.length<=8:=hm1
 rw[lJf]
 refine⟨by split<;>omega,by split<;>omega,?_⟩
 let J1:Nat->St3->Gp->Prop:=fun _ τ G'=>∃(v1 v2 v3 v4 v5 v6 v7 v8 v9 v10 v11 v12 v13 v14:Option T),τ=[some (.ref c),v1,v2,v3,v4,v5,v6,v7,v8,v9,v10,v11,v12,v13,v14]/\G' c=some (.lst (jKs ms))
 refine⟨J1,?_,?_,?_,?_⟩
 ·exact⟨_,_,_,_,_,_,_,_,_,_,_,_,_,_,rfl,h1⟩
 ·intros;trivial
 ·intro i x τ G2 hx h_;apply xe14 h_;clear h_;intro v1 v2 v3 v4 v5 v6 v7 v8 v9 v10 v11 v12 v13 v14 h2
  obtain⟨hi,rfl⟩:=jQ0 hx
  have hi9:i<9:=by split at hi<;>omega
  wp_walk using 1,rEqA
  refine⟨c,ms,_,rfl,h2,hm2,by omega,by omega,fun b G3 hb b3 s3=>⟨b,0,rfl,b3,by decide,fun W G4 aw b4 k4=> ?_⟩⟩
  have hcb:c≠b:=jJf h2 hb
  have h4:G4 c=some (.lst (jKs ms)):=k4 _ _ hcb (s3 _ _ h2)
  have fin:∀(V:Web) (n:Nat) G5,AnyWeb V->BoxAt G5 b n->n<=1100->G5 c=some (.lst (jKs ms))->kQk {nx:=J1 (i+1),rt:=Q} [some (.ref c),some (.int (i:Nat)),some (.ref b),some (encW V),v4,v5,v6,v7,v8,v9,v10,v11,v12,v13,v14] G5:=fun V n G5 av hb5 hn h5=>
   lawA av hb5 (by omega) fun v0' v1' v2' v3' v4' v5' v6' v7' v8' v9' v10' v11' v12' v13' v14' G' e0 e1 k'=>by
    subst e0
    exact⟨_,_,_,_,_,_,_,_,_,_,_,_,_,_,rfl,k' _ _ (by simpa using hcb) h5⟩
  refine⟨b,4,_,rfl,b4,by omega,by decide,by decide,fun y G5 y0 y1 b5 k5=>⟨_,qUw,?_⟩⟩
  have h5:=k5 _ _ hcb h4
  by_cases z:y=0
  ·rw[lJc (by simpa using z)]
   refine⟨b,23,_,rfl,b5,by omega,by decide,by decide,fun y2 G6 z0 z1 b6 k6=> ?_⟩
   obtain⟨m,rfl⟩:=lKj z0
   refine⟨_,kZt ..,?_⟩
   wp_walk using 1,tSeq
   refine⟨m+2,?_,by omega,by omega,fun G7 s7=> ?_⟩
   ·simp;omega
   ·have av:AnyWeb (line (m+2)):=(uKb (n:=m+2) (by omega)).any (by omega) (by omega) (by decide)
    exact fin _ _ G7 av (let ⟨x,y,z,e,q⟩:=b6;⟨x,y,z,s7 _ _ e,q⟩) (by omega) (s7 _ _ (k6 _ _ hcb h5))
  ·rw[lJb (by simpa using z)]
   exact fin W _ G5 aw b5 (by omega) h5
 ·intro τ G2 h_;apply xe14 h_;clear h_;intro v1 v2 v3 v4 v5 v6 v7 v8 v9 v10 v11 v12 v13 v14 h2
  wp_walk using 1,tSeq
  exact kk G2
end W
namespace W
open PySem PySem.Spec PyProof.Rows L2 L3
theorem ln1 {α:Type} {us:List α} {C:List α->Prop} (h:us.length=1) (k:∀a0,C [a0]):C us:=by
 obtain⟨a0,us,rfl⟩:=lKs h
 replace h:=lKt h
 cases lQh.mp h
 exact k a0
theorem ln2 {α:Type} {us:List α} {C:List α->Prop} (h:us.length=2) (k:∀a0 a1,C [a0,a1]):C us:=by
 obtain⟨a0,us,rfl⟩:=lKs h
 replace h:=lKt h
 obtain⟨a1,us,rfl⟩:=lKs h
 replace h:=lKt h
 cases lQh.mp h
 exact k a0 a1
theorem ln3 {α:Type} {us:List α} {C:List α->Prop} (h:us.length=3) (k:∀a0 a1 a2,C [a0,a1,a2]):C us:=by
 obtain⟨a0,us,rfl⟩:=lKs h
 replace h:=lKt h
 obtain⟨a1,us,rfl⟩:=lKs h
 replace h:=lKt h
 obtain⟨a2,us,rfl⟩:=lKs h
 replace h:=lKt h
 cases lQh.mp h
 exact k a0 a1 a2
theorem ln4 {α:Type} {us:List α} {C:List α->Prop} (h:us.length=4) (k:∀a0 a1 a2 a3,C [a0,a1,a2,a3]):C us:=by
 obtain⟨a0,us,rfl⟩:=lKs h
 replace h:=lKt h
 obtain⟨a1,us,rfl⟩:=lKs h
 replace h:=lKt h
 obtain⟨a2,us,rfl⟩:=lKs h
 replace h:=lKt h
 obtain⟨a3,us,rfl⟩:=lKs h
 replace h:=lKt h
 cases lQh.mp h
 exact k a0 a1 a2 a3
theorem ln5 {α:Type} {us:List α} {C:List α->Prop} (h:us.length=5) (k:∀a0 a1 a2 a3 a4,C [a0,a1,a2,a3,a4]):C us:=by
 obtain⟨a0,us,rfl⟩:=lKs h
 replace h:=lKt h
 obtain⟨a1,us,rfl⟩:=lKs h
 replace h:=lKt h
 obtain⟨a2,us,rfl⟩:=lKs h
 replace h:=lKt h
 obtain⟨a3,us,rfl⟩:=lKs h
 replace h:=lKt h
 obtain⟨a4,us,rfl⟩:=lKs h
 replace h:=lKt h
 cases lQh.mp h
 exact k a0 a1 a2 a3 a4
def top (i:Nat):Stmt:=PySem.Challenge.pw_stonewalker_k32_whereabouts.main.body.getD i (.Pass ⟨0,0,0,0⟩)
def FnAt (K:PySem.W.Frag) (mg:Str->Option Value) (x:Str) (i:Nat):Prop:=∃f fd,mg x=some (.ref f)/\Fun K x x (top i) f fd
def MeF (K:PySem.W.Frag) (C:Addr) (m q:Str) (st:Stmt):Prop:=∃f fd,Meth K C m f/\Fun K m q st f fd
def MkF (K:PySem.W.Frag) (C:Addr) (q:Str) (st:Stmt):Prop:=∃f fd,Mk K C f/\Fun K "__init__" q st f fd
structure ClT_Walker (K:PySem.W.Frag) (mg:Str->Option Value) (C:Addr):Prop where
 cn:CN K "Walker" C
 cl:Cls K C
 mg:mg "Walker"=some (.ref C)
 a_came:NoAttr K C "came"
 a_held:NoAttr K C "held"
 a_lying:NoAttr K C "lying"
 a_room:NoAttr K C "room"
 a_walked:NoAttr K C "walked"
 a_web:NoAttr K C "web"
 i_:MkF K C "Walker.__init__" (jYm (top 18) 0)
 m_here:MeF K C "here" "Walker.here" (jYm (top 18) 1)
 m_go:MeF K C "go" "Walker.go" (jYm (top 18) 2)
 m_lay:MeF K C "lay" "Walker.lay" (jYm (top 18) 3)
 m_in_hand:MeF K C "in_hand" "Walker.in_hand" (jYm (top 18) 5)
 m_steps:MeF K C "steps" "Walker.steps" (jYm (top 18) 6)
structure Txt (K:PySem.W.Frag) (mg:Str->Option Value):Prop where
 n_abs:mg "abs"=none
 n_all:mg "all"=none
 n_divmod:mg "divmod"=none
 n_enumerate:mg "enumerate"=none
 n_int:mg "int"=none
 n_isinstance:mg "isinstance"=none
 n_len:mg "len"=none
 n_list:mg "list"=none
 n_max:mg "max"=none
 n_range:mg "range"=none
 n_repr:mg "repr"=none
 n_reversed:mg "reversed"=none
 n_set:mg "set"=none
 n_sorted:mg "sorted"=none
 n_tuple:mg "tuple"=none
 k_Walker:∃C,ClT_Walker K mg C
 f_ends_on:FnAt K mg "ends_on" 2
 f_seen:FnAt K mg "seen" 3
 f_look:FnAt K mg "look" 5
 f_walked_both:FnAt K mg "walked_both" 6
 f_parting:FnAt K mg "parting" 7
 f_led_back:FnAt K mg "led_back" 9
 f_seen_by:FnAt K mg "seen_by" 10
 f_first_parting:FnAt K mg "first_parting" 11
 f_whereabouts:FnAt K mg "whereabouts" 12
 f_onlooker:FnAt K mg "onlooker" 19
 f_l_box:FnAt K mg "_law_box" 21
 f_l_take:FnAt K mg "_law_take" 22
 f_l_folded:FnAt K mg "_law_folded" 23
 f_l_joined:FnAt K mg "_law_joined" 24
 f_l_doors_put:FnAt K mg "_law_doors_put" 25
 f_l_web:FnAt K mg "_law_web" 26
 f_l_ring:FnAt K mg "_law_ring" 27
 f_l_ends:FnAt K mg "_law_ends" 28
 f_l_reached:FnAt K mg "_law_reached" 29
 f_l_sheeted:FnAt K mg "_law_sheeted" 30
 f_l_turn:FnAt K mg "_law_turn" 31
 f_l_covered:FnAt K mg "_law_covered" 32
 f_l_any_web:FnAt K mg "_law_any_web" 33
 f_l_way:FnAt K mg "_law_way" 34
 f_l_kinds:FnAt K mg "_law_kinds" 35
 f_l_renamed:FnAt K mg "_law_renamed" 36
 f_l_line:FnAt K mg "_law_line" 37
 f_l_far:FnAt K mg "_law_far" 38
 f_law:FnAt K mg "law" 39
variable {P:Program} {w:World} {K:PySem.W.Frag} {mg:Str->Option Value} {base:Heap}
theorem cal3 {x:Str} {i k:Nat} {N ps:List Str} {sp:Sp3} {t:TS3} (F:FnAt K mg x i) (h:∀xs G Q,sp xs G Q->t {nx:=fun _ G'=>Q .non G',rt:=Q} (jXl N xs) G)
  (d:∀(f:Addr) (cdv:Value) (A:Around) (outer:List Env) (s:Shared) (H:Hp) (E:XK),Room k (A.deeper (envOfC x (jJv (top i)) s.heap.objs.size f cdv))->(A.deeper (envOfC x (jJv (top i)) s.heap.objs.size f cdv)).units+20<cLine->N.Nodup->PSs3 (cxOf CX0 P w K mg base N x (jJv (top i)) f cdv A outer s H E).nox (jQc (top i)) t)
  (S:FnScope N ps (jJv (top i)):=by exact⟨rfl,rfl,rfl,by decide +kernel,rfl,by decide +kernel,by decide +kernel⟩)
  (b:∀(kV doc pm:Value) (an:Option Addr) (cdv ct:Value) (us:List Value),us.length=ps.length->bindArgs (PySem.W.fnOf x x (jUo (top i)) (jQc (top i)) (jJv (top i)) .none kV doc pm an cdv ct) ⟨us,[]⟩=pure (ps.zip us):=by (intro _ _ _ _ _ _ us hl;first | (apply ln1 hl;intros;rfl) | (apply ln2 hl;intros;rfl) | (apply ln3 hl;intros;rfl) | (apply ln4 hl;intros;rfl) | (apply ln5 hl;intros;rfl)))
  (m:Mono sp:=by (intro xs G Q Q' hq;(repeat' (first | (refine Exists.imp fun _=> ?_) | (refine And.imp_right ?_)));intro k;intros;apply hq;apply k<;>assumption))
  (n:∀xs G Q,sp xs G Q->xs.length=ps.length:=by (intro xs G Q h;repeat (first | exact (lJ5 List.length h.1).trans rfl | obtain⟨_,h⟩:=h))):Cal P w K mg base (k+1) x ps sp:=by
 obtain⟨f,fd,a,F⟩:=F
 exact⟨⟨f,fd,fn3 F S fun cdv A outer s H E hr=>⟨t,d f cdv A outer s H E hr (qYk hr) S.nd,h⟩,a,F.kp,F.binds b⟩,m,n⟩
theorem jU4 (T:Txt K mg):ObF K "Walker" "came":=let ⟨C,h⟩:=T.k_Walker;⟨C,h.cn,h.cl,h.a_came⟩
theorem jQj (T:Txt K mg):ObF K "Walker" "held":=let ⟨C,h⟩:=T.k_Walker;⟨C,h.cn,h.cl,h.a_held⟩
theorem jQr (T:Txt K mg):ObF K "Walker" "lying":=let ⟨C,h⟩:=T.k_Walker;⟨C,h.cn,h.cl,h.a_lying⟩
theorem jKi (T:Txt K mg):ObF K "Walker" "room":=let ⟨C,h⟩:=T.k_Walker;⟨C,h.cn,h.cl,h.a_room⟩
theorem jQi (T:Txt K mg):ObF K "Walker" "walked":=let ⟨C,h⟩:=T.k_Walker;⟨C,h.cn,h.cl,h.a_walked⟩
theorem jUc (T:Txt K mg):ObF K "Walker" "web":=let ⟨C,h⟩:=T.k_Walker;⟨C,h.cn,h.cl,h.a_web⟩
theorem qVe {cn m q:Str} {st:Stmt} {k:Nat} {N ps:List Str} {sp:Sp3} {t:TS3} (F:∃C,CN K cn C/\Cls K C/\MeF K C m q st) (h:∀xs G Q,sp xs G Q->t {nx:=fun _ G'=>Q .non G',rt:=Q} (jXl N xs) G)
  (d:∀(f:Addr) (cdv:Value) (A:Around) (outer:List Env) (s:Shared) (H:Hp) (E:XK),Room k (A.deeper (envOfC q (jJv st) s.heap.objs.size f cdv))->(A.deeper (envOfC q (jJv st) s.heap.objs.size f cdv)).units+20<cLine->N.Nodup->PSs3 (cxOf CX0 P w K mg base N q (jJv st) f cdv A outer s H E).nox (jQc st) t)
  (S:FnScope N ps (jJv st):=by exact⟨rfl,rfl,rfl,by decide +kernel,rfl,by decide +kernel,by decide +kernel⟩)
  (b:∀(kV doc pm:Value) (an:Option Addr) (cdv ct:Value) (us:List Value),us.length=ps.length->bindArgs (PySem.W.fnOf m q (jUo st) (jQc st) (jJv st) .none kV doc pm an cdv ct) ⟨us,[]⟩=pure (ps.zip us):=by (intro _ _ _ _ _ _ us hl;first | (apply ln1 hl;intros;rfl) | (apply ln2 hl;intros;rfl) | (apply ln3 hl;intros;rfl) | (apply ln4 hl;intros;rfl) | (apply ln5 hl;intros;rfl)))
  (mo:Mono sp:=by (intro xs G Q Q' hq;(repeat' (first | (refine Exists.imp fun _=> ?_) | (refine And.imp_right ?_)));intro k;intros;apply hq;apply k<;>assumption))
  (n:∀xs G Q,sp xs G Q->xs.length=ps.length:=by (intro xs G Q h;repeat (first | exact (lJ5 List.length h.1).trans rfl | obtain⟨_,h⟩:=h))):CalM P w K mg base (k+1) cn m ps sp:=by
 obtain⟨C,hC,hc,f,fd,hm,F⟩:=F
 exact⟨⟨C,f,fd,hC,hc,hm,fn3 F S fun cdv A outer s H E hr=>⟨t,d f cdv A outer s H E hr (qYk hr) S.nd,h⟩,F.binds b⟩,mo,n⟩
theorem calC3 {cn q:Str} {st:Stmt} {k:Nat} {N ps:List Str} {sp:Sp3} {t:TS3} (F:∃C,CN K cn C/\mg cn=some (.ref C)/\MkF K C q st) (h:∀xs G Q,sp xs G Q->t {nx:=fun _ G'=>Q .non G',rt:=Q} (jXl N xs) G)
  (d:∀(f:Addr) (cdv:Value) (A:Around) (outer:List Env) (s:Shared) (H:Hp) (E:XK),Room k (A.deeper (envOfC q (jJv st) s.heap.objs.size f cdv))->(A.deeper (envOfC q (jJv st) s.heap.objs.size f cdv)).units+20<cLine->N.Nodup->PSs3 (cxOf CX0 P w K mg base N q (jJv st) f cdv A outer s H E).nox (jQc st) t)
  (S:FnScope N ps (jJv st):=by exact⟨rfl,rfl,rfl,by decide +kernel,rfl,by decide +kernel,by decide +kernel⟩)
  (b:∀(kV doc pm:Value) (an:Option Addr) (cdv ct:Value) (us:List Value),us.length=ps.length->bindArgs (PySem.W.fnOf "__init__" q (jUo st) (jQc st) (jJv st) .none kV doc pm an cdv ct) ⟨us,[]⟩=pure (ps.zip us):=by (intro _ _ _ _ _ _ us hl;first | (apply ln1 hl;intros;rfl) | (apply ln2 hl;intros;rfl) | (apply ln3 hl;intros;rfl) | (apply ln4 hl;intros;rfl) | (apply ln5 hl;intros;rfl)))
  (mo:Mono sp:=by (intro xs G Q Q' hq;(repeat' (first | (refine Exists.imp fun _=> ?_) | (refine And.imp_right ?_)));intro k;intros;apply hq;apply k<;>assumption))
  (n:∀xs G Q,sp xs G Q->xs.length=ps.length:=by (intro xs G Q h;repeat (first | exact (lJ5 List.length h.1).trans rfl | obtain⟨_,h⟩:=h))):CalC P w K mg base (k+1) cn ps sp:=by
 obtain⟨C,hC,hc,f,fd,hm,F⟩:=F
 exact⟨⟨C,f,fd,hC,hc,hm,fn3 F S fun cdv A outer s H E hr=>⟨t,d f cdv A outer s H E hr (qYk hr) S.nd,h⟩,F.binds b⟩,mo,n⟩
theorem jV6 (T:Txt K mg):CalC P w K mg base 1 "Walker" ["self","web","room","stones"] jKb:=
 calC3 (let ⟨C,h⟩:=T.k_Walker;⟨C,h.cn,h.mg,h.i_⟩) jY3 fun _ _ _ _ _ _ _ hr hu nd=>
  (jJd (kJ2 (jUc T) (jJb 0) (jJb 1))
   (jJd (kJ2 (jKi T) (jJb 0) (jJb 2))
   (jJd (kJ2 (jU4 T) (jJb 0) kJq)
   (jJd (kJ2 (jQj T) (jJb 0) (jJb 3))
   (jJd (kJ2 (jQr T) (jJb 0) (jQl jJe))
   (jJl (kJ2 (jQi T) (jJb 0) jJj)))))))
theorem jK8 (T:Txt K mg):CalM P w K mg base 1 "Walker" "here" ["self"] jJy:=
 qVe (let ⟨C,h⟩:=T.k_Walker;⟨C,h.cn,h.cl,h.m_here⟩) jY4 fun _ _ _ _ _ _ _ hr hu nd=>
  (jJl (jKc (jKf (jJa (jJq jKo (by rfl) T.n_len lJo (jJa (e_ix (ix_F hu) (jVg (jUc T) (jJb 0)) (jVg (jKi T) (jJb 0)) (fun _ _=>rfl)) jJe)) (jJa (jVg (jU4 T) (jJb 0)) (jJa (e_bm lJ9 PySem.F.slot_list_count PySem.F.type_list_count qQ0 (jVg (jQr T) (jJb 0)) (jJa (jVg (jKi T) (jJb 0)) jJe)) jJe))))))
theorem jVt (T:Txt K mg):CalM P w K mg base 2 "Walker" "go" ["self","door"] jKq:=
 qVe (let ⟨C,h⟩:=T.k_Walker;⟨C,h.cn,h.cl,h.m_go⟩) kJ9 fun _ _ _ _ _ _ _ hr hu nd=>
  (jJd (s_if (qV0 (qKe (qXu hu) o_lt jJj (jJb 1) (jJq jKo (by rfl) T.n_len lJo (jJa (e_ix (ix_F hu) (jVg (jUc T) (jJb 0)) (jVg (jKi T) (jJb 0)) (fun _ _=>rfl)) jJe)))) (jJl qKu) jKp)
   (jJd (jJx (i:=2) nd (e_ix (ix_F hu) (e_ix (ix_F hu) (jVg (jUc T) (jJb 0)) (jVg (jKi T) (jJb 0)) (fun _ _=>rfl)) (jJb 1) (fun _ _=>rfl)))
   (jJd (kJ2 (jKi T) (jJb 0) (e_ix (ix_F hu) (jJb 2) jJj (fun _ _=>rfl)))
   (jJd (kJ2 (jU4 T) (jJb 0) (e_ix (ix_F hu) (jJb 2) jJj (fun _ _=>rfl)))
   (jJd (kJ2 (jQi T) (jJb 0) (e_op o_addF (jVg (jQi T) (jJb 0)) jJj))
   (jJl (jKc (jUn (jK8 T) (hr.mono (by decide)) (jJb 0)))))))))
theorem kQs (T:Txt K mg):CalM P w K mg base 2 "Walker" "lay" ["self"] jQh:=
 qVe (let ⟨C,h⟩:=T.k_Walker;⟨C,h.cn,h.cl,h.m_lay⟩) jZw fun _ _ _ _ _ _ _ hr hu nd=>
  (jJd (s_if (jKv (jYi hr.units) (jVg (jQj T) (jJb 0)) jJj (jJu _)) (jJl qKu) jKp)
   (jJd (kJ2 (jQj T) (jJb 0) (e_op qJj (jVg (jQj T) (jJb 0)) jJj))
   (jJd (jK4 (e_bm lJ9 lKo lKp jKj (jVg (jQr T) (jJb 0)) (jJa (jVg (jKi T) (jJb 0)) jJe)))
   (jJl (jKc (jUn (jK8 T) (hr.mono (by decide)) (jJb 0)))))))
theorem jQp (T:Txt K mg):CalM P w K mg base 1 "Walker" "in_hand" ["self"] jJs:=
 qVe (let ⟨C,h⟩:=T.k_Walker;⟨C,h.cn,h.cl,h.m_in_hand⟩) jV9 fun _ _ _ _ _ _ _ hr hu nd=>
  (jJl (jKc (jVg (jQj T) (jJb 0))))
theorem jZ6 (T:Txt K mg):CalM P w K mg base 1 "Walker" "steps" ["self"] jKx:=
 qVe (let ⟨C,h⟩:=T.k_Walker;⟨C,h.cn,h.cl,h.m_steps⟩) jYb fun _ _ _ _ _ _ _ hr hu nd=>
  (jJl (jKc (jVg (jQi T) (jJb 0))))
theorem qJi (T:Txt K mg):Cal P w K mg base 1 "ends_on" ["web","room","way"] jX8:=
 cal3 T.f_ends_on kUr (fun _ _ _ _ _ _ _ hr hu nd=>
  (jJd (jJx (i:=3) nd (jQl jJe))
   (jJd (jJx (i:=4) nd (jJb 1))
   (jJd (jKy lJr rfl (jQw (jJb 2)) (jJo (i:=5) nd) (jJd (s_if (qV0 (qKe (qXu hu) o_lt jJj (jJb 5) (jJq jKo (by rfl) T.n_len lJo (jJa (e_ix (ix_F hu) (jJb 0) (jJb 4) (fun _ _=>rfl)) jJe)))) (jJl (jKc kJq)) jKp)
   (jJd (jJx (i:=6) nd (e_ix (ix_F hu) (e_ix (ix_F hu) (jJb 0) (jJb 4) (fun _ _=>rfl)) (jJb 5) (fun _ _=>rfl)))
   (jJd (jK4 (e_bm lJ9 lKo lKp jKj (jJb 3) (jJa (jJb 6) jJe)))
   (jJl (jJx (i:=4) nd (e_ix (ix_F hu) (jJb 6) jJj (fun _ _=>rfl))))))))
   (jJl (jKc (jJb 3))))))) (m:=by (intro xs G Q Q' hq;(repeat' (first | (refine Exists.imp fun _=> ?_) | (refine And.imp_right ?_)));intro k G' s;refine⟨fun a=>hq _ _ ((k G' s).1 a),?_⟩;intros;apply hq;apply (k G' s).2<;>assumption))
theorem uJz (T:Txt K mg):Cal P w K mg base 2 "seen" ["web","room","way"] kV4:=
 cal3 T.f_seen qK6 (fun _ _ _ _ _ _ _ hr hu nd=>
  (jJd (jJx (i:=3) nd (jJ2 (qJi T) (hr.mono (by decide)) (jJa (jJb 0) (jJa (jJb 1) (jJa (jJb 2) jJe)))))
   (jJd (s_if (jKv o_isN (jJb 3) kJq (jJu _)) (jJl (jKc kJq)) jKp)
   (jJl (jKc (jKg jK7 (by rfl) T.n_tuple rfl (jJa (e_op o_addF (jQl (jJa (jJq jKo (by rfl) T.n_len lJo (jJa (e_ix (ix_F hu) (jJb 0) (jJb 1) (fun _ _=>rfl)) jJe)) jJe)) (jUf (mask:=[false,false,false,false,true]) rfl ⟨rfl,rfl,rfl,rfl,rfl,rfl,rfl⟩ (jQw (jJb 3)) jJ9 (fun C fp s H=>(jJo (i:=4) nd)) (fun C fp s H=>jUd) (fun C fp s H=>(jKf (jJa (e_ix (ix_F hu) (jJb 4) jJj (fun _ _=>rfl)) (jJa (jJq jKo (by rfl) T.n_len lJo (jJa (e_ix (ix_F hu) (jJb 0) (e_ix (ix_F hu) (jJb 4) jJj (fun _ _=>rfl)) (fun _ _=>rfl)) jJe)) jJe)))))) jJe))))))) (m:=by (intro xs G Q Q' hq;(repeat' (first | (refine Exists.imp fun _=> ?_) | (refine And.imp_right ?_)));intro k G' s;refine⟨fun a=>hq _ _ ((k G' s).1 a),?_⟩;intros;apply hq;apply (k G' s).2<;>assumption))
theorem qQr (T:Txt K mg):Cal P w K mg base 1 "look" ["web","first","end","stone"] jZs:=
 cal3 T.f_look qK7 fun _ _ _ _ _ _ _ hr hu nd=>
  (jJd (s_if (qZ9 kVz (jJb 3)) (jJl (jKc (jKf (jJa (e_ix (ix_F hu) (jJb 2) jJj (fun _ _=>rfl)) (jJa (jJq jKo (by rfl) T.n_len lJo (jJa (e_ix (ix_F hu) (jJb 0) (e_ix (ix_F hu) (jJb 2) jJj (fun _ _=>rfl)) (fun _ _=>rfl)) jJe)) (jJa (kJs (jKv (jYi hr.units) (e_ix (ix_F hu) (jJb 2) jJj (fun _ _=>rfl)) (jJb 1) (jJu _)) jJj jJj) jJe)))))) jKp)
   (jJl (jKc (jKf (jJa (e_ix (ix_F hu) (jJb 2) jJj (fun _ _=>rfl)) (jJa (jJq jKo (by rfl) T.n_len lJo (jJa (e_ix (ix_F hu) (jJb 0) (e_ix (ix_F hu) (jJb 2) jJj (fun _ _=>rfl)) (fun _ _=>rfl)) jJe)) jJe))))))
theorem kKa (T:Txt K mg):Cal P w K mg base 2 "walked_both" ["one","a","other","b","stone"] jUg:=
 cal3 T.f_walked_both jY1 fun _ _ _ _ _ _ _ hr hu nd=>
  (jJd (jJx (i:=5) nd (qYx hu (jKf (jJa (jJb 1) (jJa (jJb 3) jJe))) e_bl))
   (jJd (s_if (jKv (qJk hr.units) (jJq jKo (by rfl) T.n_len lJo (jJa (e_ix (ix_F hu) (jJb 0) (jJb 1) (fun _ _=>rfl)) jJe)) (jJq jKo (by rfl) T.n_len lJo (jJa (e_ix (ix_F hu) (jJb 2) (jJb 3) (fun _ _=>rfl)) jJe)) (jJu _)) (jJl (jKc (jKf (jJa (jKf jJe) (jJa (jJb 5) jJe))))) jKp)
   (jJd (jJx (i:=6) nd (jQl (jJa (jKf (jJa (jKf (jJa (jJb 1) (jJa (jJb 3) jJe))) (jJa (jKf jJe) jJe))) jJe)))
   (jJd (kV7 lJr (qZ9 kVz (jJb 6)) (jJd (jJx (i:=7) nd (jQl jJe))
   (jJd (jKy lJr rfl (jQw (jJb 6)) (jV2 rfl (jJ0 (jJo (i:=8) nd) (jJ0 (jJo (i:=9) nd) jQy))) (jJl (jKy lJr rfl (i_enT rfl T.n_enumerate rfl (jJa (e_ix (ix_F hu) (jJb 0) (e_ix (ix_F hu) (jJb 8) jJj (fun _ _=>rfl)) (fun _ _=>rfl)) jJe)) (jV2 rfl (jJ0 (jJo (i:=10) nd) (jJ0 (jJo (i:=11) nd) jQy))) (jJd (jJx (i:=12) nd (e_ix (ix_F hu) (e_ix (ix_F hu) (jJb 2) (e_ix (ix_F hu) (jJb 8) jJj (fun _ _=>rfl)) (fun _ _=>rfl)) (jJb 10) (fun _ _=>rfl)))
   (jJd (s_if (jKv (qJk hr.units) (jJ2 (qQr T) (hr.mono (by decide)) (jJa (jJb 0) (jJa (jJb 1) (jJa (jJb 11) (jJa (jJb 4) jJe))))) (jJ2 (qQr T) (hr.mono (by decide)) (jJa (jJb 2) (jJa (jJb 3) (jJa (jJb 12) (jJa (jJb 4) jJe))))) (jJu _)) (jJl (jKc (jKf (jJa (e_op qZr (jJb 9) (jKf (jJa (jJb 10) jJe))) (jJa (jJb 5) jJe))))) jKp)
   (jJd (jJx (i:=13) nd (jKf (jJa (e_ix (ix_F hu) (jJb 11) jJj (fun _ _=>rfl)) (jJa (e_ix (ix_F hu) (jJb 12) jJj (fun _ _=>rfl)) jJe))))
   (jJl (s_if (jKv (kU4 hu) (jJb 13) (jJb 5) (jJu _)) (jJd (jXu e_bl (jYn (jJb 5) (jJb 13) (s_F hu)))
   (jJl (jK4 (e_bm lJ9 lKo lKp jKj (jJb 7) (jJa (jKf (jJa (jJb 13) (jJa (e_op qZr (jJb 9) (jKf (jJa (jJb 10) jJe))) jJe))) jJe))))) jKp))))))))
   (jJl (jJx (i:=6) nd (jJb 7))))))
   (jJl (jKc (jKf (jJa kJq (jJa (jJb 5) jJe)))))))))
theorem qJg (T:Txt K mg):Cal P w K mg base 3 "parting" ["one","a","other","b"] jX7:=
 cal3 T.f_parting kUp fun _ _ _ _ _ _ _ hr hu nd=>
  (jJl (jKc (e_ix (ix_F hu) (jJ2 (kKa T) (hr.mono (by decide)) (jJa (jJb 0) (jJa (jJb 1) (jJa (jJb 2) (jJa (jJb 3) (jJa e_bl jJe)))))) jJj (fun _ _=>rfl))))
theorem kXn (T:Txt K mg):Cal P w K mg base 3 "led_back" ["walker","doors"] jUz:=
 cal3 T.f_led_back kQf fun _ _ _ _ _ _ _ hr hu nd=>
  (jJl (jKy lJr rfl (qJu rfl T.n_reversed rfl (jJa (jJb 1) jJe)) (jJo (i:=2) nd) (jJl (jK4 (qU0 (jVt T) (hr.mono (by decide)) (jJb 0) (jJa (jJb 2) jJe))))))
theorem qJf (T:Txt K mg):Cal P w K mg base 4 "seen_by" ["walker","way"] jX6:=
 cal3 T.f_seen_by kUo fun _ _ _ _ _ _ _ hr hu nd=>
  (jJd (jJx (i:=2) nd (jUn (jK8 T) (hr.mono (by decide)) (jJb 0)))
   (jJd (jJx (i:=3) nd (jQl (jJa (e_ix (ix_F hu) (jJb 2) jJj (fun _ _=>rfl)) jJe)))
   (jJd (jJx (i:=4) nd (jQl jJe))
   (jJd (jKy lJr rfl (jQw (jJb 1)) (jJo (i:=5) nd) (jJd (s_if (jKv o_ge (jJb 5) (e_ix (ix_F hu) (jJb 2) jJj (fun _ _=>rfl)) (jJu _)) (jJl uJi) jKp)
   (jJd (jJx (i:=2) nd (qU0 (jVt T) (hr.mono (by decide)) (jJb 0) (jJa (jJb 5) jJe)))
   (jJd (jK4 (e_bm lJ9 lKo lKp jKj (jJb 4) (jJa (e_ix (ix_F hu) (jJb 2) jJj (fun _ _=>rfl)) jJe)))
   (jJl (jK4 (e_bm lJ9 lKo lKp jKj (jJb 3) (jJa (jKf (jJa (e_ix (ix_F hu) (jJb 2) jJj (fun _ _=>rfl)) (jJa (e_ix (ix_F hu) (jJb 2) jJj (fun _ _=>rfl)) jJe))) jJe))))))))
   (jJd (jK4 (jJ2 (kXn T) (hr.mono (by decide)) (jJa (jJb 0) (jJa (jJb 4) jJe))))
   (jJl (jKc (kJs (jKv (jYi hr.units) (jJq jKo (by rfl) T.n_len lJo (jJa (jJb 4) jJe)) (jJq jKo (by rfl) T.n_len lJo (jJa (jJb 1) jJe)) (jJu _)) (jKg jK7 (by rfl) T.n_tuple rfl (jJa (jJb 3) jJe)) kJq))))))))
theorem jVb (T:Txt K mg):Cal P w K mg base 4 "first_parting" ["web","rooms"] jQa:=
 cal3 T.f_first_parting jXw fun _ _ _ _ _ _ _ hr hu nd=>
  (jJd (jKy lJr rfl (jQw (jJb 1)) (jJo (i:=2) nd) (jJd (jJx (i:=3) nd (jJ2 (qJg T) (hr.mono (by decide)) (jJa (jJb 0) (jJa (e_ix (ix_F hu) (jJb 1) jJj (fun _ _=>rfl)) (jJa (jJb 0) (jJa (jJb 2) jJe))))))
   (jJl (s_if (jKv qZq (jJb 3) kJq (jJu _)) (jJl (jKc (jJb 3))) jKp))))
   (jJl (jKc kJq)))
theorem jV5 (T:Txt K mg):Cal P w K mg base 5 "whereabouts" ["walker","web"] jKa:=
 cal3 T.f_whereabouts jY0 fun _ _ _ _ _ _ _ hr hu nd=>
  (jJd (jJx (i:=2) nd (kJr rfl T.n_list rfl T.n_range rfl (jJa (jJq jKo (by rfl) T.n_len lJo (jJa (jJb 1) jJe)) jJe)))
   (jJd (jJx (i:=3) nd (jJ2 (jVb T) (hr.mono (by decide)) (jJa (jJb 1) (jJa (jJb 2) jJe))))
   (jJd (kV7 lJr (jKv qZq (jJb 3) kJq (jJu _)) (jJd (jJx (i:=4) nd (jJ2 (qJf T) (hr.mono (by decide)) (jJa (jJb 0) (jJa (jJb 3) jJe))))
   (jJd (kKk (i:=2) (mask:=[false,false,false,false,false,true]) rfl nd ⟨rfl,rfl,rfl,rfl,rfl,rfl,rfl⟩ (jQw (jJb 2)) jJ9 (fun C fp s H=>(jJo (i:=5) nd)) (fun C fp s H=>(kKq (jKv (jYi hr.units) (jJ2 (uJz T) (hr.mono (by decide)) (jJa (jJb 1) (jJa (jJb 5) (jJa (jJb 3) jJe)))) (jJb 4) (jJu _)))) (fun C fp s H=>(jJb 5)))
   (jJl (jJx (i:=3) nd (jJ2 (jVb T) (hr.mono (by decide)) (jJa (jJb 1) (jJa (jJb 2) jJe))))))))
   (jJl (jKc (jJb 2))))))
theorem jZ5 (T:Txt K mg):Cal P w K mg base 1 "onlooker" ["walker"] jKw:=
 cal3 T.f_onlooker kQe fun _ _ _ _ _ _ _ hr hu nd=>
  (jJl (jKc (jKf (jJa (jVg (jKi T) (jJb 0)) (jJa (jKg jK7 (by rfl) T.n_tuple rfl (jJa (jJq uK8 (by rfl) T.n_sorted rfl (jJa (jVg (jQr T) (jJb 0)) jJe)) jJe)) jJe)))))
theorem qXt (T:Txt K mg):Cal P w K mg base 1 "_law_box" ["_law_script","_law_k"] jZa:=
 cal3 T.f_l_box qJb fun _ _ _ _ _ _ _ hr hu nd=>
  (jJd (jJx (i:=2) nd (e_ix (ix_F hu) (e_op o_addF (jJb 0) (e_op jQ7 (jQl (jJa jJj jJe)) (e_op o_addF (jJb 1) jJj))) (jJb 1) (fun _ _=>rfl)))
   (jJl (jKc (jQl (jJa (e_op jQ7 (jJq c_abs (by rfl) T.n_abs rfl (jJa (jJb 2) jJe)) (jKg c_int (by rfl) T.n_int rfl (jJa (uK1 o_ge (jJq c_abs (by rfl) T.n_abs rfl (jJa (jJb 2) jJe)) (e_op o_pow jJj jJj) (jJu _)) jJe))) (jJa (e_op jYh (e_op jQ7 (e_op o_addF (e_op o_addF (e_op jYh (jJb 2) jJj) (e_op jQ7 jJj (jJb 1))) jJj) jJj) jJj) (jJa jJj jJe)))))))
theorem jJz (T:Txt K mg):Cal P w K mg base 1 "_law_take" ["_law_box_here","_law_many"] jJp:=
 cal3 T.f_l_take kXb fun _ _ _ _ _ _ _ hr hu nd=>
  (jJd (s_if (jKv o_gt (e_ix (ix_F hu) (jJb 0) jJj (fun _ _=>rfl)) jJj (jJu _)) (jJd (jXu (jJq qY5 (by rfl) T.n_divmod rfl (jJa (e_ix (ix_F hu) (jJb 0) jJj (fun _ _=>rfl)) (jJa (jJb 1) jJe))) (jV2 rfl (jJ0 (jYn (jJb 0) jJj (s_F hu)) (jJ0 (jJo (i:=2) nd) jQy))))
   (jJl (jKc (jJb 2)))) jKp)
   (jJd (jXu (e_op o_addF (e_ix (ix_F hu) (jJb 0) jJj (fun _ _=>rfl)) jJj) (jYn (jJb 0) jJj (s_F hu)))
   (jJd (jJx (i:=3) nd (e_op jYh (e_op jQ7 (e_op o_addF (e_ix (ix_F hu) (jJb 0) jJj (fun _ _=>rfl)) (e_op jQ7 jJj (e_ix (ix_F hu) (jJb 0) jJj (fun _ _=>rfl)))) (e_op o_addF jJj (e_ix (ix_F hu) (jJb 0) jJj (fun _ _=>rfl)))) jJj))
   (jJd (jXu (e_op jYh (e_op o_addF (e_op jQ7 (jJb 3) (e_op o_addF (e_op jYh (jJb 3) jJj) jJj)) (e_ix (ix_F hu) (jJb 0) jJj (fun _ _=>rfl))) jJj) (jYn (jJb 0) jJj (s_F hu)))
   (jJl (jKc (e_op jYh (e_op o_fdiv (e_op jYh (e_op jQ7 (e_ix (ix_F hu) (jJb 0) jJj (fun _ _=>rfl)) (e_op o_addF (e_op jYh (e_ix (ix_F hu) (jJb 0) jJj (fun _ _=>rfl)) jJj) jJj)) jJj) jJj) (jJb 1))))))))
theorem kXp (T:Txt K mg):Cal P w K mg base 1 "_law_folded" ["_law_script","_law_many"] jU0:=
 cal3 T.f_l_folded kQh fun _ _ _ _ _ _ _ hr hu nd=>
  (jJd (jJx (i:=2) nd (jKg uK9 (by rfl) T.n_list rfl (jJa (qUz sl_F (jJb 0) p_none (qQn (jJb 1))) jJe)))
   (jJd (jKy lJr rfl (kY8 rfl T.n_enumerate rfl (jJa (qUz sl_F (jJb 0) (qQn (jJb 1)) (qQn jJj)) jJe)) (jV2 rfl (jJ0 (jJo (i:=3) nd) (jJ0 (jJo (i:=4) nd) jQy))) (jJl (jXu (e_op o_addF (e_ix (ix_F hu) (jJb 2) (e_op jYh (jJb 3) (jJb 1)) (fun _ _=>rfl)) (e_op jQ7 (jJb 4) (e_op o_addF (jJb 3) jJj))) (jYn (jJb 2) (e_op jYh (jJb 3) (jJb 1)) (s_F hu)))))
   (jJl (jKc (jJb 2)))))
theorem kXo (T:Txt K mg):Cal P w K mg base 1 "_law_joined" ["_law_halves"] jV7:=
 cal3 T.f_l_joined kQg fun _ _ _ _ _ _ _ hr hu nd=>
  (jJd (jJx (i:=1) nd e_dct)
   (jJd (jKy lJr rfl (jJ3 rfl T.n_range (jJa (jJq jKo (by rfl) T.n_len lJo (jJa (jJb 0) jJe)) jJe)) (jJo (i:=2) nd) (jJl (jKy lJr rfl (kY8 rfl T.n_enumerate rfl (jJa (e_ix (ix_F hu) (jJb 0) (jJb 2) (fun _ _=>rfl)) jJe)) (jV2 rfl (jJ0 (jJo (i:=3) nd) (jJ0 (jJo (i:=4) nd) jQy))) (jJl (jXu (jKf (jJa (jJb 2) (jJa (jJb 3) jJe))) (jYn (jJb 1) (jJb 4) (s_F hu)))))))
   (jJd (jJx (i:=5) nd (jQl jJe))
   (jJd (jKy lJr rfl (jQw (jJb 0)) (jJo (i:=6) nd) (jJl (jK4 (e_bm lJ9 lKo lKp jKj (jJb 5) (jJa (jKg jK7 (by rfl) T.n_tuple rfl (jJa (jUf (mask:=[false,false,false,false,false,false,false,true,true]) rfl ⟨rfl,rfl,rfl,rfl,rfl,rfl,rfl⟩ (jQw (jJb 6)) (kZa (jVu jJ9 jQx (jVu jJ9 jQx kZb jYv) (kQz jQx jYv))) (fun C fp s H=>(jV2 rfl (jJ0 (jJo (i:=7) nd) (jJ0 (jJo (i:=8) nd) jQy)))) (fun C fp s H=>jUd) (fun C fp s H=>(e_ix (ix_F hu) (jJb 1) (jKf (jJa (jJb 7) (jJa (e_ix (ix_F hu) (jQl (jJa jJj (jJa jJj (jJa jJj jJe)))) (jJb 8) (fun _ _=>rfl)) jJe))) (fun _ _=>rfl)))) jJe)) jJe)))))
   (jJl (jKc (jKg jK7 (by rfl) T.n_tuple rfl (jJa (jJb 5) jJe))))))))
theorem kKb (T:Txt K mg):Cal P w K mg base 2 "_law_doors_put" ["_law_box_here","_law_pairs","_law_many"] jUh:=
 cal3 T.f_l_doors_put jY2 fun _ _ _ _ _ _ _ hr hu nd=>
  (jJd (kKk (i:=3) (mask:=[false,false,false,false,false,false,false,false,true,false]) rfl nd ⟨rfl,rfl,rfl,rfl,rfl,rfl,rfl⟩ (jJ3 rfl T.n_range (jJa (jJb 2) jJe)) jJ9 (fun C fp s H=>(jJo (i:=8) nd)) (fun C fp s H=>jUd) (fun C fp s H=>(jQl jJe)))
   (jJd (jKy lJr rfl (kY8 rfl T.n_enumerate rfl (jJa (jJb 1) jJe)) (jV2 rfl (jJ0 (jJo (i:=4) nd) (jJ0 (jV2 rfl (jJ0 (jJo (i:=5) nd) (jJ0 (jJo (i:=6) nd) jQy))) jQy))) (jJd (jJx (i:=7) nd (kJs (jKv (jYi hr.units) (jJb 6) (jJb 2) (jJu _)) (jQl (jJa (jKf (jJa (jJb 5) (jJa jJj jJe))) jJe)) (jQl (jJa (jKf (jJa (jJb 5) (jJa jJj jJe))) (jJa (jKf (jJa (jJb 6) (jJa jJj jJe))) jJe)))))
   (jJl (jKy lJr rfl (jQw (jJb 7)) (jV2 rfl (jJ0 (jJo (i:=8) nd) (jJ0 (jJo (i:=9) nd) jQy))) (jJl (jK4 (e_bm lJ9 PySem.F.slot_list_insert PySem.F.type_list_insert kYy (e_ix (ix_F hu) (jJb 3) (jJb 8) (fun _ _=>rfl)) (jJa (jJ2 (jJz T) (hr.mono (by decide)) (jJa (jJb 0) (jJa (e_op o_addF (jJq jKo (by rfl) T.n_len lJo (jJa (e_ix (ix_F hu) (jJb 3) (jJb 8) (fun _ _=>rfl)) jJe)) jJj) jJe))) (jJa (jKf (jJa (jJb 4) (jJa (jJb 9) jJe))) jJe)))))))))
   (jJl (jKc (jJ2 (kXo T) (hr.mono (by decide)) (jJa (jJb 3) jJe))))))
theorem kQr (T:Txt K mg):Cal P w K mg base 3 "_law_web" ["_law_box_here","_law_many","_law_most"] jXm:=
 cal3 T.f_l_web kZ8 fun _ _ _ _ _ _ _ hr hu nd=>
  (jJd (jJx (i:=3) nd (e_op jQ7 (jQl (jJa jJj jJe)) (jJb 1)))
   (jJd (jJx (i:=4) nd (jQl jJe))
   (jJd (jKy lJr rfl (qYh rfl T.n_range (jJa jJj (jJa (jJb 1) jJe))) (jJo (i:=5) nd) (jJd (kKk (i:=6) (mask:=[false,false,false,false,false,false,false,false,false,false,false,true]) rfl nd ⟨rfl,rfl,rfl,rfl,rfl,rfl,rfl⟩ (jJ3 rfl T.n_range (jJa (jJb 5) jJe)) jJ9 (fun C fp s H=>(jJo (i:=11) nd)) (fun C fp s H=>(kKq (jKv o_lt (e_ix (ix_F hu) (jJb 3) (jJb 11) (fun _ _=>rfl)) (jJb 2) (jJu _)))) (fun C fp s H=>(jJb 11)))
   (jJd (jK4 (e_bm lJ9 lKo lKp jKj (jJb 4) (jJa (jKf (jJa (e_ix (ix_F hu) (jJb 6) (jJ2 (jJz T) (hr.mono (by decide)) (jJa (jJb 0) (jJa (jJq jKo (by rfl) T.n_len lJo (jJa (jJb 6) jJe)) jJe))) (fun _ _=>rfl)) (jJa (jJb 5) jJe))) jJe)))
   (jJl (jKy lJr rfl (jQw (e_ix (ix_F hu) (jJb 4) (e_un u_neg jJj) (fun _ _=>rfl))) (jJo (i:=7) nd) (jJl (jXu (e_op o_addF (e_ix (ix_F hu) (jJb 3) (jJb 7) (fun _ _=>rfl)) jJj) (jYn (jJb 3) (jJb 7) (s_F hu)))))))))
   (jJd (jKy lJr rfl (jJ3 rfl T.n_range (jJa (jJ2 (jJz T) (hr.mono (by decide)) (jJa (jJb 0) (jJa (e_op o_addF (jJb 1) jJj) jJe))) jJe)) (jJo (i:=8) nd) (jJd (jJx (i:=9) nd (jKf (jJa (jJ2 (jJz T) (hr.mono (by decide)) (jJa (jJb 0) (jJa (jJb 1) jJe))) (jJa (jJ2 (jJz T) (hr.mono (by decide)) (jJa (jJb 0) (jJa (e_op o_addF (jJb 1) jJj) jJe))) jJe))))
   (jJd (jJx (i:=10) nd (jUf (mask:=[false,false,false,false,false,false,false,true,false,false,false,false]) rfl ⟨rfl,rfl,rfl,rfl,rfl,rfl,rfl⟩ (jQw (jJb 9)) jJ9 (fun C fp s H=>(jJo (i:=7) nd)) (fun C fp s H=>(kKq (jKv o_lt (jJb 7) (jJb 1) (jJu _)))) (fun C fp s H=>(jJb 7))))
   (jJl (s_if (t_val (jJq (c_all rfl) (by rfl) T.n_all rfl (jJa (jUf (mask:=[false,false,false,false,false,false,false,true,false,false,false,false]) rfl ⟨rfl,rfl,rfl,rfl,rfl,rfl,rfl⟩ (jQw (jJb 10)) jJ9 (fun C fp s H=>(jJo (i:=7) nd)) (fun C fp s H=>jUd) (fun C fp s H=>(uK1 (qXu hu) (e_op o_addF (e_ix (ix_F hu) (jJb 3) (jJb 7) (fun _ _=>rfl)) (e_bm lJ9 PySem.F.slot_list_count PySem.F.type_list_count qQ0 (jJb 10) (jJa (jJb 7) jJe))) (jJb 2) (jJu _)))) jJe))) (jJd (jK4 (e_bm lJ9 lKo lKp jKj (jJb 4) (jJa (jJb 9) jJe)))
   (jJl (jKy lJr rfl (jQw (jJb 10)) (jJo (i:=7) nd) (jJl (jXu (e_op o_addF (e_ix (ix_F hu) (jJb 3) (jJb 7) (fun _ _=>rfl)) jJj) (jYn (jJb 3) (jJb 7) (s_F hu))))))) jKp)))))
   (jJl (jKc (jJ2 (kKb T) (hr.mono (by decide)) (jJa (jJb 0) (jJa (jJb 4) (jJa (jJb 1) jJe))))))))))
theorem qQs (T:Txt K mg):Cal P w K mg base 1 "_law_ring" ["_law_many"] jZt:=
 cal3 T.f_l_ring kXc fun _ _ _ _ _ _ _ hr hu nd=>
  (jJl (jKc (jKg jK7 (by rfl) T.n_tuple rfl (jJa (jUf (mask:=[false,true]) rfl ⟨rfl,rfl,rfl,rfl,rfl,rfl,rfl⟩ (jJ3 rfl T.n_range (jJa (jJb 0) jJe)) jJ9 (fun C fp s H=>(jJo (i:=1) nd)) (fun C fp s H=>jUd) (fun C fp s H=>(jKf (jJa (jKf (jJa (e_op jYh (e_op o_addF (jJb 1) jJj) (jJb 0)) (jJa jJj jJe))) (jJa (jKf (jJa (e_op jYh (e_op qJj (jJb 1) jJj) (jJb 0)) (jJa jJj jJe))) jJe))))) jJe))))
theorem kU0 (T:Txt K mg):Cal P w K mg base 1 "_law_ends" ["_law_web_here"] jXr:=
 cal3 T.f_l_ends kXe fun _ _ _ _ _ _ _ hr hu nd=>
  (jJd (jJx (i:=1) nd (jQl jJe))
   (jJd (jKy lJr rfl (jJ3 rfl T.n_range (jJa (jJq jKo (by rfl) T.n_len lJo (jJa (jJb 0) jJe)) jJe)) (jJo (i:=2) nd) (jJl (jKy lJr rfl (jJ3 rfl T.n_range (jJa (jJq jKo (by rfl) T.n_len lJo (jJa (e_ix (ix_F hu) (jJb 0) (jJb 2) (fun _ _=>rfl)) jJe)) jJe)) (jJo (i:=3) nd) (jJl (s_if (jKv (qXu hu) (jKf (jJa (jJb 2) (jJa (jJb 3) jJe))) (e_ix (ix_F hu) (e_ix (ix_F hu) (jJb 0) (jJb 2) (fun _ _=>rfl)) (jJb 3) (fun _ _=>rfl)) (jJu _)) (jJl (jK4 (e_bm lJ9 lKo lKp jKj (jJb 1) (jJa (jKf (jJa (jKf (jJa (jJb 2) (jJa (jJb 3) jJe))) (jJa (e_ix (ix_F hu) (e_ix (ix_F hu) (jJb 0) (jJb 2) (fun _ _=>rfl)) (jJb 3) (fun _ _=>rfl)) jJe))) jJe)))) jKp)))))
   (jJl (jKc (jJb 1)))))
theorem kUz (T:Txt K mg):Cal P w K mg base 1 "_law_reached" ["_law_web_here","_law_room"] jVi:=
 cal3 T.f_l_reached kJ6 fun _ _ _ _ _ _ _ hr hu nd=>
  (jJd (jJx (i:=2) nd (jQl (jJa (jJb 1) jJe)))
   (jJd (jJx (i:=3) nd jJj)
   (jJd (kV7 lJr (jKv o_lt (jJb 3) (jJq jKo (by rfl) T.n_len lJo (jJa (jJb 2) jJe)) (jJu _)) (jJd (jKy lJr rfl (jQw (e_ix (ix_F hu) (jJb 0) (e_ix (ix_F hu) (jJb 2) (jJb 3) (fun _ _=>rfl)) (fun _ _=>rfl))) (jV2 rfl (jJ0 (jJo (i:=4) nd) (jJ0 (jJo (i:=5) nd) jQy))) (jJl (s_if (jKv (kU4 hu) (jJb 4) (jJb 2) (jJu _)) (jJl (jK4 (e_bm lJ9 lKo lKp jKj (jJb 2) (jJa (jJb 4) jJe)))) jKp)))
   (jJl (jJx (i:=3) nd (e_op o_addF (jJb 3) jJj)))))
   (jJl (jKc (jJb 2))))))
theorem kUx (T:Txt K mg):Cal P w K mg base 2 "_law_sheeted" ["_law_web_here","_law_turns","_law_many"] jVh:=
 cal3 T.f_l_sheeted kJ4 fun _ _ _ _ _ _ _ hr hu nd=>
  (jJd (kKk (i:=3) (mask:=[false,false,false,false,false,false,false,false,false,false,true,false]) rfl nd ⟨rfl,rfl,rfl,rfl,rfl,rfl,rfl⟩ (jJ3 rfl T.n_range (jJa (e_op jQ7 (jJb 2) (jJq jKo (by rfl) T.n_len lJo (jJa (jJb 0) jJe))) jJe)) jJ9 (fun C fp s H=>(jJo (i:=10) nd)) (fun C fp s H=>jUd) (fun C fp s H=>(e_op jQ7 (jQl (jJa kJq jJe)) (jJq jKo (by rfl) T.n_len lJo (jJa (e_ix (ix_F hu) (jJb 0) (e_op jYh (jJb 10) (jJq jKo (by rfl) T.n_len lJo (jJa (jJb 0) jJe))) (fun _ _=>rfl)) jJe)))))
   (jJd (jKy lJr rfl (kY8 rfl T.n_enumerate rfl (jJa (jJ2 (kU0 T) (hr.mono (by decide)) (jJa (jJb 0) jJe)) jJe)) (jV2 rfl (jJ0 (jJo (i:=4) nd) (jJ0 (jV2 rfl (jJ0 (jJo (i:=5) nd) (jJ0 (jJo (i:=6) nd) jQy))) jQy))) (jJl (jKy lJr rfl (jJ3 rfl T.n_range (jJa (jJb 2) jJe)) (jJo (i:=7) nd) (jJd (jJx (i:=8) nd (e_op o_addF (e_ix (ix_F hu) (jJb 5) jJj (fun _ _=>rfl)) (e_op jQ7 (jJb 7) (jJq jKo (by rfl) T.n_len lJo (jJa (jJb 0) jJe)))))
   (jJd (jJx (i:=9) nd (e_op o_addF (e_ix (ix_F hu) (jJb 6) jJj (fun _ _=>rfl)) (e_op jQ7 (e_ix (ix_F hu) (e_ix (ix_F hu) (jJb 1) (jJb 4) (fun _ _=>rfl)) (jJb 7) (fun _ _=>rfl)) (jJq jKo (by rfl) T.n_len lJo (jJa (jJb 0) jJe)))))
   (jJd (jXu (jKf (jJa (jJb 9) (jJa (e_ix (ix_F hu) (jJb 6) jJj (fun _ _=>rfl)) jJe))) (jYn (e_ix (ix_F hu) (jJb 3) (jJb 8) (fun _ _=>rfl)) (e_ix (ix_F hu) (jJb 5) jJj (fun _ _=>rfl)) (s_F hu)))
   (jJl (jXu (jKf (jJa (jJb 8) (jJa (e_ix (ix_F hu) (jJb 5) jJj (fun _ _=>rfl)) jJe))) (jYn (e_ix (ix_F hu) (jJb 3) (jJb 9) (fun _ _=>rfl)) (e_ix (ix_F hu) (jJb 6) jJj (fun _ _=>rfl)) (s_F hu))))))))))
   (jJl (jKc (jKg jK7 (by rfl) T.n_tuple rfl (jJa (jUf (mask:=[false,false,false,false,false,false,false,false,false,false,false,true]) rfl ⟨rfl,rfl,rfl,rfl,rfl,rfl,rfl⟩ (jQw (jJb 3)) jJ9 (fun C fp s H=>(jJo (i:=11) nd)) (fun C fp s H=>jUd) (fun C fp s H=>(jKg jK7 (by rfl) T.n_tuple rfl (jJa (jJb 11) jJe)))) jJe))))))
theorem kUw (T:Txt K mg):Cal P w K mg base 2 "_law_turn" ["_law_box_here","_law_many","_law_own"] jXo:=
 cal3 T.f_l_turn kXa fun _ _ _ _ _ _ _ hr hu nd=>
  (jJd (jJx (i:=3) nd (jQl jJe))
   (jJd (jKy lJr rfl (jJ3 rfl T.n_range (jJa (jJb 1) jJe)) (jJo (i:=4) nd) (jJl (jK4 (e_bm lJ9 PySem.F.slot_list_insert PySem.F.type_list_insert kYy (jJb 3) (jJa (jJ2 (jJz T) (hr.mono (by decide)) (jJa (jJb 0) (jJa (e_op o_addF (jJb 4) jJj) jJe))) (jJa (jJb 4) jJe))))))
   (jJd (s_if (qV0 (qZ9 kVz (jJb 2))) (jJl (jKc (jKg jK7 (by rfl) T.n_tuple rfl (jJa (jJb 3) jJe)))) jKp)
   (jJd (jJx (i:=5) nd (kJr rfl T.n_list rfl T.n_range rfl (jJa (jJb 1) jJe)))
   (jJd (jKy lJr rfl (qYg rfl T.n_range (jJa jJj (jJa (e_op qJj (jJb 1) jJj) (jJa jJj jJe)))) (jJo (i:=4) nd) (jJd (jXu (e_ix (ix_F hu) (jJb 3) (e_op o_addF (jJb 4) jJj) (fun _ _=>rfl)) (jYn (jJb 5) (e_ix (ix_F hu) (jJb 3) (jJb 4) (fun _ _=>rfl)) (s_F hu)))
   (jJl (jXu (e_ix (ix_F hu) (jJb 3) (jJb 4) (fun _ _=>rfl)) (jYn (jJb 5) (e_ix (ix_F hu) (jJb 3) (e_op o_addF (jJb 4) jJj) (fun _ _=>rfl)) (s_F hu))))))
   (jJl (jKc (jKg jK7 (by rfl) T.n_tuple rfl (jJa (jJb 5) jJe)))))))))
theorem kU1 (T:Txt K mg):Cal P w K mg base 3 "_law_covered" ["_law_box_here","_law_web_here","_law_many"] jVj:=
 cal3 T.f_l_covered kJ7 fun _ _ _ _ _ _ _ hr hu nd=>
  (jJd (jKy lJr rfl (jJ3 rfl T.n_range (jJa jJj jJe)) (jJo (i:=3) nd) (jJd (jJx (i:=4) nd (jQl jJe))
   (jJd (jKy lJr rfl (jQw (jJ2 (kU0 T) (hr.mono (by decide)) (jJa (jJb 1) jJe))) (jJo (i:=5) nd) (jJl (jK4 (e_bm lJ9 lKo lKp jKj (jJb 4) (jJa (jJ2 (kUw T) (hr.mono (by decide)) (jJa (jJb 0) (jJa (jJb 2) (jJa (uK1 (jYi hr.units) (e_ix (ix_F hu) (jJb 5) jJj (fun _ _=>rfl)) (e_ix (ix_F hu) (jJb 5) jJj (fun _ _=>rfl)) (jJu _)) jJe)))) jJe)))))
   (jJd (jJx (i:=6) nd (jJ2 (kUx T) (hr.mono (by decide)) (jJa (jJb 1) (jJa (jJb 4) (jJa (jJb 2) jJe)))))
   (jJl (s_if (jKv (jYi hr.units) (jJq jKo (by rfl) T.n_len lJo (jJa (jJ2 (kUz T) (hr.mono (by decide)) (jJa (jJb 6) (jJa jJj jJe))) jJe)) (jJq jKo (by rfl) T.n_len lJo (jJa (jJb 6) jJe)) (jJu _)) (jJl (jKc (jJb 6))) jKp))))))
   (jJl (jKc (jJb 1))))
theorem kU2 (T:Txt K mg):Cal P w K mg base 4 "_law_any_web" ["_law_box_here"] jQ9:=
 cal3 T.f_l_any_web kJ8 fun _ _ _ _ _ _ _ hr hu nd=>
  (jJd (jJx (i:=1) nd (jJ2 (jJz T) (hr.mono (by decide)) (jJa (jJb 0) (jJa jJj jJe))))
   (jJd (s_if (jKv (jYi hr.units) (jJb 1) jJj (jJu _)) (jJl (jKc (jJ2 (kQr T) (hr.mono (by decide)) (jJa (jJb 0) (jJa (e_op o_addF jJj (jJ2 (jJz T) (hr.mono (by decide)) (jJa (jJb 0) (jJa jJj jJe)))) (jJa (e_op o_addF jJj (jJ2 (jJz T) (hr.mono (by decide)) (jJa (jJb 0) (jJa jJj jJe)))) jJe)))))) jKp)
   (jJd (s_if (jKv o_lt (jJb 1) jJj (jJu _)) (jJl (jKc (jJ2 (kQr T) (hr.mono (by decide)) (jJa (jJb 0) (jJa (e_op o_addF jJj (jJ2 (jJz T) (hr.mono (by decide)) (jJa (jJb 0) (jJa jJj jJe)))) (jJa (e_op o_addF jJj (jJ2 (jJz T) (hr.mono (by decide)) (jJa (jJb 0) (jJa jJj jJe)))) jJe)))))) jKp)
   (jJd (s_if (jKv (jYi hr.units) (jJb 1) jJj (jJu _)) (jJl (jKc (jJ2 (qQs T) (hr.mono (by decide)) (jJa (e_op o_addF jJj (jJ2 (jJz T) (hr.mono (by decide)) (jJa (jJb 0) (jJa jJj jJe)))) jJe)))) jKp)
   (jJd (jJx (i:=2) nd (jJ2 (kQr T) (hr.mono (by decide)) (jJa (jJb 0) (jJa (e_op o_addF jJj (jJ2 (jJz T) (hr.mono (by decide)) (jJa (jJb 0) (jJa jJj jJe)))) (jJa (e_op o_addF jJj (jJ2 (jJz T) (hr.mono (by decide)) (jJa (jJb 0) (jJa jJj jJe)))) jJe)))))
   (jJd (jJx (i:=3) nd (e_op o_addF jJj (jJ2 (jJz T) (hr.mono (by decide)) (jJa (jJb 0) (jJa (e_ix (ix_F hu) (jQl (jJa jJj (jJa jJj (jJa jJj (jJa jJj jJe))))) (e_op qJj (jJq jKo (by rfl) T.n_len lJo (jJa (jJb 2) jJe)) jJj) (fun _ _=>rfl)) jJe)))))
   (jJl (jKc (jJ2 (kU1 T) (hr.mono (by decide)) (jJa (jJb 0) (jJa (jJb 2) (jJa (jJb 3) jJe))))))))))))
theorem qXr (T:Txt K mg):Cal P w K mg base 2 "_law_way" ["_law_box_here","_law_web_here","_law_room","_law_most"] jXn:=
 cal3 T.f_l_way kZ9 fun _ _ _ _ _ _ _ hr hu nd=>
  (jJd (jJx (i:=4) nd (jQl jJe))
   (jJd (jKy lJr rfl (jJ3 rfl T.n_range (jJa (jJ2 (jJz T) (hr.mono (by decide)) (jJa (jJb 0) (jJa (e_op o_addF (jJb 3) jJj) jJe))) jJe)) (jJo (i:=5) nd) (jJl (s_if (jKv o_gt (jJq jKo (by rfl) T.n_len lJo (jJa (e_ix (ix_F hu) (jJb 1) (jJb 2) (fun _ _=>rfl)) jJe)) jJj (jJu _)) (jJd (jK4 (e_bm lJ9 lKo lKp jKj (jJb 4) (jJa (jJ2 (jJz T) (hr.mono (by decide)) (jJa (jJb 0) (jJa (jJq jKo (by rfl) T.n_len lJo (jJa (e_ix (ix_F hu) (jJb 1) (jJb 2) (fun _ _=>rfl)) jJe)) jJe))) jJe)))
   (jJl (jJx (i:=2) nd (e_ix (ix_F hu) (e_ix (ix_F hu) (e_ix (ix_F hu) (jJb 1) (jJb 2) (fun _ _=>rfl)) (e_ix (ix_F hu) (jJb 4) (e_un u_neg jJj) (fun _ _=>rfl)) (fun _ _=>rfl)) jJj (fun _ _=>rfl))))) jKp)))
   (jJl (jKc (jKg jK7 (by rfl) T.n_tuple rfl (jJa (jJb 4) jJe))))))
theorem qJh (T:Txt K mg):Cal P w K mg base 1 "_law_kinds" ["_law_web_here"] jUr:=
 cal3 T.f_l_kinds kUq fun _ _ _ _ _ _ _ hr hu nd=>
  (jJd (jJx (i:=1) nd (jUf (mask:=[false,false,false,false,false,false,true,false,false,false]) rfl ⟨rfl,rfl,rfl,rfl,rfl,rfl,rfl⟩ (jQw (jJb 0)) jJ9 (fun C fp s H=>(jJo (i:=6) nd)) (fun C fp s H=>jUd) (fun C fp s H=>(jJq jKo (by rfl) T.n_len lJo (jJa (jJb 6) jJe)))))
   (jJd (jKy lJr rfl (jJ3 rfl T.n_range (jJa (jJq jKo (by rfl) T.n_len lJo (jJa (jJb 0) jJe)) jJe)) (jJo (i:=2) nd) (jJd (jJx (i:=3) nd (jQl jJe))
   (jJd (jKy lJr rfl (jJ3 rfl T.n_range (jJa (jJq jKo (by rfl) T.n_len lJo (jJa (jJb 0) jJe)) jJe)) (jJo (i:=4) nd) (jJl (jK4 (e_bm lJ9 lKo lKp jKj (jJb 3) (jJa (jKf (jJa (e_ix (ix_F hu) (jJb 1) (jJb 4) (fun _ _=>rfl)) (jJa (jKg jK7 (by rfl) T.n_tuple rfl (jJa (jUf (mask:=[false,false,false,false,false,false,false,true,true,false]) rfl ⟨rfl,rfl,rfl,rfl,rfl,rfl,rfl⟩ (jQw (e_ix (ix_F hu) (jJb 0) (jJb 4) (fun _ _=>rfl))) (kZa (jVu jJ9 jQx (jVu jJ9 jQx kZb jYv) (kQz jQx jYv))) (fun C fp s H=>(jV2 rfl (jJ0 (jJo (i:=7) nd) (jJ0 (jJo (i:=8) nd) jQy)))) (fun C fp s H=>jUd) (fun C fp s H=>(jKf (jJa (jJb 8) (jJa (e_ix (ix_F hu) (jJb 1) (jJb 7) (fun _ _=>rfl)) jJe))))) jJe)) jJe))) jJe)))))
   (jJd (jJx (i:=5) nd (qZ3 rfl hu (by rfl) T.n_sorted rfl (by rfl) T.n_set rfl (jJa (jJb 3) jJe)))
   (jJl (jJx (i:=1) nd (jUf (mask:=[false,false,false,false,false,false,false,false,false,true]) rfl ⟨rfl,rfl,rfl,rfl,rfl,rfl,rfl⟩ (jQw (jJb 3)) jJ9 (fun C fp s H=>(jJo (i:=9) nd)) (fun C fp s H=>jUd) (fun C fp s H=>(e_bm lJ9 PySem.F.slot_list_index PySem.F.type_list_index (kYz hu) (jJb 5) (jJa (jJb 9) jJe))))))))))
   (jJl (jKc (jJb 1)))))
theorem kUy (T:Txt K mg):Cal P w K mg base 3 "_law_renamed" ["_law_box_here","_law_web_here"] jQs:=
 cal3 T.f_l_renamed kJ5 fun _ _ _ _ _ _ _ hr hu nd=>
  (jJd (jJx (i:=2) nd (jJ2 (kUw T) (hr.mono (by decide)) (jJa (jJb 0) (jJa (jJq jKo (by rfl) T.n_len lJo (jJa (jJb 1) jJe)) (jJa e_bl jJe)))))
   (jJd (jJx (i:=3) nd (e_op jQ7 (jQl (jJa kJq jJe)) (jJq jKo (by rfl) T.n_len lJo (jJa (jJb 1) jJe))))
   (jJd (jKy lJr rfl (jJ3 rfl T.n_range (jJa (jJq jKo (by rfl) T.n_len lJo (jJa (jJb 1) jJe)) jJe)) (jJo (i:=4) nd) (jJl (jXu (jKg jK7 (by rfl) T.n_tuple rfl (jJa (jUf (mask:=[false,false,false,false,false,true,true]) rfl ⟨rfl,rfl,rfl,rfl,rfl,rfl,rfl⟩ (jQw (e_ix (ix_F hu) (jJb 1) (jJb 4) (fun _ _=>rfl))) (kZa (jVu jJ9 jQx (jVu jJ9 jQx kZb jYv) (kQz jQx jYv))) (fun C fp s H=>(jV2 rfl (jJ0 (jJo (i:=5) nd) (jJ0 (jJo (i:=6) nd) jQy)))) (fun C fp s H=>jUd) (fun C fp s H=>(jKf (jJa (e_ix (ix_F hu) (jJb 2) (jJb 5) (fun _ _=>rfl)) (jJa (jJb 6) jJe))))) jJe)) (jYn (jJb 3) (e_ix (ix_F hu) (jJb 2) (jJb 4) (fun _ _=>rfl)) (s_F hu)))))
   (jJl (jKc (jKf (jJa (jKg jK7 (by rfl) T.n_tuple rfl (jJa (jJb 3) jJe)) (jJa (jJb 2) jJe))))))))
theorem qQt (T:Txt K mg):Cal P w K mg base 1 "_law_line" ["_law_many"] jXp:=
 cal3 T.f_l_line kXd fun _ _ _ _ _ _ _ hr hu nd=>
  (jJd (jJx (i:=1) nd (jQl jJe))
   (jJd (jKy lJr rfl (jJ3 rfl T.n_range (jJa (jJb 0) jJe)) (jJo (i:=2) nd) (jJd (jJx (i:=3) nd (kJs (jKv o_gt (jJb 2) jJj (jJu _)) (jKf (jJa (e_op qJj (jJb 2) jJj) (jJa jJj jJe))) (jKf (jJa jJj (jJa jJj jJe)))))
   (jJd (jJx (i:=4) nd (kJs (jKv o_lt (jJb 2) (e_op qJj (jJb 0) jJj) (jJu _)) (jKf (jJa (e_op o_addF (jJb 2) jJj) (jJa jJj jJe))) (jKf (jJa (jJb 2) (jJa jJj jJe)))))
   (jJl (jK4 (e_bm lJ9 lKo lKp jKj (jJb 1) (jJa (jKf (jJa (jJb 3) (jJa (jJb 4) jJe))) jJe)))))))
   (jJl (jKc (jKg jK7 (by rfl) T.n_tuple rfl (jJa (jJb 1) jJe))))))
theorem qXs (T:Txt K mg):Cal P w K mg base 1 "_law_far" ["_law_web_here","_law_room"] jXq:=
 cal3 T.f_l_far qJa fun _ _ _ _ _ _ _ hr hu nd=>
  (jJd (jJx (i:=2) nd (jUf (mask:=[false,false,false,false,false,false,false,false,false,true,false,false,false]) rfl ⟨rfl,rfl,rfl,rfl,rfl,rfl,rfl⟩ (jQw (jJb 0)) jJ9 (fun C fp s H=>(jJo (i:=9) nd)) (fun C fp s H=>jUd) (fun C fp s H=>(jJq jKo (by rfl) T.n_len lJo (jJa (jJb 9) jJe)))))
   (jJd (jJx (i:=3) nd jJj)
   (jJd (jKy lJr rfl (jJ3 rfl T.n_range (jJa (jJq jKo (by rfl) T.n_len lJo (jJa (jJb 0) jJe)) jJe)) (jJo (i:=4) nd) (jJd (jJx (i:=5) nd (jQl jJe))
   (jJd (jKy lJr rfl (jJ3 rfl T.n_range (jJa (jJq jKo (by rfl) T.n_len lJo (jJa (jJb 0) jJe)) jJe)) (jJo (i:=6) nd) (jJl (jK4 (e_bm lJ9 lKo lKp jKj (jJb 5) (jJa (jKf (jJa (e_ix (ix_F hu) (jJb 2) (jJb 6) (fun _ _=>rfl)) (jJa (jKg jK7 (by rfl) T.n_tuple rfl (jJa (jUf (mask:=[false,false,false,false,false,false,false,false,false,false,true,true,false]) rfl ⟨rfl,rfl,rfl,rfl,rfl,rfl,rfl⟩ (jQw (e_ix (ix_F hu) (jJb 0) (jJb 6) (fun _ _=>rfl))) (kZa (jVu jJ9 jQx (jVu jJ9 jQx kZb jYv) (kQz jQx jYv))) (fun C fp s H=>(jV2 rfl (jJ0 (jJo (i:=10) nd) (jJ0 (jJo (i:=11) nd) jQy)))) (fun C fp s H=>jUd) (fun C fp s H=>(jKf (jJa (jJb 11) (jJa (e_ix (ix_F hu) (jJb 2) (jJb 10) (fun _ _=>rfl)) jJe))))) jJe)) jJe))) jJe)))))
   (jJd (jJx (i:=7) nd (qZ3 rfl hu (by rfl) T.n_sorted rfl (by rfl) T.n_set rfl (jJa (jJb 5) jJe)))
   (jJd (kKk (i:=8) (mask:=[false,false,false,false,false,false,true,false,false,false,false,false,false]) rfl nd ⟨rfl,rfl,rfl,rfl,rfl,rfl,rfl⟩ (jJ3 rfl T.n_range (jJa (jJq jKo (by rfl) T.n_len lJo (jJa (jJb 0) jJe)) jJe)) jJ9 (fun C fp s H=>(jJo (i:=6) nd)) (fun C fp s H=>(kKq (jKv (jYi hr.units) (e_ix (ix_F hu) (jJb 2) (jJb 6) (fun _ _=>rfl)) (e_ix (ix_F hu) (jJb 2) (jJb 1) (fun _ _=>rfl)) (jJu _)))) (fun C fp s H=>(jJb 6)))
   (jJd (jJx (i:=2) nd (jUf (mask:=[false,false,false,false,false,false,false,false,false,false,false,false,true]) rfl ⟨rfl,rfl,rfl,rfl,rfl,rfl,rfl⟩ (jQw (jJb 5)) jJ9 (fun C fp s H=>(jJo (i:=12) nd)) (fun C fp s H=>jUd) (fun C fp s H=>(e_bm lJ9 PySem.F.slot_list_index PySem.F.type_list_index (kYz hu) (jJb 7) (jJa (jJb 12) jJe)))))
   (jJl (s_if (jKv (uJ2 hr.units) (jUf (mask:=[false,false,false,false,false,false,true,false,false,false,false,false,false]) rfl ⟨rfl,rfl,rfl,rfl,rfl,rfl,rfl⟩ (jQw (jJb 8)) jJ9 (fun C fp s H=>(jJo (i:=6) nd)) (fun C fp s H=>(kKq (jKv (qJk hr.units) (e_ix (ix_F hu) (jJb 2) (jJb 6) (fun _ _=>rfl)) (e_ix (ix_F hu) (jJb 2) (jJb 1) (fun _ _=>rfl)) (jJu _)))) (fun C fp s H=>(jJb 6))) (jQl jJe) (jJu _)) (jJl (jJx (i:=3) nd (e_op o_addF (jJb 4) jJj))) jKp))))))))
   (jJl (jKc (jJb 3))))))
theorem ok_law (T:Txt K mg) {f:Addr} {fd:FuncData} (F:Fun K "law" "law" (top 39) f fd):Fn3 P w K mg base 6 f fd ["_law_script"] qKn:=by
 have S:FnScope N_law ["_law_script"] (jJv (top 39)):=⟨rfl,rfl,rfl,by decide +kernel,rfl,by decide +kernel,by decide +kernel⟩
 refine fn3 F S fun cdv A outer s H E hr=>⟨kYu,?_,qXe⟩
 have hu:=qYk hr
 have nd:=S.nd
 exact (jJd (jJx (i:=0) nd (jJ2 (kXp T) (hr.mono (by decide)) (jJa (jJb 0) (jJa jJj jJe))))
   (jJd (jKy lJr rfl (jJ3 rfl T.n_range (jJa (jJq (c_max rfl) (by rfl) T.n_max rfl (jJa jJj (jJa (jJq jKo (by rfl) T.n_len lJo (jJa (jJb 0) jJe)) jJe))) jJe)) (jJo (i:=1) nd) (jJd (jJx (i:=2) nd (jJ2 (qXt T) (hr.mono (by decide)) (jJa (jJb 0) (jJa (jJb 1) jJe))))
   (jJd (jJx (i:=3) nd (jJ2 (kU2 T) (hr.mono (by decide)) (jJa (jJb 2) jJe)))
   (jJd (s_if (jKv (jYi hr.units) (jJ2 (jJz T) (hr.mono (by decide)) (jJa (jJb 2) (jJa jJj jJe))) jJj (jJu _)) (jJl (jJx (i:=3) nd (jJ2 (qQt T) (hr.mono (by decide)) (jJa (e_op o_addF jJj (jJ2 (jJz T) (hr.mono (by decide)) (jJa (jJb 2) (jJa jJj jJe)))) jJe)))) jKp)
   (jJd (jXu (jJ2 (kUy T) (hr.mono (by decide)) (jJa (jJb 2) (jJa (jJb 3) jJe))) (jV2 rfl (jJ0 (jJo (i:=3) nd) (jJ0 (jJo (i:=4) nd) jQy))))
   (jJd (jJx (i:=5) nd (jJ2 (jJz T) (hr.mono (by decide)) (jJa (jJb 2) (jJa (jJq jKo (by rfl) T.n_len lJo (jJa (jJb 3) jJe)) jJe))))
   (jJd (jJx (i:=6) nd (qZ4 (jV6 T) (hr.mono (by decide)) (jJa (jJb 3) (jJa (jJb 5) (jJa (jJ2 (jJz T) (hr.mono (by decide)) (jJa (jJb 2) (jJa jJj jJe))) jJe)))))
   (jJd (jKy lJr rfl (jQw (jJ2 (qXr T) (hr.mono (by decide)) (jJa (jJb 2) (jJa (jJb 3) (jJa (jJb 5) (jJa jJj jJe)))))) (jJo (i:=7) nd) (jJd (jK4 (qU0 (jVt T) (hr.mono (by decide)) (jJb 6) (jJa (jJb 7) jJe)))
   (jJl (s_if (PW3.pt (w_and (jKv o_gt (jUn (jQp T) (hr.mono (by decide)) (jJb 6)) jJj (jJu _)) (w_and1 (jKv (jYi hr.units) (jJ2 (jJz T) (hr.mono (by decide)) (jJa (jJb 2) (jJa jJj jJe))) jJj (jJu _))))) (jJl (jK4 (jUn (kQs T) (hr.mono (by decide)) (jJb 6)))) jKp))))
   (jJd (jJx (i:=8) nd (jKf (jJa (jJ2 (jZ5 T) (hr.mono (by decide)) (jJa (jJb 6) jJe)) (jJa (jUn (jQp T) (hr.mono (by decide)) (jJb 6)) (jJa (e_ix (ix_F hu) (jUn (jK8 T) (hr.mono (by decide)) (jJb 6)) jJj (fun _ _=>rfl)) jJe)))))
   (jJd (jJx (i:=9) nd (jJ2 (qJh T) (hr.mono (by decide)) (jJa (jJb 3) jJe)))
   (jJd (kKk (i:=10) (mask:=[false,false,false,false,false,false,false,false,false,false,false,false,false,false,true]) rfl nd ⟨rfl,rfl,rfl,rfl,rfl,rfl,rfl⟩ (jJ3 rfl T.n_range (jJa (jJq jKo (by rfl) T.n_len lJo (jJa (jJb 3) jJe)) jJe)) jJ9 (fun C fp s H=>(jJo (i:=14) nd)) (fun C fp s H=>(kKq (jKv (jYi hr.units) (e_ix (ix_F hu) (jJb 9) (jJb 14) (fun _ _=>rfl)) (e_ix (ix_F hu) (jJb 9) (e_ix (ix_F hu) (e_ix (ix_F hu) (jJb 8) jJj (fun _ _=>rfl)) jJj (fun _ _=>rfl)) (fun _ _=>rfl)) (jJu _)))) (fun C fp s H=>(jJb 14)))
   (jJd (jJx (i:=11) nd (qZ4 (jV6 T) (hr.mono (by decide)) (jJa (jJb 3) (jJa (e_ix (ix_F hu) (e_ix (ix_F hu) (jJb 8) jJj (fun _ _=>rfl)) jJj (fun _ _=>rfl)) (jJa jJj jJe)))))
   (jJd (s_if (PW3.pt (w_or (jKv (qJk hr.units) (jJ2 (jV5 T) (hr.mono (by decide)) (jJa (jJb 11) (jJa (jJb 3) jJe))) (jJb 10) (jJu _)) (w_or1 (jKv o_lt (jUn (jZ6 T) (hr.mono (by decide)) (jJb 11)) (jJ2 (qXs T) (hr.mono (by decide)) (jJa (jJb 3) (jJa (e_ix (ix_F hu) (e_ix (ix_F hu) (jJb 8) jJj (fun _ _=>rfl)) jJj (fun _ _=>rfl)) jJe))) (jJu _))))) (jJl (jKc e_bl)) jKp)
   (jJl (jKy lJr rfl (jJ3 rfl T.n_range (jJa jJj jJe)) (jJo (i:=12) nd) (jJd (jJx (i:=13) nd (jJ2 (jV5 T) (hr.mono (by decide)) (jJa (jJb 6) (jJa (jJb 3) jJe))))
   (jJd (s_if (PW3.pt (w_or (qV0 (t_val (jJq c_isi (by rfl) T.n_isinstance rfl (jJa (jJb 13) (jJa (e_ty rfl T.n_list rfl) jJe))))) (w_or1 (jKv (qJk hr.units) (jJq (qVf rfl hr.units) (by rfl) T.n_repr rfl (jJa (jJb 13) jJe)) (jJq (qVf rfl hr.units) (by rfl) T.n_repr rfl (jJa (jJb 10) jJe)) (jJu _))))) (jJl (jKc e_bl)) jKp)
   (jJd (jK4 (e_bm lJ9 lKo lKp jKj (jJb 13) (jJa jJj jJe)))
   (jJl (s_if (jKv (qJk hr.units) (jKf (jJa (jJ2 (jZ5 T) (hr.mono (by decide)) (jJa (jJb 6) jJe)) (jJa (jUn (jQp T) (hr.mono (by decide)) (jJb 6)) (jJa (e_ix (ix_F hu) (jUn (jK8 T) (hr.mono (by decide)) (jJb 6)) jJj (fun _ _=>rfl)) jJe)))) (jJb 8) (jJu _)) (jJl (jKc e_bl)) jKp))))))))))))))))))))
   (jJl (jKc e_bl))))
def uJa (K:PySem.W.Frag):Sp:=dn K 1 qKn
theorem fn_at {K:PySem.W.Frag} {h:Heap} {mg:Str->Option Value} {x:Str} {i:Nat} {f:Addr} {oc:Value} {od an:Option Addr} {osl:Array (Option Value)} {kV doc pm cdv ct:Value} (X:K.In h) (G:h.Ns mainGlobals mg) (a:PySem.W.nsIn K mainGlobals x=some (some (.ref f)))
  (l:K.lookup f=some ⟨oc,od,.func (PySem.W.fnOf x x (jUo (top i)) (jQc (top i)) (jJv (top i)) .none kV doc pm an cdv ct),osl⟩) (c:PySem.W.codeIn K cdv x=true) (k:PySem.W.keepIn K (.ref f)=true):FnAt K mg x i:=⟨f,_,PySem.W.mg_of X G a,qUk l c k⟩
theorem all_mk {l:PySem.W.OpenLaw} {w:World} {K:PySem.W.Frag} {mg:Str->Option Value} {fa:Addr} (hfa:mg "law"=some (.ref fa)) (T:Txt K mg):
  ∃fd:FuncData,(∀(s:Shared) (v:Value),BindsTo s fd ⟨[v],[]⟩ [("_law_script",v)])/\∀base:Heap,K.In base->base.Ns mainGlobals mg->FnOk l.prog w K mg base CX0 6 fa fd ["_law_script"] (uJa K):=by
 obtain⟨f,fd,a,F⟩:=T.f_law
 cases hfa.symm.trans a
 refine⟨fd,fun s v=> ?_,fun base _ _=>ok_law T F⟩
 obtain⟨_,_,kV,doc,pm,an,cdv,ct,_,e,_⟩:=F.ex
 subst e
 exact .of_eq rfl
theorem me_at {K:PySem.W.Frag} {C:Addr} {m q:Str} {st:Stmt} {f:Addr} {oc:Value} {od an:Option Addr} {osl:Array (Option Value)} {kV doc pm cdv ct:Value} (a:PySem.W.findIn K (.ref C) m=some (some (.ref f))) (i:PySem.W.isFn K (.ref f)=true) (l:K.lookup f=some ⟨oc,od,.func (PySem.W.fnOf m q (jUo st) (jQc st) (jJv st) .none kV doc pm an cdv ct),osl⟩) (c:PySem.W.codeIn K cdv q=true) (k:PySem.W.keepIn K (.ref f)=true):MeF K C m q st:=⟨f,_,⟨a,i,k⟩,qUk l c k⟩
theorem mk_at {K:PySem.W.Frag} {C:Addr} {q:Str} {st:Stmt} {f:Addr} {oc:Value} {od an:Option Addr} {osl:Array (Option Value)} {kV doc pm cdv ct:Value} (a:PySem.W.findIn K (.ref C) "__init__"=some (some (.ref f))) (i:PySem.W.isFn K (.ref f)=true) (mk:PySem.W.makesIn K C=true) (kc:PySem.W.keepIn K (.ref C)=true) (l:K.lookup f=some ⟨oc,od,.func (PySem.W.fnOf "__init__" q (jUo st) (jQc st) (jJv st) .none kV doc pm an cdv ct),osl⟩) (c:PySem.W.codeIn K cdv q=true) (k:PySem.W.keepIn K (.ref f)=true):MkF K C q st:=⟨f,_,⟨mk,a,i,kc⟩,qUk l c k⟩
theorem fr_of {K:PySem.W.Frag} {H:Hp} {a:Addr} {xs:List V} (hO:Only H) (hS:SqL K H a xs):FrL K H a xs:=by
 rcases hS with h | h
 ·rcases h with h | ⟨ob,h⟩
  ·rcases hO a with z | ⟨o,ys,z⟩
   ·rw[z] at h;cases h
   ·rw[z] at h;cases h
  ·exact .inl ⟨ob,h⟩
 ·exact .inr h
theorem jQ5 {K:PySem.W.Frag} {H:Hp}:∀ns:List Int,Reps K H (jKs ns) (ns.map V.int)
 | []=>rfl
 | n::ns=>⟨_,_,rfl,rfl,jQ5 ns⟩
theorem walk {l:PySem.W.OpenLaw} {q:Program} {loose:List Str} {XP:(Str->Option Value)->Heap->Prop} {YP:World->Heap->Prop} {d:DefRec} {K:Params->PySem.W.Frag} (hn:l.most=some 63) (hdf:d.params.defaults=[])
  (hY:∀(w:World) (h:Heap),YP w h->(K w.params).In h)
  (F:∀(w:World) (mg:Str->Option Value) (fa:Addr) (h:Heap),(K w.params).In h->h.Ns mainGlobals mg->mg d.name=some (.ref fa)->
   ∃fd:FuncData,(∀(s:Shared) (u:Value),BindsTo s fd ⟨[u],[]⟩ [("_law_script",u)])/\∀base:Heap,(K w.params).In base->base.Ns mainGlobals mg->FnOk l.prog w (K w.params) mg base CX0 6 fa fd ["_law_script"] (uJa (K w.params))):
  PySem.W.WalkO q loose XP YP l.row.toRowW d [] (fun f vs=>PySem.call f vs):=
 L2.walk_of (n:=63) (k:=6) (x:="_law_script") (CX:=fun _=>CX0) (sp:=fun w=>uJa (K w.params)) hn (by decide) hdf ⟨rfl,rfl,by decide,by decide⟩ hY F
  (fun _ _ a ns hl hO hS=>⟨rfl,[.scr (jKs ns)],fun _=>none,⟨_,_,rfl,⟨a,_,rfl,fr_of hO hS,jQ5 ns⟩,rfl⟩,(fun _ _ h=>nomatch h),ns,rfl,hl,fun G' v H' _ _ r=>r⟩) fun _ _ _ _ _ z=>z
end W
def PySem.W.Fast.tw8918802428859627901 : Unit := ()
def PySem.W.Fast.tw8297794818432803896 : Unit := ()
def PySem.W.Fast.tw3206489335023002503 : Unit := ()
def PySem.W.Fast.tw5024082139026335539 : Unit := ()
def PySem.W.Fast.tw14891461576411797466 : Unit := ()
def PySem.W.Fast.tw8285534679700212725 : Unit := ()
def PySem.W.Fast.tw12183457073954182039 : Unit := ()
def PySem.W.Fast.tw4665554704040908888 : Unit := ()
def PySem.W.Fast.tw9787140248683653316 : Unit := ()
def PySem.W.Fast.tw2276764181925840191 : Unit := ()
def PySem.W.Fast.tw10255154347270441402 : Unit := ()
def PySem.W.Fast.tw10038553030291335727 : Unit := ()
def PySem.W.Fast.tw11978086797183595964 : Unit := ()
def PySem.W.Fast.tw9821563932103975390 : Unit := ()
def PySem.W.Fast.tw3019117247580596846 : Unit := ()
def PySem.W.Fast.tw15714330520604905457 : Unit := ()
def PySem.W.Fast.tw3002421920659479615 : Unit := ()
def PySem.W.Fast.tw15429422392024005541 : Unit := ()
def PySem.W.Fast.tw7462243099715187245 : Unit := ()
def PySem.W.Fast.tw2002630600470763095 : Unit := ()
def PySem.W.Fast.tw6124912824444960613 : Unit := ()
def PySem.W.Fast.tw15729423688527377279 : Unit := ()
def PySem.W.Fast.tw8642581003352717229 : Unit := ()
def PySem.W.Fast.tw14110019430943410140 : Unit := ()
def PySem.W.Fast.tw18275881147079147369 : Unit := ()
def PySem.W.Fast.tw2235602130485354303 : Unit := ()
def PySem.W.Fast.tw1038815532509405286 : Unit := ()
def PySem.W.Fast.tw10129560574986461190 : Unit := ()
def PySem.W.Fast.tw4917967261613710266 : Unit := ()
def PySem.W.Fast.tw10757516238602597928 : Unit := ()
def PySem.W.Fast.tw12795439145904952501 : Unit := ()
def PySem.W.Fast.tw7877337279122408307 : Unit := ()
def PySem.W.Fast.tw12377554936547523017 : Unit := ()
def PySem.W.Fast.tw13521865448712699615 : Unit := ()
def PySem.W.Fast.tw6057600421135334337 : Unit := ()
def PySem.W.Fast.tw510716575979291072 : Unit := ()
def PySem.W.Fast.tw16420809020091147947 : Unit := ()
def PySem.W.Fast.tw17491276537549864308 : Unit := ()
def PySem.W.Fast.tw4660636972726872225 : Unit := ()
def PySem.W.Fast.tw15794100856557435385 : Unit := ()
def PySem.W.Fast.tw7492552295869848186 : Unit := ()
def PySem.W.Fast.tw10430210903473103443 : Unit := ()
def PySem.W.Fast.tw8744455551813939529 : Unit := ()
def PySem.W.Fast.tw5795547678766818010 : Unit := ()
def PySem.W.Fast.tw14674828845959199237 : Unit := ()
def PySem.W.Fast.tw1238435083406396436 : Unit := ()
def PySem.W.Fast.tw463337152915439360 : Unit := ()
def PySem.W.Fast.tw8294114903987352313 : Unit := ()
def PySem.W.Fast.tw11235909338246623788 : Unit := ()
def PySem.W.Fast.tw11506161832794452356 : Unit := ()
def PySem.W.Fast.tw14226242432808049857 : Unit := ()
def PySem.W.Fast.tw6531145116912684998 : Unit := ()
def PySem.W.Fast.tw11655197490975647491 : Unit := ()
def PySem.W.Fast.tw16711679300640749582 : Unit := ()
def PySem.W.Fast.tw612347497157530605 : Unit := ()
def PySem.W.Fast.tw9835318587951453458 : Unit := ()
def PySem.W.Fast.tw9295534497413532342 : Unit := ()
def PySem.W.Fast.tw8678656420249095894 : Unit := ()
def PySem.W.Fast.tw2806502830148382750 : Unit := ()
def PySem.W.Fast.tw1371746633676278139 : Unit := ()
def PySem.W.Fast.tw3274900277973686063 : Unit := ()
def PySem.W.Fast.tw8686682941735478554 : Unit := ()
def PySem.W.Fast.tw5838169442026410684 : Unit := ()
def PySem.W.Fast.tw4506632113658164201 : Unit := ()
def PySem.W.Fast.tw18276650581936352480 : Unit := ()
def PySem.W.Fast.tw17874445832797650585 : Unit := ()
def PySem.W.Fast.tw18266492719600215437 : Unit := ()
def PySem.W.Fast.tw6962274452166806371 : Unit := ()
def PySem.W.Fast.tw8202126419818989657 : Unit := ()
def PySem.W.Fast.tw4306299493115614597 : Unit := ()
def PySem.W.Fast.tw10892405967363834920 : Unit := ()
def PySem.W.Fast.tw15307774688679823252 : Unit := ()
def PySem.W.Fast.tw7119955544296315946 : Unit := ()
def PySem.W.Fast.tw2724964188168170263 : Unit := ()
def PySem.W.Fast.tw13417083916007882847 : Unit := ()
def PySem.W.Fast.tw9559038634470425440 : Unit := ()
def PySem.W.Fast.tw14199415422131966966 : Unit := ()
def PySem.W.Fast.tw3555325584762287611 : Unit := ()
def PySem.W.Fast.tw16923964756676428399 : Unit := ()
def PySem.W.Fast.tw7256563148026881774 : Unit := ()
def PySem.W.Fast.tw10471027974827031588 : Unit := ()
def PySem.W.Fast.tw13216108774867803366 : Unit := ()
def PySem.W.Fast.tw116462238639240617 : Unit := ()
def PySem.W.Fast.tw14275789334170217457 : Unit := ()
def PySem.W.Fast.tw3172216081421167075 : Unit := ()
def PySem.W.Fast.tw3138994098826991528 : Unit := ()
def PySem.W.Fast.tw12316205423323447590 : Unit := ()
def PySem.W.Fast.tw7495717633429291226 : Unit := ()
def PySem.W.Fast.tw572448220676145728 : Unit := ()
def PySem.W.Fast.tw8866200704714677005 : Unit := ()
def PySem.W.Fast.tw5130973209415197306 : Unit := ()
def PySem.W.Fast.tw1157428637041646853 : Unit := ()
def PySem.W.Fast.tw4394091805751346893 : Unit := ()
def PySem.W.Fast.tw10778431145045332661 : Unit := ()
def PySem.W.Fast.tw11820991244477203460 : Unit := ()
def PySem.W.Fast.tw12197214017194042000 : Unit := ()
def PySem.W.Fast.tw10873534357332051754 : Unit := ()
def PySem.W.Fast.tw5013419789604597382 : Unit := ()
def PySem.W.Fast.tw9150736629606700749 : Unit := ()
def PySem.W.Fast.tw7478748086334950098 : Unit := ()
def PySem.W.Fast.tw3502754484397054512 : Unit := ()
def PySem.W.Fast.tw11868427052994322944 : Unit := ()
def PySem.W.Fast.tw16390917329302583089 : Unit := ()
def PySem.W.Fast.tw12440042987341436366 : Unit := ()
def PySem.W.Fast.tw14378382408990061361 : Unit := ()
def PySem.W.Fast.tw2763226565405882964 : Unit := ()
def PySem.W.Fast.tw3794755917411946837 : Unit := ()
def PySem.W.Fast.tw3657494727336452956 : Unit := ()
def PySem.W.Fast.tw939204278566323491 : Unit := ()
def PySem.W.Fast.tw7622003569528882743 : Unit := ()
def PySem.W.Fast.tw1097905160680108462 : Unit := ()
def PySem.W.Fast.tw12500553261956594802 : Unit := ()
def PySem.W.Fast.tw13165182341382770999 : Unit := ()
def PySem.W.Fast.tw9081169026669059166 : Unit := ()
def PySem.W.Fast.tw5571904516665701399 : Unit := ()
def PySem.W.Fast.tw3255652151334159096 : Unit := ()
def PySem.W.Fast.tw11570313465909016316 : Unit := ()
def PySem.W.Fast.tw13616262973827935820 : Unit := ()
def PySem.W.Fast.tw12798182190795710103 : Unit := ()
def PySem.W.Fast.tw17253714908585705820 : Unit := ()
def PySem.W.Fast.tw3012109724248873275 : Unit := ()
def PySem.W.Fast.tw11833398506926268416 : Unit := ()
def PySem.W.Fast.tw3471672587291807875 : Unit := ()
def PySem.W.Fast.tw10331199823586418638 : Unit := ()
def PySem.W.Fast.tw2491526433282977495 : Unit := ()
def PySem.W.Fast.tw166652128674395503 : Unit := ()
def PySem.W.Fast.tw2542830833587420218 : Unit := ()
def PySem.W.Fast.tw12465664909442695559 : Unit := ()
def PySem.W.Fast.tw11185730761120964369 : Unit := ()
def PySem.W.Fast.tw16480548066118251072 : Unit := ()
open PySem PySem.W PyProof.Rows
set_option maxRecDepth 100000 in
set_option maxHeartbeats 0 in
theorem PySem.Challenge.cw_stonewalker_k32_whereabouts_holds : PySem.Challenge.rw_stonewalker_k32_whereabouts.Holds := by
 w_on;o_law;k_head;(case hw=>w_witness2)
 k_fill
 refine W.walk (l:=PySem.Challenge.rw_stonewalker_k32_whereabouts) rfl rfl (fun w h Y=>PySem.W.kIn_of Y) ?F
 case F=>
  intro w mg fa h KX G hmg
  refine W.all_mk hmg ?T
  constructor
  iterate 15 (refine PySem.W.mg_none_of KX G ?_;k_is)
  refine' ⟨?zC0,?zn0,⟨?zp0,?zq0,?zr0,?zs0⟩,?zm0,?zt0_came,?zt0_held,?zt0_lying,?zt0_room,?zt0_walked,?zt0_web,?zf0_Walker_init,?zf0_Walker_here,?zf0_Walker_go,?zf0_Walker_lay,?zf0_Walker_in_hand,?zf0_Walker_steps⟩
  (case zn0=>unfold L3.CN;k_is)
  (case zp0=>k_is);(case zq0=>k_is);(case zr0=>k_is);(case zs0=>k_is);(case zm0=>(refine PySem.W.mg_of KX G ?_;k_is))
  (case zt0_came=>unfold L2.NoAttr;k_is)
  (case zt0_held=>unfold L2.NoAttr;k_is)
  (case zt0_lying=>unfold L2.NoAttr;k_is)
  (case zt0_room=>unfold L2.NoAttr;k_is)
  (case zt0_walked=>unfold L2.NoAttr;k_is)
  (case zt0_web=>unfold L2.NoAttr;k_is)
  (case zf0_Walker_init=>(refine' W.mk_at ?a_Walker_init ?i_Walker_init ?m_Walker_init ?x_Walker_init ?l_Walker_init ?c_Walker_init ?k_Walker_init;(case a_Walker_init=>k_is);(case i_Walker_init=>k_is);(case m_Walker_init=>k_is);(case x_Walker_init=>k_is);(case l_Walker_init=>k_is);(case c_Walker_init=>k_is);(case k_Walker_init=>k_is)))
  (case zf0_Walker_here=>(refine' W.me_at ?a_Walker_here ?i_Walker_here ?l_Walker_here ?c_Walker_here ?k_Walker_here;(case a_Walker_here=>k_is);(case i_Walker_here=>k_is);(case l_Walker_here=>k_is);(case c_Walker_here=>k_is);(case k_Walker_here=>k_is)))
  (case zf0_Walker_go=>(refine' W.me_at ?a_Walker_go ?i_Walker_go ?l_Walker_go ?c_Walker_go ?k_Walker_go;(case a_Walker_go=>k_is);(case i_Walker_go=>k_is);(case l_Walker_go=>k_is);(case c_Walker_go=>k_is);(case k_Walker_go=>k_is)))
  (case zf0_Walker_lay=>(refine' W.me_at ?a_Walker_lay ?i_Walker_lay ?l_Walker_lay ?c_Walker_lay ?k_Walker_lay;(case a_Walker_lay=>k_is);(case i_Walker_lay=>k_is);(case l_Walker_lay=>k_is);(case c_Walker_lay=>k_is);(case k_Walker_lay=>k_is)))
  (case zf0_Walker_in_hand=>(refine' W.me_at ?a_Walker_in_hand ?i_Walker_in_hand ?l_Walker_in_hand ?c_Walker_in_hand ?k_Walker_in_hand;(case a_Walker_in_hand=>k_is);(case i_Walker_in_hand=>k_is);(case l_Walker_in_hand=>k_is);(case c_Walker_in_hand=>k_is);(case k_Walker_in_hand=>k_is)))
  (case zf0_Walker_steps=>(refine' W.me_at ?a_Walker_steps ?i_Walker_steps ?l_Walker_steps ?c_Walker_steps ?k_Walker_steps;(case a_Walker_steps=>k_is);(case i_Walker_steps=>k_is);(case l_Walker_steps=>k_is);(case c_Walker_steps=>k_is);(case k_Walker_steps=>k_is)))
  iterate 29 (refine' W.fn_at KX G ?a ?l ?c ?k;(case a=>k_is);(case l=>k_is);(case c=>k_is);(case k=>k_is))
