
import PyProof.Rows.All
import Wide.All
import OpenK.AllK
import Wide.FinOn
import Lean
import PyProof.EqAt
import PyProof.EqKinds
import PyProof.TupleCall
import PySem.Challenge.RW_stonewalker_k61_whole_charts_put_right
set_option linter.all false
noncomputable section
def lJa:=@PySem.wpAny_bind
def lJb:=@if_neg
def lJc:=@if_pos
def lJd:=@PySem.wpAny_pure
def lJe:=@List.getElem?_eq_some_iff
def lJf:=@List.length_map
def lJg:=@Nat.le_refl
def lJh:=@List.getElem?_eq_getElem
def lJi:=@PySem.Heap.lt_size
def lJj:=@PySem.Heap.get?_push_of_some
def lJk:=@List.mem_cons
def lJl:=@Bool.false_ne_true
def lJm:=@List.mem_of_getElem?
def lJn:=@Option.some.inj
def lJo:=@decide_eq_false
def lJp:=@Nat.ne_of_lt
def lJq:=@List.size_toArray
def lJr:=@List.getElem?_map
def lJs:=@PySem.PassesOwn.never
def lJt:=@if_false
def lJu:=@PySem.boot_len
def lJv:=@List.map_cons
def lJw:=@Nat.lt_of_lt_of_le
def lJx:=@congrArg
def lJy:=@List.mem_map
def lJz:=@List.getElem?_eq_none
def lJ0:=@Nat.zero_le
def lJ1:=@PySem.Heap.get?_push_size
def lJ2:=@List.not_mem_nil
def lJ3:=@List.mem_range
def lJ4:=@List.getElem?_of_mem
def lJ5:=@List.mem_singleton
def lJ6:=@PySem.wpAny_mono
def lJ7:=@if_true
def lJ8:=@List.mem_cons_of_mem
def lJ9:=@List.length_append
def lKa:=@decide_eq_true
def lKb:=@Nat.le_trans
def lKc:=@PySem.F.plainAttrs_list
def lKd:=@Nat.lt_or_ge
def lKe:=@List.getElem?_append_left
def lKf:=@List.map_map
def lKg:=@List.mem_cons_self
def lKh:=@List.getElem?_set_ne
def lKi:=@List.getElem?_set_self
def lKj:=@List.length_cons
def lKk:=@List.nodup_cons
def lKl:=@Bool.and_eq_true
def lKm:=@List.find?_cons
def lKn:=@List.range_succ
def lKo:=@PySem.wpAny_holding
def lKp:=@Bool.false_eq_true
def lKq:=@List.exists_cons_of_length_eq_add_one
def lKr:=@Nat.succ.inj
def lKs:=@or_false
def lKt:=@List.mem_append
def lKu:=@List.mem_append_right
def lKv:=@PySem.wpAny_field
def lKw:=@List.lookup_cons
def lKx:=@List.append_nil
def lKy:=@PyProof.Rows.callWith_type1
def lKz:=@Int.eq_ofNat_of_zero_le
def lK0:=@List.getD_eq_getElem?_getD
def lK1:=@PySem.wpAny_newObj_type
def lK2:=@PySem.Heap.get?_update_self
def lK3:=@List.any_cons
def lK4:=@Nat.not_lt_zero
def lK5:=@List.filter_cons
def lK6:=@PySem.F.slot_list_append
def lK7:=@PySem.F.type_list_append
def lK8:=@List.replicate_succ
def lK9:=@List.filterMap_append
def lQa:=@List.nodup_append
def lQb:=@PySem.F.store_ValueError
def lQc:=@List.length_range
def lQd:=@List.getElem?_range
def lQe:=@Nat.mod_eq_of_lt
def lQf:=@PySem.sizeLine_eq
def lQg:=@not_not_intro
def lQh:=@List.ext_getElem?
def lQi:=@List.mem_filter
def lQj:=@List.mem_append_left
def lQk:=@List.getElem?_append_right
def lQl:=@List.all_cons
def lQm:=@List.length_eq_zero_iff
def lQn:=@List.all_eq_true
def lQo:=@PySem.wpAny_specialOf
def lQp:=@PySem.wpAny_typeOf
def lQq:=@PySem.Paired.length
def lQr:=@Nat.ne_of_gt
def lQs:=@List.mem_filterMap
def lQt:=@List.length_set
def lQu:=@Nat.succ_mul
def lQv:=@Option.map_some
def lQw:=@PySem.Around.under_plainId
def lQx:=@List.mem_flatMap
def lQy:=@PySem.wpAny_call_entry
def lQz:=@PySem.codeAny_builtin
def lQ0:=@Nat.lt_irrefl
def lQ1:=@List.filterMap_cons
def lQ2:=@PySem.Heap.get?_update_other
def lQ3:=@List.flatten_cons
def lQ4:=@Nat.not_lt
def lQ5:=@List.map_append
def lQ6:=@Nat.mod_lt
def lQ7:=@PySem.wpAny_truthy_bool
def lQ8:=@PySem.wpAny_call
def lQ9:=@PySem.call_meets
def lVa:=@PySem.wpAny_execs_nil
def lVb:=@PySem.wpAny_standAt
def lVc:=@PySem.wpAny_rule
def lVd:=@PySem.wpAny_passesOwn
def lVe:=@PySem.plainId_quiet
def lVf:=@PySem.wpAny_dictEntries
def lVg:=@Array.length_toList
def lVh:=@PySem.mem_of_lookup
def lVi:=@PyProof.Rows.slot_tuple_getitem
def lVj:=@Option.map_eq_some_iff
def lVk:=@PySem.Heap.SameBut.update
def lVl:=@List.take_length
def lVm:=@PySem.F.called_tuple
def lVn:=@List.getElem?_inj
def lVo:=@List.length_filter_le
def lVp:=@Int.emod_nonneg
def lVq:=@Int.emod_lt_of_pos
def lVr:=@PySem.codeAny_mono
def lVs:=@PySem.wpAny_callSpecial?_slot
def lVt:=@eq_false
def lVu:=@Classical.byContradiction
def lVv:=@Array.forIn_toList
def lVw:=@Nat.le_of_lt
def lVx:=@List.length_nil
def lVy:=@PySem.Heap.size_push
def lVz:=@List.length_take
def lV0:=@List.nodup_nil
def lV1:=@List.getElem?_zipWith
def lV2:=@PySem.W.callWith_K
def lV3:=@List.take_succ
def lV4:=@PySem.F.slot_dict_get
def lV5:=@PySem.W.methodCall_KW
def lV6:=@List.pairwise_cons
def lV7:=@List.flatMap_append
def lV8:=@List.getElem_mem
def lV9:=@List.nodup_range
def lXa:=@PySem.F.plainAttrs_dict
def lXb:=@PySem.wpAny_isInstance
def lXc:=@PySem.wpAny_loadPart'
def lXd:=@PySem.wpAny_Call_Name_kw
def lXe:=@PySem.wpAny_execs_cons
def lXf:=@PySem.wpAny_loadPart_at
def lXg:=@Nat.le_of_eq
def lXh:=@Nat.lt_succ_self
def lXi:=@Nat.le_succ
def lXj:=@List.of_mem_zip
def lXk:=@List.getElem?_replicate
def lXl:=@Option.getD_none
def lXm:=@List.reverse_cons
def lXn:=@List.append_assoc
def lXo:=@Nat.mul_comm
def lXp:=@Option.isSome_map
def lXq:=@List.countP_cons
def lXr:=@Option.map_none
def lXs:=@List.length_filterMap_le
def lXt:=@PySem.F.plain_tuple_new
def lXu:=@PySem.F.slot_zip_next
def lXv:=@PySem.F.plain_extend_loop
def lXw:=@Nat.lt_succ_of_lt
def lXx:=@PySem.F.slot_dict_pop
def lXy:=@List.map_take
def lXz:=@List.map_congr_left
def lX0:=@List.any_eq_true
def lX1:=@Nat.mul_le_mul_right
def lX2:=@Option.getD_some
def lX3:=@Prod.mk.inj
def lX4:=@PySem.F.slot_list_index
def lX5:=@PySem.F.type_list_index
def lX6:=@PySem.wpAny_forIn_list
def lX7:=@PySem.wpAny_seqItems
def lX8:=@PySem.wpAny_pyIter_enum
def lX9:=@decide_eq_true_eq
def lYa:=@PySem.wpAny_attempt
def lYb:=@PySem.typeLookup_type
def lYc:=@PySem.builtinLookup_eq_fast
def lYd:=@PySem.wpAny_ite_split
def lYe:=@PySem.wpAny_notOrdered_dict
def lYf:=@PySem.W.hideAll_get
def lYg:=@PySem.Around.in1_units
def lYh:=@PySem.Heap.get?_none_of_le
def lYi:=@List.getElem_inj
def lYj:=@PyProof.noPylong_small
def lYk:=@PySem.W.plainGet_of
def lYl:=@Option.isSome_iff_exists
def lYm:=@PySem.F.slot_tuple_add
def lYn:=@PySem.F.entry_tuple_add
def lYo:=@PySem.F.args_tuple_add_2
def lYp:=@List.length_drop
def lYq:=@List.forIn_cons
def lYr:=@Int.toNat_natCast
def lYs:=@Array.getElem?_eq_getElem
def lYt:=@PySem.F.args_object_init_2
def lYu:=@Nat.lt_trichotomy
def lYv:=@List.pairwise_iff_getElem
def lYw:=@List.eraseIdx_cons_succ
def lYx:=@List.filter_sublist
def lYy:=@PySem.F.excBase_ValueError
def lYz:=@Nat.add_mod_right
def lY0:=@Nat.add_mul_mod_self_right
def lY1:=@List.drop_length
def lY2:=@List.idxOf_lt_length_of_mem
def lY3:=@PySem.F.type_dict_get
def lY4:=@PySem.noFill_tuple_add
def lY5:=@PyProof.Rows.assignInOrder_cons
def lY6:=@PySem.wpAny_pyIter_tuple
def lY7:=@PySem.codeAny_of_tree
def lY8:=@beq_self_eq_true
def lY9:=@PySem.wpAny_updateSeq
def lZa:=@PySem.codeAny_call_builtin
def lZb:=@Int.fdiv_eq_ediv_of_nonneg
def lZc:=@Int.fmod_eq_emod_of_nonneg
def lZd:=@PyProof.Rows.callWith_builtin1
def lZe:=@PySem.F.slot_tuple_iterator_next
def lZf:=@PySem.F.attrBase_ValueError
def lZg:=@PySem.wpAny_letOwnedTupleGo_enum
def lZh:=@PySem.plainObj_wpAny_Assign_Attribute
local macro_rules
 | `(tactic| omega) => `(tactic| lia)
set_option Elab.async false
set_option linter.all false
set_option maxRecDepth 100000
namespace L2
open PySem PySem.Spec PyProof.Rows
abbrev Key:=Sum Int Str
def kVi:Key->Value->Bool
 | .inl k,v=>Value.isInt k v
 | .inr x,v=>Value.isStrOf x v
def keyH(w:World):Key->Int
 | .inl k=>hashInt k
 | .inr x=>hashStr w x
theorem jJ8:∀{k:Key}{v:Value},kVi k v=true->(∃i t,k=Sum.inl i/\v=Value.int i t)\/(∃x t,k=Sum.inr x/\v=Value.str x t)
 | .inl i,v,h=>by
  obtain⟨t,e⟩:=Value.isInt_shape (k:=i) (v:=v) h;exact .inl ⟨i,t,rfl,e⟩
 | .inr x,v,h=>by
  obtain⟨t,e⟩:=Value.isStrOf_shape (x:=x) (v:=v) h;exact .inr ⟨x,t,rfl,e⟩
theorem qQy(i:Int)(t:Tok):kVi (.inl i) (.int i t)=true:=by simp[kVi,Value.isInt]
theorem qQx(x:Str)(t:Tok):kVi (.inr x) (.str x t)=true:=by simp[kVi,Value.isStrOf]
theorem uUi(a b:Int):decide ((Sum.inl a:Key)=Sum.inl b)=(a == b):=by
 by_cases e:a=b
 .subst e;simp
 .have h:¬ (Sum.inl a:Key)=Sum.inl b:=λq=>e (Sum.inl.inj q)
  rw[lJo h];exact (beq_eq_false_iff_ne.mpr e).symm
theorem uUf(a b:Str):decide ((Sum.inr a:Key)=Sum.inr b)=decide (a=b):=by
 by_cases e:a=b
 .subst e;simp
 .have h:¬ (Sum.inr a:Key)=Sum.inr b:=λq=>e (Sum.inr.inj q)
  rw[lJo h,lJo e]
theorem uUh(a:Int)(b:Str):decide ((Sum.inl a:Key)=Sum.inr b)=false:=lJo (λq=>nomatch q)
theorem uUg(a:Str)(b:Int):decide ((Sum.inr a:Key)=Sum.inl b)=false:=lJo (λq=>nomatch q)
noncomputable def jK8(prog:Program)(w:World):PySem.KeyKind prog w Key where
 is:=kVi
 hash:=keyH w
 inj:=λv a b ha hb=>by
  rcases jJ8 ha with ⟨i,t,rfl,rfl⟩ | ⟨x,t,rfl,rfl⟩
  .rcases jJ8 hb with ⟨j,u,rfl,e⟩ | ⟨y,u,rfl,e⟩
   .injection e with e1 _;rw[e1]
   .exact nomatch e
  .rcases jJ8 hb with ⟨j,u,rfl,e⟩ | ⟨y,u,rfl,e⟩
   .exact nomatch e
   .injection e with e1 _;rw[e1]
 byValue:=λk v h=>by
  rcases jJ8 h with ⟨i,t,rfl,rfl⟩ | ⟨x,t,rfl,rfl⟩<;>rfl
 pyHash:=λhv h=>by
  rcases jJ8 hv with ⟨i,t,rfl,rfl⟩ | ⟨x,t,rfl,rfl⟩
  .exact wpAny_pyHash_int h
  .exact wpAny_pyHash_str h
 eqBool:=λhu hv h=>by
  rcases jJ8 hu with ⟨i,t,rfl,rfl⟩ | ⟨x,t,rfl,rfl⟩
  .rcases jJ8 hv with ⟨j,u,rfl,rfl⟩ | ⟨y,u,rfl,rfl⟩
   .rw[uUi] at h;exact wpAny_eqBool_int h
   .rw[uUh] at h;exact SeqAt.EqAt.int_str i t y u _ _ _ _ h
  .rcases jJ8 hv with ⟨j,u,rfl,rfl⟩ | ⟨y,u,rfl,rfl⟩
   .rw[uUg] at h;exact SeqAt.EqAt.str_int x t j u _ _ _ _ h
   .rw[uUf] at h;exact wpAny_eqBool_str h
 «strs» :=λk x t v h=>by
  rcases jJ8 h with ⟨i,u,rfl,e⟩ | ⟨y,u,rfl,e⟩
  .exact nomatch e
  .injection e with e1 _
   subst e1;cases v<;>rfl
theorem kX6(prog:Program)(w:World)(i:Int)(t:Tok):(jK8 prog w).is (.inl i) (.int i t)=true:=qQy i t
theorem kX5(prog:Program)(w:World)(x:Str)(t:Tok):(jK8 prog w).is (.inr x) (.str x t)=true:=qQx x t
end L2
set_option synthInstance.maxSize 1000
namespace L2
open PySem PySem.Spec PyProof.Rows
structure KeyV (prog:Program) (w:World) (K:Type) [DecidableEq K] (c:Nat) where
 is:Heap->K->Value->Prop
 hash:K->Int
 draws:K->Nat
 inj:∀{h:Heap}{v:Value}{x y:K},is h x v->is h y v->x=y
 keeps:∀{h h':Heap}{k:K}{v:Value}{d:Addr}{o:Obj}{es:Array DictEntry}{ep:Nat},is h k v->h.get? d=some o->o.data= .dict es ep->Heap.SameBut d h h'->is h' k v
 hashed:∀{A:Around}{E:Value->Shared->Prop}{s:Shared}{k:K}{v:Value}{Q:Int->Shared->Prop},A.units+c<cLine->is s.heap k v->Q (hash k) {s with toks:=s.toks+draws k}->wpAny (model prog w) A (PySem.pyHash v) Q E s
 eqAt:∀{A:Around}{s:Shared}{x y:K}{u v:Value},A.units+c<cLine->is s.heap x u->is s.heap y v->SeqAt.EqAt A s u v (decide (x=y))
 quiet:∀{A:Around}{E:Value->Shared->Prop}{s:Shared}{k:K}{v:Value}{Q:Bool->Shared->Prop}(n:Nat),c<=n->is s.heap k v->Q true s->wpAny (model prog w) A (eqIsQuiet n v) Q E s
noncomputable def kZ1(prog:Program)(w:World):KeyV prog w Key 0 where
 is:=λ_ k v=>kVi k v=true
 hash:=keyH w
 draws:=λ_=>1
 inj:=λhx hy=>(jK8 prog w).inj _ _ _ hx hy
 keeps:=λx _ _ _=>x
 hashed:=λ_ hv h=>(jK8 prog w).pyHash hv h
 eqAt:=λ_ hx hy prog' w' _ _ h=>(jK8 prog' w').eqBool hx hy h
 quiet:=λn _ hv h=>by rw[eqIsQuiet_byValue n ((jK8 prog w).byValue _ _ hv)];exact lJd h
section
variable {prog:Program}{w:World}{K:Type}[DecidableEq K]{c:Nat}
inductive ItemsV (V:KeyV prog w K c) (h:Heap):List K->List Value->Prop
 | nil:ItemsV V h [] []
 | cons {k:K} {v:Value} {ks:List K} {vs:List Value}:V.is h k v->ItemsV V h ks vs->ItemsV V h (k::ks) (v::vs)
theorem ItemsV.inj{V:KeyV prog w K c}{h:Heap}{x:List K}{vs:List Value}(hx:ItemsV V h x vs):∀{y:List K},ItemsV V h y vs->x=y:=by
 induction hx with
 | nil=>intro y hy;cases hy;rfl
 | cons a _ ih=>intro y hy;cases hy with | cons b t=>rw[V.inj a b,ih t]
theorem ItemsV.length{V:KeyV prog w K c}{h:Heap}{x:List K}{vs:List Value}(hx:ItemsV V h x vs):x.length=vs.length:=by
 induction hx with
 | nil=>rfl
 | cons _ _ ih=>simp[ih]
theorem ItemsV.get{V:KeyV prog w K c}{h:Heap}{x:List K}{vs:List Value}(hx:ItemsV V h x vs):∀{j:Nat}{v:Value},vs[j]? =some v->∃k,x[j]? =some k/\V.is h k v:=by
 induction hx with
 | nil=>intro j v e;simp at e
 | cons a _ ih=>
  intro j v e;cases j with
  | zero=>simp at e;subst e;exact⟨_,rfl,a⟩
  | succ j=>obtain⟨k,h1,h2⟩:=ih (j:=j) (v:=v) (by simpa using e);exact⟨k,by simpa using h1,h2⟩
theorem ItemsV.keeps{V:KeyV prog w K c}{h h':Heap}{x:List K}{vs:List Value}{d:Addr}{o:Obj}{es:Array DictEntry}{ep:Nat}(hx:ItemsV V h x vs)(ho:h.get? d=some o)(hd:o.data= .dict es ep)(hs:Heap.SameBut d h h'):ItemsV V h' x vs:=by
 induction hx with
 | nil=>exact .nil
 | cons a _ ih=>exact .cons (V.keeps a ho hd hs) ih
def qVc(V:KeyV prog w K c)(h:Heap)(ks:List K)(v:Value):Prop:=∃(a:Addr)(o:Obj)(items:Array Value)(n:Nat),v= .ref a/\h.get? a=some o/\o.cls= .type "tuple"/\o.data= .seq items n/\ItemsV V h ks items.toList
theorem uU4:∀(x y:List K),((List.range (min x.length y.length)).all (λj=>decide (x[j]? =y[j]?))&&x.length == y.length)=decide (x=y):=by
 intro x y
 by_cases e:x=y
 .subst e;simp
 .rw[lJo e,Bool.and_eq_false_iff]
  by_cases l:x.length=y.length
  .left
   rw[List.all_eq_false]
   have:∃j:Nat,x[j]? ≠y[j]? :=by
    apply lVu;intro q;exact e (lQh λj=>lVu λz=>q ⟨j,z⟩)
   obtain⟨j,hj⟩:=this;refine⟨j,lJ3.mpr ?_,by simpa using hj⟩
   rcases lKd j (min x.length y.length) with z | z
   .exact z
   .exact absurd (by rw[lJz (by omega),lJz (by omega)]) hj
  .right;simpa using l
noncomputable def jXw(V:KeyV prog w K c):KeyV prog w (List K) (c+2) where
 is:=qVc V
 hash:=λks=>reduceHash (Builtin.Tuple.tupleHashOf (ks.map V.hash))
 draws:=λks=>(ks.map V.draws).sum+1
 inj:=by
  rintro h v x y ⟨a,o,items,n,rfl,ho,_,hd,hi⟩ ⟨a',o',items',n',e,ho',_,hd',hi'⟩;cases e;rw[ho] at ho';cases ho';rw[hd] at hd';cases hd';exact hi.inj hi'
 keeps:=by
  rintro h h' k v d o es ep ⟨a,o',items,n,rfl,ho',hc,hd',hi⟩ ho hd hs
  have ne:a≠d:=by
   rintro rfl;rw[ho] at ho';cases ho';rw[hd] at hd';cases hd'
  exact⟨a,o',items,n,rfl,(hs.2 a ne).trans ho',hc,hd',hi.keeps ho hd hs⟩
 hashed:=by
  rintro A E s ks v Q hu ⟨a,o,items,n,rfl,ho,hc,hd,hi⟩ h;refine PySem.W.pyHash_slot (T:="tuple") ⟨o,ho,hc⟩ F.slot_tuple_hash F.entry_tuple_hash (F.args_tuple_hash_1 _) (beq_builtin_none _) (.inr (by omega)) ?_
  refine (show wpAny _ _ (Builtin.Tuple.tupleItemsOf (.ref a) >>= _) _ _ s from lJa (wpAny_tupleItemsOf ho hd (lJa ?_)))
  rw[<-lVv];refine lX6 _ (λrest (b:Array Int) z=>∃done left,ks=done++left/\ItemsV V s.heap left rest/\b.toList=done.map V.hash/\z={s with toks:=s.toks+(done.map V.draws).sum}) _ ?_ ?_ _ _ ⟨[],ks,rfl,hi,rfl,rfl⟩
  .rintro x rest b z ⟨done,left,rfl,hl,hb,rfl⟩;cases hl with
   | @cons k _ ks' _ h1 hl'=>
    refine lJa (V.hashed (by rw[lYg];omega) h1 ?_)
    first
     | exact lJd ⟨done++[k],ks',by simp,hl',by simp[hb],(by simp[Nat.add_assoc])⟩
     | exact lJa (lJd (lJd ⟨done++[k],ks',by simp,hl',by simp[hb],(by simp[Nat.add_assoc])⟩))
  .rintro b z ⟨done,left,rfl,hl,hb,rfl⟩;cases hl;rw[lKx] at h;refine (show wpAny _ _ (retInt (Builtin.Tuple.tupleHashOf b.toList)) _ _ _ from ?_)
   rw[hb];exact lJa (wpAny_mkInt (lJd ⟨_,_,rfl,by simpa[Nat.add_assoc] using h⟩))
 eqAt:=by
  rintro A s x y u v hu ⟨a,o,items,n,rfl,ho,hc,hd,hi⟩ ⟨a',o',items',n',rfl,ho',hc',hd',hi'⟩
  by_cases e:a=a'
  .subst e;rw[ho] at ho';cases ho';rw[hd] at hd';cases hd';rw[hi.inj hi',lKa rfl];exact SeqAt.EqAt.same _
  .have R:=SeqAt.RcAt.tuples (A:=A) (s:=s) (l:=a) (b:=a') (e:=λj=>decide (x[j]? =y[j]?)) ⟨o,ho,hc,n,hd⟩ ⟨o',ho',hc',n',hd'⟩ (by omega) (λj j1 j2=> ?_)
   .have l1:=hi.length;have l2:=hi'.length;rw[<-uU4 x y,l1,l2];have R':=SeqAt.EqAt.of_refs e R
    simpa using R'
   .obtain⟨k,h1,h2⟩:=hi.get (j:=j) (v:=items[j]) (by simp[j1])
    obtain⟨k',h1',h2'⟩:=hi'.get (j:=j) (v:=items'[j]) (by simp[j2])
    have:=V.eqAt (A:=A.in1) (s:=s) (by rw[lYg];omega) h2 h2'
    rw[h1,h1']
    simpa using this
 quiet:=by
  rintro A E s ks v Q n hn ⟨a,o,items,m,rfl,ho,hc,hd,hi⟩ h;obtain⟨n,rfl⟩:∃nn,n=nn+1:=⟨n-1,by omega⟩
  have hT:s.TypeIs (.ref a) "tuple":=⟨o,ho,hc⟩;unfold eqIsQuiet;refine lJa (lQo hT F.slot_tuple_eq.lookup ?_);refine (show wpAny _ _ (isInstance (.ref a) (.type "tuple") >>= _) _ _ s from lJa (lXb hT isSubtype_tuple_tuple ?_))
  simp only[lJt,Bool.not_true,lKp];refine lJa (lX7 ho hd (lJa ?_));refine (show wpAny _ _ (forIn items _ _) _ _ s from ?_)
  rw[<-lVv];refine lX6 _ (λrest r z=>r.1=none/\z=s/\∃left,ItemsV V s.heap left rest) _ ?_ ?_ _ _ ⟨rfl,rfl,ks,hi⟩
  .rintro x rest r z ⟨hr,rfl,left,hl⟩;cases hl with
   | cons h1 hl'=>
    refine lJa (V.quiet n (by omega) h1 ?_)
    simp only[lJt,Bool.not_true,lKp];exact lJd ⟨rfl,rfl,_,hl'⟩
  .rintro⟨r1,r2⟩ z ⟨hr,rfl,_⟩;simp only at hr;subst hr;exact lJd h
theorem uKe{α β:Type}[DecidableEq α][DecidableEq β](a b:α):decide ((Sum.inl a:α ⊕ β)=Sum.inl b)=decide (a=b):=by
 by_cases e:a=b
 .simp[e]
 .rw[lJo e,lJo λz=>e (Sum.inl.inj z)]
theorem uKd{α β:Type}[DecidableEq α][DecidableEq β](a b:β):decide ((Sum.inr a:α ⊕ β)=Sum.inr b)=decide (a=b):=by
 by_cases e:a=b
 .simp[e]
 .rw[lJo e,lJo λz=>e (Sum.inr.inj z)]
noncomputable def uQa(V:KeyV prog w K c):KeyV prog w (Key ⊕ List K) (c+2) where
 is:=λh k v=>match k with
  | .inl k=>kVi k v=true
  | .inr ks=>qVc V h ks v
 hash:=λk=>match k with
  | .inl k=>keyH w k
  | .inr ks=>(jXw V).hash ks
 draws:=λk=>match k with
  | .inl _=>1
  | .inr ks=>(jXw V).draws ks
 inj:=by
  rintro h v (x | x) (y | y) hx hy
  .rw[(jK8 prog w).inj _ _ _ hx hy]
  .obtain⟨a,_,_,_,rfl,_⟩:=hy
   rcases jJ8 hx with ⟨i,t,_,e⟩ | ⟨i,t,_,e⟩<;>cases e
  .obtain⟨a,_,_,_,rfl,_⟩:=hx
   rcases jJ8 hy with ⟨i,t,_,e⟩ | ⟨i,t,_,e⟩<;>cases e
  .rw[(jXw V).inj hx hy]
 keeps:=by
  rintro h h' (k | k) v d o es ep hx ho hd hs
  .exact hx
  .exact (jXw V).keeps hx ho hd hs
 hashed:=by
  rintro A E s (k | k) v Q hu hx h
  .exact (jK8 prog w).pyHash hx h
  .exact (jXw V).hashed hu hx h
 eqAt:=by
  rintro A s (x | x) (y | y) u v hu hx hy
  .rw[uKe];exact (kZ1 prog w).eqAt (by omega) hx hy
  .rw[lJo λz=>nomatch z]
   obtain⟨a,o,items,n,rfl,ho,hc,hd,_⟩:=hy
   rcases jJ8 hx with ⟨i,t,_,rfl⟩ | ⟨i,t,_,rfl⟩
   .exact SeqAt.EqAt.int_tuple i t ⟨o,ho,hc,n,hd⟩ (by omega)
   .exact SeqAt.EqAt.str_tuple i t ⟨o,ho,hc,n,hd⟩ (by omega)
  .rw[lJo λz=>nomatch z]
   obtain⟨a,o,items,n,rfl,ho,hc,hd,_⟩:=hx
   rcases jJ8 hy with ⟨i,t,_,rfl⟩ | ⟨i,t,_,rfl⟩
   .exact SeqAt.EqAt.tuple_int i t ⟨o,ho,hc,n,hd⟩ (by omega)
   .exact SeqAt.EqAt.tuple_str i t ⟨o,ho,hc,n,hd⟩ (by omega)
  .rw[uKd];exact (jXw V).eqAt hu hx hy
 quiet:=by
  rintro A E s (k | k) v Q n hn hx h
  .exact (kZ1 prog w).quiet n (lJ0 _) hx h
  .exact (jXw V).quiet n hn hx h
end
abbrev K1:=Key ⊕ List Key
abbrev K2:=Key ⊕ List K1
abbrev TKey:=List K2
def vk1(prog:Program)(w:World):KeyV prog w K1 2:=uQa (kZ1 prog w)
def vk2(prog:Program)(w:World):KeyV prog w K2 4:=uQa (vk1 prog w)
noncomputable def jKn(prog:Program)(w:World):HeapKind prog w TKey where
 is:=λh ks a=>(jXw (vk2 prog w)).is h ks (.ref a)
 hash:=(jXw (vk2 prog w)).hash
 draws:=(jXw (vk2 prog w)).draws
 room:=λA=>A.units+6<cLine
 inj:=λhx hy=>(jXw (vk2 prog w)).inj hx hy
 keeps:=λx ho hd hs=>(jXw (vk2 prog w)).keeps x ho hd hs
 pyHash:=λhu hk h=>(jXw (vk2 prog w)).hashed hu hk h
 eqBool:=λhu hx hy h=>(jXw (vk2 prog w)).eqAt hu hx hy _ _ _ _ h
 quiet:=λhk h=>(jXw (vk2 prog w)).quiet 8 (by decide) hk h
theorem jJ0{prog:Program}{w:World}{A:Around}(hu:A.units+20<cLine):(jKn prog w).room A.in1:=by
 show A.in1.units+6<cLine
 rw[lYg];omega
inductive V where
 | non | bl (b:Bool) | int (i:Int) | str (x:Str) | byt (b:Array UInt8) | flt (b:UInt64) | ref (a:Addr) | ty (n:String)
 deriving DecidableEq
noncomputable def RelV:V->Value->Prop
 | .non,u=>u=Value.none
 | .bl b,u=>u=Value.bool b
 | .int i,u=>∃t,u=Value.int i t
 | .str x,u=>∃t,u=Value.str x t
 | .byt b,u=>∃t,u=Value.bytes b t
 | .flt b,u=>∃t,u=Value.float b t
 | .ref a,u=>u=Value.ref a
 | .ty n,u=>u=Value.type n
abbrev Vals:List V->List Value->Prop:=Paired RelV
theorem Vals.length{xs:List V}{us:List Value}(r:Vals xs us):xs.length=us.length:=lQq r
theorem Vals.get:∀{xs:List V}{us:List Value}{i:Nat}{x:V},Vals xs us->xs[i]? =some x->∃u,us[i]? =some u/\RelV x u
 | _,_,_,_,.nil,e=>by simp at e
 | _,_,0,_,.cons r _,e=>by simp at e;subst e;exact⟨_,rfl,r⟩
 | _,_,i+1,x,.cons _ t,e=>by
  obtain⟨u,h1,h2⟩:=Vals.get (i:=i) (x:=x) t (by simpa using e)
  exact⟨u,by simpa using h1,h2⟩
theorem Vals.set{x:V}{u:Value}(r:RelV x u):∀{xs:List V}{us:List Value}(i:Nat),Vals xs us->Vals (xs.set i x) (us.set i u)
 | _,_,_,.nil=> .nil
 | _,_,0,.cons _ t=> .cons r t
 | _,_,i+1,.cons q t=> .cons q (Vals.set r i t)
theorem Vals.append:∀{xs ys:List V}{us ws:List Value},Vals xs us->Vals ys ws->Vals (xs++ys) (us++ws)
 | _,_,_,_,.nil,s=>s
 | _,_,_,_,.cons r t,s=> .cons r (Vals.append t s)
theorem Vals.take:∀{xs:List V}{us:List Value}(n:Nat),Vals xs us->Vals (xs.take n) (us.take n)
 | _,_,0,_=> .nil
 | _,_,_+1,.nil=> .nil
 | _,_,n+1,.cons r t=> .cons r (Vals.take n t)
theorem Vals.drop:∀{xs:List V}{us:List Value}(n:Nat),Vals xs us->Vals (xs.drop n) (us.drop n)
 | _,_,0,r=>r
 | _,_,_+1,.nil=> .nil
 | _,_,n+1,.cons _ t=>Vals.drop n t
def RelO:Option V->Option Value->Prop
 | some v,some u=>RelV v u
 | none,none=>True
 | _,_=>False
def KV{κ:Type}:List (κ×V)->List (κ×Value)->Prop:=Paired λ(p:κ×V)(q:κ×Value)=>p.1=q.1/\RelV p.2 q.2
def kV:Key->V
 | .inl i=> .int i
 | .inr x=> .str x
inductive HO where
  | lst (xs:List V)
  | tup (xs:List V)
  | dK (kvs:List (Key×V)) | dT (kvs:List (TKey×V))
  | set (S:Int->Bool) (n:Nat)
  | ins (C dx:Addr) (fs:List (Str×V))
  | own (x:Addr)
  | xd (fs:List (Str×V))
  | met (f x:Addr)
  | rng (lo hi:Int)
  | frz (o:Obj) (u:HO)
  | tbl (ps:Array Value)
  | ext (φ:Heap->Prop)
abbrev Hp:=Addr->Option HO
def upd(H:Hp)(a:Addr)(o:HO):Hp:=λb=>if b=a then some o else H b
theorem jJy{H:Hp}{a:Addr}{o:HO}:upd H a o a=some o:=by unfold upd;rw[lJc rfl]
theorem jJt{H:Hp}{a b:Addr}{o:HO}(h:b≠a):upd H a o b=H b:=by unfold upd;rw[lJb h]
theorem uUa{H:Hp}{a b:Addr}{o u:HO}(h:H a=some o)(h':H b=some u)(d:o≠u):a≠b:=by
 intro e;subst e;rw[h] at h';exact d (lJn h')
theorem jKf{H:Hp}{a b:Addr}{o:HO}(h:H a=some o)(h':H b=none):a≠b:=by
 intro e;subst e;rw[h] at h';cases h'
def Rk1(H:Hp)(k:K1)(v:V):Prop:=match k with
 | .inl k=>v=kV k
 | .inr ks=>∃p vs,v= .ref p/\H p=some (.tup vs)/\Paired (λk v=>v=kV k) ks vs
def Rk2(H:Hp)(k:K2)(v:V):Prop:=match k with
 | .inl k=>v=kV k
 | .inr ks=>∃p vs,v= .ref p/\H p=some (.tup vs)/\Paired (Rk1 H) ks vs
def TKeyAt(H:Hp)(ks:TKey)(a:Addr):Prop:=∃vs,H a=some (.tup vs)/\Paired (Rk2 H) ks vs
theorem jX6{α β:Type}{F G:α->β->Prop}(f:∀a b,F a b->G a b):∀{l:List α}{m:List β},Paired F l m->Paired G l m
 | _,_,.nil=> .nil
 | _,_,.cons r t=> .cons (f _ _ r) (jX6 f t)
theorem Rk1.mono{H H':Hp}(ht:∀b ys,H b=some (.tup ys)->H' b=some (.tup ys))(k:K1)(v:V)(r:Rk1 H k v):Rk1 H' k v:=by
 cases k with
 | inl k=>exact r
 | inr ks=>obtain⟨p,vs,e,h,t⟩:=r;exact⟨p,vs,e,ht _ _ h,t⟩
theorem Rk2.mono{H H':Hp}(ht:∀b ys,H b=some (.tup ys)->H' b=some (.tup ys))(k:K2)(v:V)(r:Rk2 H k v):Rk2 H' k v:=by
 cases k with
 | inl k=>exact r
 | inr ks=>obtain⟨p,vs,e,h,t⟩:=r;exact⟨p,vs,e,ht _ _ h,jX6 (Rk1.mono ht) t⟩
theorem TKeyAt.mono{H H':Hp}{ks:TKey}{a:Addr}(r:TKeyAt H ks a)(ht:∀b ys,H b=some (.tup ys)->H' b=some (.tup ys)):TKeyAt H' ks a:=by
 obtain⟨vs,h,t⟩:=r;exact⟨vs,ht _ _ h,jX6 (Rk2.mono ht) t⟩
section
variable (P:Program)(w:World)
def TupD(h:Heap)(a:Addr)(items:Array Value):Prop:=∃o,h.get? a=some o/\o.cls= .type "tuple"/\∃n,o.data= .seq items n/\o.dict=none
theorem TupD.is{h:Heap}{a:Addr}{items:Array Value}(x:TupD h a items):IsTup h a items:=let ⟨o,e,c,n,d,_⟩:=x;⟨o,e,c,n,d⟩
theorem TupD.new(h:Heap)(items:Array Value):TupD (h.push {cls:= .type "tuple",data:= .seq items}) h.objs.size items:=⟨_,lJ1 _ rfl,rfl,_,rfl,rfl⟩
noncomputable def ObjOk(H:Hp)(h:Heap)(a:Addr):HO->Prop
 | .lst xs=>xs.length<=sizeLine/\∃(its:List Value)(n:Nat),Vals xs its/\h.get? a=some {cls:= .type "list",data:= .seq its.toArray n}
 | .tup xs=>xs.length<=sizeLine/\∃its:List Value,Vals xs its/\TupD h a its.toArray
 | .dK kvs=>kvs.length<=sizeLine/\(a == sysModules)=false/\∃vs,KV kvs vs/\h.DictOf (jK8 P w) a vs
 | .dT kvs=>kvs.length<=sizeLine/\(a == sysModules)=false/\∃xs:List (TKey×Addr×Value),
   Paired (λ(p:TKey×V)(q:TKey×Addr×Value)=>p.1=q.1/\TKeyAt H p.1 q.2.1/\RelV p.2 q.2.2) kvs xs/\
   ∃o es ep,h.get? a=some o/\o.ExactDict/\o.data= .dict es ep/\es.toList=xs.map (entryOfKey (jKn P w))/\(xs.map (·.1)).Nodup
 | .set S n=>h.SetOf (intKind P w) a S n
 | .ins C dx fs=>H dx=some (.own a)/\fs.length<=1000/\dx≠a/\h.get? a=some (PySem.W.instObj C dx)/\
   ∃mA,h.Ns1 dx mA/\(∀f,RelO (fs.lookup f) (mA f))/\PySem.Within mA (fs.map (·.1))
 | .own _=>∃o,h.get? a=some o
 | .xd fs=>∃mA,h.Ns1 a mA/\∀f,RelO (fs.lookup f) (mA f)
 | .rng lo hi=>∃t u v,h.get? a=some {cls:= .type "range",data:= .fields #[.int lo t,.int hi u,.int 1 v]}
 | .frz o u=>h.get? a=some o/\ObjOk H h a u
 | .tbl ps=>h.get? a=some {cls:= .none,data:= .fields ps}
 | .met f x=>h.get? a=some (PySem.W.methodObj (.ref f) (.ref x))
 | .ext φ=>φ h/\(∃o,h.get? a=some o)/\∀h1 h2:Heap,φ h1->(∀o,h1.get? a=some o->h2.get? a=some o)->φ h2
def HOk(H:Hp)(h:Heap):Prop:=∀a o,H a=some o->ObjOk P w H h a o
end
section
variable {P:Program}{w:World}{H H':Hp}{h h':Heap}{a:Addr}{o:HO}
theorem ObjOk.lt(x:ObjOk P w H h a o):a<h.objs.size:=by
 cases o with
 | lst xs=>obtain⟨_,_,_,_,e⟩:=x;exact lJi e
 | tup xs=>obtain⟨_,_,_,p⟩:=x;exact p.is.lt
 | dK kvs=>obtain⟨_,_,_,_,o,_,_,e,_⟩:=x;exact lJi e
 | dT kvs=>obtain⟨_,_,_,_,o,_,_,e,_⟩:=x;exact lJi e
 | set S n=>obtain⟨o,_,_,_,e,_⟩:=x;exact lJi e
 | ins C dx fs=>obtain⟨_,_,_,e,_⟩:=x;exact lJi e
 | own y=>obtain⟨_,e⟩:=x;exact lJi e
 | xd fs=>obtain⟨_,⟨_,_,_,e,_⟩,_⟩:=x;exact lJi e
 | rng lo hi=>obtain⟨_,_,_,e⟩:=x;exact lJi e
 | frz ob u=>obtain⟨e,_⟩:=x;exact lJi e
 | tbl ps=>exact lJi (show h.get? a=some _ from x)
 | met f y=>exact lJi (show h.get? a=some _ from x)
 | ext φ=>obtain⟨_,⟨_,e⟩,_⟩:=x;exact lJi e
theorem Paired.mapP{α β:Type}{F G:α->β->Prop}:∀{l₁:List α}{l₂:List β},Paired F l₁ l₂->(∀a b,F a b->G a b)->Paired G l₁ l₂
 | _,_,.nil,_=> .nil
 | _,_,.cons r t,f=> .cons (f _ _ r) (Paired.mapP t f)
theorem ObjOk.stay(x:ObjOk P w H h a o)(k:∀b u,(b=a\/H b=some (.own a))->h.get? b=some u->h'.get? b=some u)
  (ho:∀b,H b=some (.own a)->H' b=some (.own a)) (ht:∀b xs,H b=some (.tup xs)->H' b=some (.tup xs)):ObjOk P w H' h' a o:=by
 induction o with
 | lst xs=>obtain⟨z,its,n,r,e⟩:=x;exact⟨z,its,n,r,k _ _ (.inl rfl) e⟩
 | tup xs=>obtain⟨z,its,r,ob,e,c⟩:=x;exact⟨z,its,r,ob,k _ _ (.inl rfl) e,c⟩
 | dK kvs=>obtain⟨z,y,vs,r,ob,es,ep,e,c⟩:=x;exact⟨z,y,vs,r,ob,es,ep,k _ _ (.inl rfl) e,c⟩
 | dT kvs=>
  obtain⟨z,y,xs,r,ob,es,ep,e,c⟩:=x;exact⟨z,y,xs,Paired.mapP r λp q z=>⟨z.1,z.2.1.mono ht,z.2.2⟩,ob,es,ep,k _ _ (.inl rfl) e,c⟩
 | set S n=>obtain⟨ob,es,ep,t,e,c⟩:=x;exact⟨ob,es,ep,t,k _ _ (.inl rfl) e,c⟩
 | ins C dx fs=>
  obtain⟨d,z,ne,e,mA,⟨od,es,ep,e2,c⟩,r⟩:=x;exact⟨ho _ d,z,ne,k _ _ (.inl rfl) e,mA,⟨od,es,ep,k _ _ (.inr d) e2,c⟩,r⟩
 | own y=>obtain⟨ob,e⟩:=x;exact⟨ob,k _ _ (.inl rfl) e⟩
 | xd fs=>obtain⟨mA,⟨od,es,ep,e,c⟩,r⟩:=x;exact⟨mA,⟨od,es,ep,k _ _ (.inl rfl) e,c⟩,r⟩
 | rng lo hi=>obtain⟨t,u,v,e⟩:=x;exact⟨t,u,v,k _ _ (.inl rfl) e⟩
 | frz ob u ih=>obtain⟨e,q⟩:=x;exact⟨k _ _ (.inl rfl) e,ih q⟩
 | tbl ps=>
  have e:h.get? a=some {cls:= .none,data:= .fields ps}:=x;show h'.get? a=some {cls:= .none,data:= .fields ps}
  exact k a _ (.inl rfl) e
 | met f y=>
  have e:h.get? a=some (PySem.W.methodObj (.ref f) (.ref y)):=x;show h'.get? a=some (PySem.W.methodObj (.ref f) (.ref y))
  exact k a _ (.inl rfl) e
 | ext φ=>obtain⟨p,⟨o,e⟩,st⟩:=x;exact⟨st _ _ p λo q=>k _ _ (.inl rfl) q,⟨o,k _ _ (.inl rfl) e⟩,st⟩
theorem HOk.lt(x:HOk P w H h)(e:H a=some o):a<h.objs.size:=(x a o e).lt
theorem HOk.fresh(x:HOk P w H h)(e:h.objs.size<=a):H a=none:=by
 cases q:H a with
 | none=>rfl
 | some u=>exact absurd (lJw (x.lt q) e) (lQ0 _)
theorem HOk.kept(x:HOk P w H h)(k:∀b u,h.get? b=some u->h'.get? b=some u):HOk P w H h':=λa o e=>
 (x a o e).stay (λb u _ q=>k b u q) (λ_ q=>q) λ_ _ q=>q
theorem HOk.laid(x:HOk P w H h)(k:∀b u,h.get? b=some u->h'.get? b=some u)(hp:h.objs.size<=a)(new:ObjOk P w (upd H a o) h' a o):HOk P w (upd H a o) h':=λb u e=>by
 have hn:=x.fresh hp
 by_cases hb:b=a
 .subst hb;rw[jJy] at e;cases e;exact new
 .rw[jJt hb] at e;exact (x b u e).stay (λc v _ q=>k c v q) (λc q=>by rw[jJt (jKf q hn)];exact q) λc xs q=>by rw[jJt (jKf q hn)];exact q
end
def Rd(H:Hp)(a:Addr)(u:HO):Prop:=H a=some u\/∃o,H a=some (.frz o u)
theorem Rd.ok{P:Program}{w:World}{H:Hp}{h:Heap}{a:Addr}{u:HO}(r:Rd H a u)(x:HOk P w H h):ObjOk P w H h a u:=by
 rcases r with r | ⟨o,r⟩
 .exact x a u r
 .obtain⟨_,q⟩:=x a _ r;exact q
def Mut:Option HO->Prop
 | some (.lst _)=>True
 | some (.dK _)=>True
 | some (.dT _)=>True
 | some (.set _ _)=>True
 | some (.ins _ _ _)=>True
 | some (.ext _)=>True
 | _=>False
section
variable {P:Program}{w:World}{H:Hp}{h h':Heap}{x e:Addr}{o':HO}
theorem HOk.write(ok:HOk P w H h)(mu:Mut (H x))(he:e=x\/H e=some (.own x))(k:∀b u,b≠e->h.get? b=some u->h'.get? b=some u)(heo:∃u,h'.get? e=some u)
  (new:ObjOk P w (upd H x o') h' x o'):HOk P w (upd H x o') h':=λb u q=>by
 have nown:∀c y,H c=some (.own y)->c≠x:=λc y r z=>by subst z;rw[r] at mu;exact mu
 have ntup:∀c xs,H c=some (.tup xs)->c≠x:=λc xs r z=>by subst z;rw[r] at mu;exact mu
 by_cases hb:b=x
 .subst hb;rw[jJy] at q;cases q;exact new
 .rw[jJt hb] at q
  by_cases hbe:b=e
  .have q':H b=some (.own x):=by
    rcases he with z | z
    .exact absurd (hbe.trans z) hb
    .rw[hbe];exact z
   rw[q] at q';cases q';obtain⟨v,hv⟩:=heo;exact⟨v,by rw[hbe];exact hv⟩
  .refine (ok b u q).stay (λc v hc r=>k c v ?_ r) (λc r=>by rw[jJt (nown c b r)];exact r) λc xs r=>by rw[jJt (ntup c xs r)];exact r
   rcases hc with rfl | hc
   .exact hbe
   .rintro rfl
    rcases he with z | z
    .exact nown c b hc z
    .rw[hc] at z;cases z;exact hb rfl
end
structure Un (fs ex:List Addr) (H H':Hp) (h h':Heap):Prop where
 keep:∀b o,h.get? b=some o->H b=none->b∉fs->b∉ex->h'.get? b=some o
 slot:∀b o,h.get? b=some o->H b=none->b∈fs->b∉ex->∃sl,h'.get? b=some {o with slots:=sl}
 free:∀b o,h.get? b=some o->H b=none->b∉ex->H' b=none
 there:∀b o,h.get? b=some o->b∉ex->∃o',h'.get? b=some o'
 tups:∀b xs,H b=some (.tup xs)->H' b=some (.tup xs)
 frzs:∀b o u,H b=some (.frz o u)->H' b=some (.frz o u)
 tbls:∀b ps,H b=some (.tbl ps)->∃more,H' b=some (.tbl (ps++more))
section
variable {fs fs' ex ex':List Addr}{H H1 H2:Hp}{h h1 h2 h':Heap}{a x e:Addr}{o:HO}
theorem Un.any(u:Un fs ex H H1 h h1){b:Addr}{ob:Obj}(q:h.get? b=some ob)(n:H b=none)(hx:b∉ex):∃sl,h1.get? b=some {ob with slots:=sl}:=by
 by_cases hb:b∈fs
 .exact u.slot b ob q n hb hx
 .exact⟨ob.slots,u.keep b ob q n hb hx⟩
theorem Un.kept(k:∀b u,h.get? b=some u->h'.get? b=some u):Un fs ex H H h h':=
 ⟨λb ob q _ _ _=>k b ob q,λb ob q _ _ _=>⟨ob.slots,k b ob q⟩,λ_ _ _ n _=>n,λb ob q _=>⟨ob,k b ob q⟩,λ_ _ q=>q,λ_ _ _ q=>q,λ_ ps q=>⟨#[],by rw[q];simp⟩⟩
theorem Un.refl:Un fs ex H H h h:=Un.kept λ_ _ q=>q
theorem Un.laid(k:∀b u,h.get? b=some u->h'.get? b=some u)(hp:h.objs.size<=a)(hn:H a=none):Un fs ex H (upd H a o) h h' where
 keep:=λb u q _ _ _=>k b u q
 slot:=λb u q _ _ _=>⟨u.slots,k b u q⟩
 free:=λb u q n _=>by rw[jJt (lJp (lJw (lJi q) hp))];exact n
 there:=λb u q _=>⟨u,k b u q⟩
 tups:=λb xs q=>by rw[jJt (jKf q hn)];exact q
 frzs:=λb u xs q=>by rw[jJt (jKf q hn)];exact q
 tbls:=λb ps q=>⟨#[],by rw[jJt (jKf q hn),q];simp⟩
theorem Un.write(mu:Mut (H x))(he:e=x\/H e=some (.own x))(k:∀b u,b≠e->h.get? b=some u->h'.get? b=some u)(heo:∃u,h'.get? e=some u):Un fs ex H (upd H x o) h h':=by
 have hx:∀b,H b=none->b≠x:=λb n z=>by subst z;rw[n] at mu;exact mu
 have hb:∀b,H b=none->b≠e:=λb n z=>by
  subst z
  rcases he with r | r
  .exact hx b n r
  .rw[n] at r;cases r
 have hm:∀b u,H b=some u->¬ Mut (some u)->b≠x:=λb u q nm z=>by subst z;rw[q] at mu;exact nm mu
 refine⟨λb u q n _ _=>k b u (hb b n) q,λb u q n _ _=>⟨u.slots,k b u (hb b n) q⟩,λb u q n _=>by rw[jJt (hx b n)];exact n,λb u q _=> ?_,
  λb xs q=>by rw[jJt (hm b _ q λz=>z)];exact q,λb u xs q=>by rw[jJt (hm b _ q λz=>z)];exact q,λb ps q=>⟨#[],by rw[jJt (hm b _ q λz=>z),q];simp⟩⟩
 by_cases hbe:b=e
 .subst hbe;exact heo
 .exact⟨u,k b u hbe q⟩
end
def trk(h:Heap)(H:Hp):List Addr:=(List.range h.objs.size).filter λa=>(H a).isSome
def hidT(h:Heap)(H:Hp):Heap:=PySem.W.hideAll h (trk h H)
theorem qUa(h:Heap)(H:Hp):(hidT h H).objs.size=h.objs.size:=PySem.W.hideAll_size _ _
theorem qX6{h:Heap}{H:Hp}{b:Addr}{o:Obj}(e:h.get? b=some o)(n:H b=none):(hidT h H).get? b=some o:=
 PySem.W.hideAll_get _ e λhm=>by
  have q:(H b).isSome=true:=(lQi.mp hm).2;rw[n] at q;simp at q
theorem uJi{h:Heap}{H:Hp}{b:Addr}{o:Obj}(e:(hidT h H).get? b=some o):h.get? b=some o/\H b=none:=by
 have e':h.get? b=some o:=PySem.W.of_hideAll (trk h H) e;refine⟨e',?_⟩;cases q:H b with
 | none=>rfl
 | some x=>
  have hm:b∈trk h H:=lQi.mpr ⟨lJ3.mpr (lJi e'),by simp[q]⟩
  have z:(hidT h H).get? b=none:=PySem.W.hideAll_none (trk h H) hm;rw[z] at e;cases e
def uKp(g h:Heap)(L:Addr):List (Addr×Obj):=(List.range h.objs.size).filterMap λa=>if a=L\/(g.get? a).isSome=true then none else (h.get? a).map λo=>(a,o)
def rest(g h:Heap)(L d:Addr):List (Addr×Obj):=(uKp g h L).filter λp=>decide (p.1≠d)
structure Mod (K:PySem.W.Frag) (mg:Str->Option Value) (base:Heap):Prop where
 kin:K.In base
 glob:base.Ns mainGlobals mg
 blt:∃mb,base.Ns builtinsNs mb/\∀x:Str,x≠"__name__"->mb x=bootBuiltins x
 nolimit:base.NoLimit
structure Cx where
 prog:Program
 w:World
 K:PySem.W.Frag
 mg:Str->Option Value
 base:Heap
 A:Around
 N:List Str
 s₀:Shared
 H₀:Hp
 env:Env
 outer:List Env
 stack:List Env
 ex:List Addr
 fn:Str->Bool
 calm:Bool
 pn:List (Addr×Obj)
 xe:Value->Shared->Prop
def frs(l:List Env):List Addr:=l.filterMap (·.frame)
abbrev Cx.fs(X:Cx):List Addr:=frs X.outer
def Vis(sc:Scope)(x:Str):Prop:=sc.names.lookup x=some .local\/sc.names.lookup x=some .cell\/sc.names.lookup x=some .free
def Loc(sc:Scope)(x:Str):Prop:=sc.names.lookup x=some .local\/sc.names.lookup x=some .cell
def Look(env:Env)(h:Heap)(m:Str->Option Value)(x:Str)(u:Value):Prop:=
 (env.kindOf x=some .local/\m x=some u)\/((env.kindOf x=some .cell\/env.kindOf x=some .free)/\∃c,env.cells.lookup x=some c/\h.IsCell c (some u))
structure Cx.Ok (X:Cx):Prop where
 mod:Mod X.K X.mg X.base
 kind:X.env.scope.kind= .function
 glob:X.env.globals=mainGlobals
 blt:X.env.builtins=builtinsNs
 above:X.s₀.heap.objs.size<=X.env.locals
 inj:∀x y c,X.env.cells.lookup x=some c->X.env.cells.lookup y=some c->x=y
 has:∀x,(X.env.kindOf x=some .cell\/X.env.kindOf x=some .free)->∃c,X.env.cells.lookup x=some c
 cab:∀x c,X.fn x=true->X.env.cells.lookup x=some c->X.s₀.heap.objs.size<=c
 hd:X.calm=true->X.A.handled=none
 gd:X.calm=true->X.A.guards=some []
 frames:X.A.frames=some X.stack
 stk:X.stack=X.outer\/(X.stack=X.env::X.outer/\X.env.frame=some X.env.locals)
 exf:∀b∈X.ex,b≠X.env.locals/\∀x c,X.env.cells.lookup x=some c->c≠b
 bs:∀b o,X.base.get? b=some o->X.s₀.heap.get? b=some o/\X.H₀ b=none
 bsz:X.base.objs.size<=X.s₀.heap.objs.size
 noex:∀b o,X.base.get? b=some o->b∉X.ex
 exfs:∀b∈X.ex,b∉X.fs
 funs:X.s₀.heap.FunFrames X.base X.outer
 frf:∀b∈X.fs,X.H₀ b=none
structure Inv (X:Cx) (pins:List (Addr×Obj)) (σ:List (Option V)) (H:Hp) (s:Shared):Prop where
 ok:X.Ok
 os:s.os=X.s₀.os
 bare:AllBare s.gens
 base:Un X.fs X.ex X.H₀ H X.s₀.heap s.heap
 loc:∃m,s.heap.Ns X.env.locals m/\∀(i:Nat)(x:Str)(v:V),X.N[i]? =some x->σ[i]? =some (some v)->Vis X.env.scope x->∃u,RelV v u/\Look X.env s.heap m x u
 cell:∀x c,X.env.cells.lookup x=some c->∃v,s.heap.IsCell c v
 free:H X.env.locals=none
 freeC:∀x c,X.env.cells.lookup x=some c->H c=none
 pin:∀p∈X.pn++pins,s.heap.get? p.1=some p.2/\H p.1=none/\p.1≠X.env.locals/\p.1∉X.fs/\∀v,p.2.data≠ .cell v
 hok:HOk X.prog X.w H s.heap
 len:σ.length=X.N.length
section
variable {X:Cx}{pins:List (Addr×Obj)}{σ:List (Option V)}{H H':Hp}{s:Shared}{h':Heap}
theorem Cx.Ok.nofr(ok:X.Ok){b:Addr}{o:Obj}(e:X.base.get? b=some o):b∉X.fs:=λhb=>by
 have:=(ok.funs.mem hb).1;rw[e] at this;cases this
theorem Inv.bs(I:Inv X pins σ H s):∀b o,X.base.get? b=some o->s.heap.get? b=some o/\H b=none:=λb o e=>
 ⟨I.base.keep b o (I.ok.bs b o e).1 (I.ok.bs b o e).2 (I.ok.nofr e) (I.ok.noex b o e),I.base.free b o (I.ok.bs b o e).1 (I.ok.bs b o e).2 (I.ok.noex b o e)⟩
theorem Inv.bk(I:Inv X pins σ H s):∀b o,X.base.get? b=some o->s.heap.get? b=some o:=λb o e=>(I.bs b o e).1
theorem Inv.mod(I:Inv X pins σ H s):Mod X.K X.mg X.base:=I.ok.mod
theorem Inv.kIn(I:Inv X pins σ H s):X.K.In s.heap:=I.ok.mod.kin.keeps I.bk
theorem Inv.lt(I:Inv X pins σ H s):X.env.locals<s.heap.objs.size:=let ⟨_,hn,_⟩:=I.loc;hn.lt
theorem Inv.sz(I:Inv X pins σ H s):X.s₀.heap.objs.size<=s.heap.objs.size:=lKb I.ok.above (lVw I.lt)
theorem Inv.nofs(I:Inv X pins σ H s){a:Addr}(h:s.heap.objs.size<=a):a∉X.fs:=λhb=>by
 obtain⟨_,o,ho,_⟩:=I.ok.funs.mem hb;exact absurd (lJw (lJi ho) (lKb I.sz h)) (lQ0 _)
theorem Inv.cne(I:Inv X pins σ H s):∀x c,X.env.cells.lookup x=some c->c≠X.env.locals:=λx c e z=>by
 obtain⟨v,o,ho,hd⟩:=I.cell x c e;obtain⟨m,⟨o',es,ep,ho',hd',_⟩,_⟩:=I.loc;rw[z,ho'] at ho;cases ho;rw[hd'] at hd;cases hd
theorem Inv.funs(I:Inv X pins σ H s):s.heap.FunFrames X.base X.outer:=by
 have all:∀(l:List Env),(∀b∈frs l,b∈X.fs)->X.s₀.heap.FunFrames X.base l->s.heap.FunFrames X.base l:=by
  intro l
  induction l with
  | nil=>intro _ _;trivial
  | cons env r ih=>
   intro hs hl;obtain⟨hk,⟨L,o,hf,hn,ho,hd⟩,hr⟩:=hl;have hL:L∈X.fs:=hs L (by unfold frs;rw[lQ1,hf];exact lKg)
   obtain⟨sl,e⟩:=I.base.slot L o ho (I.ok.frf L hL) hL λz=>I.ok.exfs L z hL
   exact⟨hk,⟨L,_,hf,hn,e,hd⟩,ih (λb hb=>hs b (by unfold frs;rw[lQ1,hf];exact lJ8 _ hb)) hr⟩
 exact all X.outer (λ_ hb=>hb) I.ok.funs
theorem Inv.stack(I:Inv X pins σ H s):s.heap.FunFrames X.base X.stack:=by
 rcases I.ok.stk with e | ⟨e,hf⟩
 .rw[e];exact I.funs
 .rw[e];obtain⟨m,hn,_⟩:=I.loc;refine .cons (by rw[I.ok.kind];decide) hf hn ?_ I.funs
  exact lYh (lKb I.ok.bsz I.ok.above)
theorem Inv.stkSub(I:Inv X pins σ H s):∀b∈frs X.stack,b∈X.env.locals::X.fs:=λb hb=>by
 rcases I.ok.stk with e | ⟨e,hf⟩
 .rw[e] at hb;exact lJ8 _ hb
 .rw[e] at hb;unfold frs at hb;rw[lQ1,hf] at hb;exact hb
theorem Inv.stkFree(I:Inv X pins σ H s):∀b∈frs X.stack,H b=none:=λb hb=>by
 rcases lJk.mp (I.stkSub b hb) with e | hb
 .rw[e];exact I.free
 .obtain⟨_,o,ho,_⟩:=I.ok.funs.mem hb;exact I.base.free b o ho (I.ok.frf b hb) λz=>I.ok.exfs b z hb
theorem Inv.step{g':Array GenState}{t':Nat}{d':Drawn}{ch:List Addr}(I:Inv X pins σ H s)
  (hch:∀b∈ch,(b∈X.ex\/X.s₀.heap.objs.size<=b)/\b≠X.env.locals/\(∀x c,X.env.cells.lookup x=some c->c≠b)/\∀p∈X.pn++pins,p.1≠b)
  (keep:∀b o,b≠X.env.locals->b∉X.fs->b∉ch->s.heap.get? b=some o->H b=none->h'.get? b=some o)
  (slot:∀b o,b≠X.env.locals->b∈X.fs->b∉ch->s.heap.get? b=some o->H b=none->∃sl,h'.get? b=some {o with slots:=sl}) (free:∀b o,b∉ch->s.heap.get? b=some o->H b=none->H' b=none)
  (there:∀b o,b∉ch->s.heap.get? b=some o->∃o',h'.get? b=some o')
  (tups:∀b xs,H b=some (.tup xs)->H' b=some (.tup xs)) (frzs:∀b o u,H b=some (.frz o u)->H' b=some (.frz o u)) (tbls:∀b ps,H b=some (.tbl ps)->∃more,H' b=some (.tbl (ps++more)))
  (ns:∀m,s.heap.Ns X.env.locals m->h'.Ns X.env.locals m) (hok:HOk X.prog X.w H' h') (hg:AllBare g'):
  Inv X pins σ H' {s with heap:=h',gens:=g',drawn:=d',toks:=t'}:=by
 have neL:∀b o,X.s₀.heap.get? b=some o->b≠X.env.locals:=λb o e=>lJp (lJw (lJi e) I.ok.above)
 have neC:∀b o,X.s₀.heap.get? b=some o->b∉X.ex->b∉ch:=λb o e hx hb=>by
  rcases (hch b hb).1 with z | z
  .exact hx z
  .exact absurd (lJw (lJi e) z) (lQ0 _)
 have cellK:∀x c,X.env.cells.lookup x=some c->∀v,s.heap.IsCell c v->h'.IsCell c v:=λx c e v ⟨o,ho,hd⟩=>by
  have nch:c∉ch:=λz=>(hch c z).2.2.1 x c e rfl
  by_cases hc:c∈X.fs
  .obtain⟨sl,q⟩:=slot c o (I.cne x c e) hc nch ho (I.freeC x c e);exact⟨_,q,hd⟩
  .exact⟨o,keep c o (I.cne x c e) hc nch ho (I.freeC x c e),hd⟩
 refine⟨I.ok,I.os,hg,⟨λb o e n hb hx=> ?_,λb o e n hb hx=> ?_,λb o e n hx=> ?_,λb o e hx=> ?_,λb xs e=>tups b xs (I.base.tups b xs e),λb o xs e=>frzs b o xs (I.base.frzs b o xs e),λb ps e=> ?_⟩,?_,λx c e=> ?_,?_,λx c e=> ?_,λp hp=> ?_,hok,I.len⟩
 .exact keep b o (neL b o e) hb (neC b o e hx) (I.base.keep b o e n hb hx) (I.base.free b o e n hx)
 .obtain⟨sl,e1⟩:=I.base.slot b o e n hb hx;obtain⟨sl',e2⟩:=slot b _ (neL b o e) hb (neC b o e hx) e1 (I.base.free b o e n hx);exact⟨sl',e2⟩
 .obtain⟨o',e1⟩:=I.base.there b o e hx;exact free b o' (neC b o e hx) e1 (I.base.free b o e n hx)
 .obtain⟨o',e1⟩:=I.base.there b o e hx;exact there b o' (neC b o e hx) e1
 .obtain⟨m1,e1⟩:=I.base.tbls b ps e;obtain⟨m2,e2⟩:=tbls b _ e1;exact⟨m1++m2,by rw[e2,Array.append_assoc]⟩
 .obtain⟨m,hn,hl⟩:=I.loc;refine⟨m,ns m hn,λi x v e1 e2 e3=> ?_⟩
  obtain⟨u,r,l⟩:=hl i x v e1 e2 e3;refine⟨u,r,?_⟩
  rcases l with l | ⟨k,c,e,z⟩
  .exact .inl l
  .exact .inr ⟨k,c,e,cellK x c e _ z⟩
 .obtain⟨v,z⟩:=I.cell x c e;exact⟨v,cellK x c e v z⟩
 .obtain⟨m,⟨o,_,_,ho,_⟩,_⟩:=I.loc;exact free _ o (λz=>(hch _ z).2.1 rfl) ho I.free
 .obtain⟨v,o,ho,hd⟩:=I.cell x c e;exact free c o (λz=>(hch c z).2.2.1 x c e rfl) ho (I.freeC x c e)
 .obtain⟨e,n,ne,nf,d⟩:=I.pin p hp;have nch:p.1∉ch:=λz=>(hch p.1 z).2.2.2 p hp rfl
  exact⟨keep p.1 p.2 ne nf nch e n,free p.1 p.2 nch e n,ne,nf,d⟩
theorem Inv.un{t':Nat}(I:Inv X pins σ H s)(u:Un X.fs [] H H' s.heap h')(hok:HOk X.prog X.w H' h'):Inv X pins σ H' {s with heap:=h',toks:=t'}:=by
 obtain⟨m,⟨o,es,ep,ho,r⟩,_⟩:=id I.loc;obtain⟨sl,hL⟩:=u.any ho I.free (by simp)
 exact I.step (g':=s.gens) (d':=s.drawn) (ch:=[]) (λ_ z=>nomatch z) (λb o _ hb _ e n=>u.keep b o e n hb (by simp)) (λb o _ hb _ e n=>u.slot b o e n hb (by simp)) (λb o _ e n=>u.free b o e n (by simp)) (λb o _ e=>u.there b o e (by simp)) u.tups u.frzs u.tbls (λm' hm=>by
  obtain⟨o',es',ep',ho',r'⟩:=hm;rw[ho] at ho';cases ho';exact⟨_,es',ep',hL,r'⟩) hok I.bare
theorem Inv.call{g':Array GenState}{t':Nat}{d':Drawn}{ch:List Addr}(I:Inv X pins σ H s)(u:Un (frs X.stack) ch H H' s.heap h')(hok:HOk X.prog X.w H' h')(hg:AllBare g')
  (hch:∀b∈ch,(b∈X.ex\/X.s₀.heap.objs.size<=b)/\b≠X.env.locals/\(∀x c,X.env.cells.lookup x=some c->c≠b)/\∀p∈X.pn++pins,p.1≠b):
  Inv X pins σ H' {s with heap:=h',gens:=g',drawn:=d',toks:=t'}:=by
 obtain⟨m,⟨o,es,ep,ho,r⟩,_⟩:=id I.loc;obtain⟨sl,hL⟩:=u.any ho I.free λz=>(hch _ z).2.1 rfl
 exact I.step (ch:=ch) hch (λb o hL hb hc e n=>u.keep b o e n (λz=>(lJk.mp (I.stkSub b z)).elim hL hb) hc) (λb o _ _ hc e n=>u.any e n hc) (λb o hc e n=>u.free b o e n hc) (λb o hc e=>u.there b o e hc) u.tups u.frzs u.tbls (λm' hm=>by
  obtain⟨o',es',ep',ho',r'⟩:=hm;rw[ho] at ho';cases ho';exact⟨_,es',ep',hL,r'⟩) hok hg
theorem Inv.turned{t':Nat}{it:Addr}(I:Inv X pins σ H s)(k:∀b o,b≠it->s.heap.get? b=some o->h'.get? b=some o)(hn:H it=none)(hL:it≠X.env.locals)
  (h1:it∈X.ex\/X.s₀.heap.objs.size<=it) (h2:∀x c,X.env.cells.lookup x=some c->c≠it) (h3:∀p∈X.pn++pins,p.1≠it):Inv X pins σ H {s with heap:=h',toks:=t'}:=by
 have nit:∀b u,H b=some u->b≠it:=λb u e z=>by rw[z,hn] at e;cases e
 refine I.step (g':=s.gens) (d':=s.drawn) (ch:=[it]) (λb hb=> ?_) (λb o _ _ hc e _=>k b o (λz=>hc (by simp[z])) e) (λb o _ _ hc e _=>⟨o.slots,k b o (λz=>hc (by simp[z])) e⟩) (λ_ _ _ _ n=>n)
  (λb o hc e=>⟨o,k b o (λz=>hc (by simp[z])) e⟩) (λ_ _ e=>e) (λ_ _ _ e=>e) (λb ps e=>⟨#[],by rw[e];simp⟩) (λm hm=> ?_) (λb u e=> ?_) I.bare
 .have e:b=it:=by simpa using hb
  subst e;exact⟨h1,hL,h2,h3⟩
 .obtain⟨o,es,ep,ho,r⟩:=hm;exact⟨o,es,ep,k _ o (Ne.symm hL) ho,r⟩
 .refine (I.hok b u e).stay (λc v hc q=>k c v ?_ q) (λ_ q=>q) λ_ _ q=>q
  rcases hc with z | z
  .rw[z];exact nit b u e
  .exact nit c _ z
theorem Inv.tok(I:Inv X pins σ H s)(t:Nat):Inv X pins σ H {s with toks:=t}:=I.un (h':=s.heap) (t':=t) Un.refl I.hok
theorem Inv.kept{t':Nat}(I:Inv X pins σ H s)(k:∀b u,s.heap.get? b=some u->h'.get? b=some u):Inv X pins σ H {s with heap:=h',toks:=t'}:=I.un (Un.kept k) (I.hok.kept k)
theorem Inv.laid{a:Addr}{o:HO}{t':Nat}(I:Inv X pins σ H s)(k:∀b u,s.heap.get? b=some u->h'.get? b=some u)(hp:s.heap.objs.size<=a)(new:ObjOk X.prog X.w (upd H a o) h' a o):
  Inv X pins σ (upd H a o) {s with heap:=h',toks:=t'}:=I.un (Un.laid k hp (I.hok.fresh hp)) (I.hok.laid k hp new)
theorem Inv.write{x e:Addr}{o:HO}{t':Nat}(I:Inv X pins σ H s)(mu:Mut (H x))(he:e=x\/H e=some (.own x))(k:∀b u,b≠e->s.heap.get? b=some u->h'.get? b=some u)(heo:∃u,h'.get? e=some u)
  (new:ObjOk X.prog X.w (upd H x o) h' x o):Inv X pins σ (upd H x o) {s with heap:=h',toks:=t'}:=I.un (Un.write mu he k heo) (I.hok.write mu he k heo new)
theorem Inv.weak{σ':List (Option V)}(I:Inv X pins σ H s)(hl:σ'.length=σ.length)(w:∀(i:Nat) v,σ'[i]? =some (some v)->σ[i]? =some (some v)):Inv X pins σ' H s:=
 ⟨I.ok,I.os,I.bare,I.base,let ⟨m,hn,hl'⟩:=I.loc;⟨m,hn,λi x v e1 e2 e3=>hl' i x v e1 (w i v e2) e3⟩,I.cell,I.free,I.freeC,I.pin,I.hok,hl.trans I.len⟩
theorem Inv.pins_of{pins':List (Addr×Obj)}(I:Inv X pins σ H s)(h:∀p∈pins',s.heap.get? p.1=some p.2/\H p.1=none/\p.1≠X.env.locals/\p.1∉X.fs/\∀v,p.2.data≠ .cell v):Inv X pins' σ H s:=
 ⟨I.ok,I.os,I.bare,I.base,I.loc,I.cell,I.free,I.freeC,λp hp=>(lKt.mp hp).elim (λz=>I.pin p (lQj _ z)) (h p),I.hok,I.len⟩
theorem kUb{N:List Str}(hN:N.Nodup){i j:Nat}{x:Str}(a:N[i]? =some x)(b:N[j]? =some x):i=j:=by
 obtain⟨h1,e1⟩:=lJe.mp a;obtain⟨h2,e2⟩:=lJe.mp b;exact (lYi hN).mp (e1.trans e2.symm)
theorem qKn{M:Model}{A:Around}{E:Value->Shared->Prop}{i:Nat}{x:Str}{v:V}{u:Value}{Q:Unit->Shared->Prop}(I:Inv X pins σ H s)(hN:X.N.Nodup)(hi:X.N[i]? =some x)(hx:Loc X.env.scope x)(r:RelV v u)
  (h:∀s',Inv X pins (σ.set i (some v)) H s'->(∃a,Heap.SameBut a s.heap s'.heap/\(a=X.env.locals\/X.env.cells.lookup x=some a))->Q () s') (hf:X.fn x=true\/X.env.scope.names.lookup x=some .local:=by first | exact .inl rfl | exact .inr rfl | assumption):wpAny M A (storeName X.env x u) Q E s:=by
 obtain⟨m,hn,hl⟩:=id I.loc;have hcls:(X.env.scope.kind == .class||(X.env.scope.kind == .module&&X.env.locals != X.env.globals))=false:=by rw[I.ok.kind];rfl
 have hiσ:i<σ.length:=by rw[I.len];exact (lJe.mp hi).1
 have cne:=I.cne
 have tracked:∀{a:Addr}{h':Heap},(∃o,s.heap.get? a=some o/\H a=none)->Heap.SameBut a s.heap h'->HOk X.prog X.w H h':=λ{a h'} ha hs b ob e=>by
  obtain⟨_,_,hfree⟩:=ha;refine (I.hok b ob e).stay (λc w' hc q=>(hs.2 c ?_).trans q) (λ_ q=>q) λ_ _ q=>q
  rintro rfl
  rcases hc with rfl | hc
  .rw[hfree] at e;cases e
  .rw[hfree] at hc;cases hc
 rcases hx with hk | hk
 .refine wpAny_storeName_local hk hn (λh' hn' hs=> ?_) hcls
  obtain⟨oL,_,_,hoL,_⟩:=id hn;refine h _ ⟨I.ok,I.os,I.bare,⟨λb o e n hb hx=> ?_,λb o e n hb hx=> ?_,I.base.free,λb o e hx=> ?_,I.base.tups,I.base.frzs,I.base.tbls⟩,⟨_,hn',λj y v' e1 e2 e3=> ?_⟩,λy c e=> ?_,I.free,I.freeC,λp hp=> ?_,tracked ⟨oL,hoL,I.free⟩ hs,by simpa using I.len⟩ ⟨_,hs,.inl rfl⟩
  .exact (hs.2 b (lJp (lJw (lJi e) I.ok.above))).trans (I.base.keep b o e n hb hx)
  .obtain⟨sl,e1⟩:=I.base.slot b o e n hb hx;exact⟨sl,(hs.2 b (lJp (lJw (lJi e) I.ok.above))).trans e1⟩
  .obtain⟨o',e1⟩:=I.base.there b o e hx;exact⟨o',(hs.2 b (lJp (lJw (lJi e) I.ok.above))).trans e1⟩
  .by_cases hj:j=i
   .subst hj;rw[hi] at e1;cases e1;rw[lKi hiσ] at e2;cases e2;exact⟨u,r,.inl ⟨hk,by simp⟩⟩
   .rw[lKh (Ne.symm hj)] at e2;obtain⟨u',r',q⟩:=hl j y v' e1 e2 e3;refine⟨u',r',?_⟩
    rcases q with ⟨k,e⟩ | ⟨k,c,e,z⟩
    .refine .inl ⟨k,?_⟩;have:y≠x:=λe=>hj (kUb hN e1 (e▸hi))
     simp[this,e]
    .exact .inr ⟨k,c,e,z.sameBut hs (cne y c e)⟩
  .obtain⟨w',z⟩:=I.cell y c e;exact⟨w',z.sameBut hs (cne y c e)⟩
  .obtain⟨e,n,ne,nf,d⟩:=I.pin p hp;exact⟨(hs.2 p.1 ne).trans e,n,ne,nf,d⟩
 .have hfn:X.fn x=true:=by
   rcases hf with z | z
   .exact z
   .rw[z] at hk;cases hk
  obtain⟨c,hc⟩:=I.ok.has x (.inl hk);obtain⟨w',z⟩:=I.cell x c hc;refine wpAny_storeName_cell I.ok.kind hk hc z (λh' hc' hs=> ?_)
  obtain⟨oc,hoc,hocd⟩:=id z;refine h {s with heap:=h'} ⟨I.ok,I.os,I.bare,⟨λb o e n hb hx=> ?_,λb o e n hb hx=> ?_,I.base.free,λb o e hx=> ?_,I.base.tups,I.base.frzs,I.base.tbls⟩,⟨m,hn.sameBut hs (Ne.symm (cne x c hc)),λj y v' e1 e2 e3=> ?_⟩,λy c' e=> ?_,I.free,I.freeC,λp hp=> ?_,tracked ⟨oc,hoc,I.freeC x c hc⟩ hs,by simpa using I.len⟩ ⟨c,hs,.inr hc⟩
  .exact (hs.2 b (lJp (lJw (lJi e) (I.ok.cab x c hfn hc)))).trans (I.base.keep b o e n hb hx)
  .obtain⟨sl,e1⟩:=I.base.slot b o e n hb hx;exact⟨sl,(hs.2 b (lJp (lJw (lJi e) (I.ok.cab x c hfn hc)))).trans e1⟩
  .obtain⟨o',e1⟩:=I.base.there b o e hx;exact⟨o',(hs.2 b (lJp (lJw (lJi e) (I.ok.cab x c hfn hc)))).trans e1⟩
  .by_cases hj:j=i
   .subst hj;rw[hi] at e1;cases e1;rw[lKi hiσ] at e2;cases e2;exact⟨u,r,.inr ⟨.inl hk,c,hc,hc'⟩⟩
   .rw[lKh (Ne.symm hj)] at e2;obtain⟨u',r',q⟩:=hl j y v' e1 e2 e3;refine⟨u',r',?_⟩
    rcases q with q | ⟨k,c',e,z'⟩
    .exact .inl q
    .refine .inr ⟨k,c',e,z'.sameBut hs ?_⟩;rintro rfl;exact hj (kUb hN e1 (I.ok.inj _ _ _ e hc▸hi))
  .by_cases hcc:c'=c
   .subst hcc;exact⟨_,hc'⟩
   .obtain⟨w2,z2⟩:=I.cell y c' e;exact⟨w2,z2.sameBut hs hcc⟩
  .obtain⟨e,n,ne,nf,d⟩:=I.pin p hp;refine⟨(hs.2 p.1 ?_).trans e,n,ne,nf,d⟩;intro q;rw[q,hoc] at e;have q':oc=p.2:=lJn e;exact d w' (by rw[<-q'];exact hocd)
theorem jVg{M:Model}{A:Around}{E:Value->Shared->Prop}{i:Nat}{x:Str}{v:V}{u:Value}{Q:Unit->Shared->Prop}(I:Inv X pins σ H s)(hN:X.N.Nodup)(hi:X.N[i]? =some x)(hx:Loc X.env.scope x)(r:RelV v u)
  (h:∀s',Inv X pins (σ.set i (some v)) H s'->Q () s') (hf:X.fn x=true\/X.env.scope.names.lookup x=some .local:=by first | exact .inl rfl | exact .inr rfl | assumption):wpAny M A (storeName X.env x u) Q E s:=
 qKn I hN hi hx r (λs' I' _=>h s' I') hf
theorem Inv.call'{s':Shared}{ch:List Addr}(I:Inv X pins σ H s)(ho:s'.os=s.os)(u:Un (frs X.stack) ch H H' s.heap s'.heap)(hok:HOk X.prog X.w H' s'.heap)(hg:AllBare s'.gens)
  (hch:∀b∈ch,(b∈X.ex\/X.s₀.heap.objs.size<=b)/\b≠X.env.locals/\(∀x c,X.env.cells.lookup x=some c->c≠b)/\∀p∈X.pn++pins,p.1≠b):Inv X pins σ H' s':=by
 obtain⟨h',g',d',t',o'⟩:=s';have e:o'=s.os:=ho;subst e;exact I.call (g':=g') (t':=t') (d':=d') u hok hg hch
end
abbrev XK:=Value->Option Addr->Hp->Prop
abbrev St:=List (Option V)
abbrev VK:=V->Hp->Prop
abbrev TE:=St->Hp->VK->Prop
abbrev TT:=St->Hp->(Bool->Hp->Prop)->Prop
abbrev TA:=St->Hp->(List V->Hp->Prop)->Prop
structure Ends where
 nx:St->Hp->Prop
 rt:VK
 bk:St->Hp->Prop:=λ_ _=>False
 ct:St->Hp->Prop:=λ_ _=>False
abbrev TS:=Ends->St->Hp->Prop
def EP(X:Cx)(pins:List (Addr×Obj))(σ:St)(Q:VK)(u:Value)(s':Shared):Prop:=∃v H',Inv X pins σ H' s'/\RelV v u/\Q v H'
def TP(X:Cx)(pins:List (Addr×Obj))(σ:St)(Q:Bool->Hp->Prop)(b:Bool)(s':Shared):Prop:=∃H',Inv X pins σ H' s'/\Q b H'
def AP(X:Cx)(pins:List (Addr×Obj))(σ:St)(Q:List V->Hp->Prop)(us:List Value)(s':Shared):Prop:=∃vs H',Inv X pins σ H' s'/\Vals vs us/\Q vs H'
def SP(X:Cx)(pins:List (Addr×Obj))(D:Ends)(f:Flow)(s':Shared):Prop:=
 match f with
 | .next=>∃ σ' H',Inv X pins σ' H' s'/\D.nx σ' H'
 | .brk=>∃ σ' H',Inv X pins σ' H' s'/\D.bk σ' H'
 | .cont=>∃ σ' H',Inv X pins σ' H' s'/\D.ct σ' H'
 | .ret u=>∃v σ' H',Inv X pins σ' H' s'/\RelV v u/\D.rt v H'
def PE(X:Cx)(e:Expr)(t:TE):Prop:=
 ∀(pins:List (Addr×Obj))(s:Shared)(σ:St)(H:Hp)(Q:VK),Inv X pins σ H s->t σ H Q->wpAny (model X.prog X.w) X.A (eval e X.env) (EP X pins σ Q) X.xe s
def PA(X:Cx)(es:List Expr)(t:TA):Prop:=
 ∀(pos:Pos)(pins:List (Addr×Obj))(s:Shared)(σ:St)(H:Hp)(Q:List V->Hp->Prop),Inv X pins σ H s->t σ H Q->wpAny (model X.prog X.w) X.A (spliced (backTo pos (starEach es X.env))) (AP X pins σ Q) X.xe s
def PSs(X:Cx)(st:List Stmt)(t:TS):Prop:=
 ∀(pins:List (Addr×Obj))(s:Shared)(σ:St)(H:Hp)(D:Ends),Inv X pins σ H s->t D σ H->wpAny (model X.prog X.w) X.A (execs st X.env) (SP X pins D) X.xe s
theorem thn{α:Type}{t:Sem α}{Q Q':α->Shared->Prop}{M:Model}{A:Around}{E:Value->Shared->Prop}{s:Shared}(h:wpAny M A t Q E s)(hQ:∀a s,Q a s->Q' a s):wpAny M A t Q' E s:=lJ6 h hQ λ_ _ x=>x
section
variable {X:Cx}
def tVar(i:Nat):TE:=λσ H Q=>∃v,σ[i]? =some (some v)/\Q v H
def tC(v:V):TE:=λ_ H Q=>Q v H
theorem kU7{i:Nat}{x:Str}{pos:Pos}(hN:X.N[i]? =some x)(hv:Vis X.env.scope x)(hd:(x == ("__debug__":Str))=false:=by decide)(hcd:(x == ("__classdict__":Str))=false:=by decide):PE X (.Name x pos) (tVar i):=by
 intro pins s σ H Q I h;obtain⟨v,e,h⟩:=h;obtain⟨m,hn,hl⟩:=I.loc;obtain⟨u,r,l⟩:=hl i x v hN e hv;have fin:EP X pins σ Q u s:=⟨v,H,I,r,h⟩
 rcases l with ⟨hk,hm⟩ | ⟨hk,c,hc,hcell⟩
 .exact wpAny_Name (wpAny_loadName_local I.ok.kind hk hn hm fin) hd
 .rcases hk with hk | hk
  .exact wpAny_Name (wpAny_loadName_cell I.ok.kind hk hc hcell fin) hd
  .exact wpAny_Name (wpAny_loadName_free I.ok.kind hk hc hcell fin hcd) hd
theorem uQp {i j pos}:PE X (.Constant (.int i) j pos) (tC (.int i)):=λ_ _ _ H _ I h=>wpAny_Constant_int ⟨.int i,H,I.tok _,⟨_,rfl⟩,h⟩
theorem uVm {b j pos}:PE X (.Constant (.bool b) j pos) (tC (.bl b)):=λ_ _ _ H _ I h=>Constant_bool ⟨.bl b,H,I,rfl,h⟩
theorem uQo {j pos}:PE X (.Constant .none j pos) (tC .non):=λ_ _ _ H _ I h=>Constant_none ⟨.non,H,I,rfl,h⟩
theorem uQn {x j pos}:PE X (.Constant (.str x) j pos) (tC (.str x)):=λ_ _ _ H _ I h=>Calls.Constant_str ⟨.str x,H,I.tok _,⟨_,rfl⟩,h⟩
def Gl(X:Cx)(x:Str):Prop:=X.env.kindOf x=some .globalImplicit
theorem kJv{E:Value->Shared->Prop}{pins:List (Addr×Obj)}{s:Shared}{σ:St}{H:Hp}{x:Str}{u:Value}{pos:Pos}{Q:Value->Shared->Prop}(I:Inv X pins σ H s)(hg:Gl X x)(hm:X.mg x=some u)(h:Q u s)
  (hd:(x == ("__debug__":Str))=false:=by decide):wpAny (model X.prog X.w) X.A (eval (.Name x pos) X.env) Q E s:=
 Calls.Name_function_global I.ok.kind hg (Calls.loadGlobal_global (by rw[I.ok.glob];exact I.mod.glob.keeps I.bk) hm h) hd
theorem jU9{E:Value->Shared->Prop}{pins:List (Addr×Obj)}{s:Shared}{σ:St}{H:Hp}{x:Str}{u:Value}{pos:Pos}{Q:Value->Shared->Prop}(I:Inv X pins σ H s)(hg:Gl X x)(hm:X.mg x=none)(hv:bootBuiltins x=some u)(h:Q u s)
  (hn:x≠"__name__":=by decide) (hd:(x == ("__debug__":Str))=false:=by decide):wpAny (model X.prog X.w) X.A (eval (.Name x pos) X.env) Q E s:=by
 obtain⟨mb,h1,h2⟩:=I.mod.blt;exact Calls.Name_function_global I.ok.kind hg (Calls.loadGlobal_builtin (by rw[I.ok.glob];exact I.mod.glob.keeps I.bk) hm (by rw[I.ok.blt];exact h1.keeps I.bk) ((h2 x hn).trans hv) h) hd
variable {a b:Expr}{ta tb:TE}{pos:Pos}
def tB(t:TE):TT:=λσ H Q=>t σ H λx H1=>∃c,x= .bl c/\Q c H1
variable {tA tB':TT}{rest:List Expr}
def tOrV(ta tb:TE):TE:=λσ H Q=>ta σ H λx H1=>∃c,x= .bl c/\if c=true then Q (.bl true) H1 else tb σ H1 Q
def uK7(ta:TE):TE:=λσ H Q=>ta σ H λx H1=>∃c,x= .bl c/\Q (.bl (!c)) H1
end
def SqL(K:PySem.W.Frag)(H:Hp)(a:Addr)(xs:List V):Prop:=
 Rd H a (.lst xs)\/
  ∃(o:Obj)(its:Array Value)(n:Nat),K.lookup a=some o/\o.cls= .type "list"/\o.dict=none/\o.data= .seq its n/\its.size<=sizeLine/\Vals xs its.toList
def SqT(K:PySem.W.Frag)(H:Hp)(a:Addr)(xs:List V):Prop:=
 Rd H a (.tup xs)\/
  ∃(o:Obj)(its:Array Value)(n:Nat),K.lookup a=some o/\o.cls= .type "tuple"/\o.data= .seq its n/\its.size<=sizeLine/\Vals xs its.toList
noncomputable def absV:Value->Option V
 | .none=>some .non
 | .bool b=>some (.bl b)
 | .int i _=>some (.int i)
 | .str x _=>some (.str x)
 | .bytes b _=>some (.byt b)
 | .float b _=>some (.flt b)
 | .ref a=>some (.ref a)
 | .type n=>some (.ty n)
 | _=>none
theorem RelV.abs{x:V}{u:Value}(r:RelV x u):absV u=some x:=by
 cases x with
 | non=>cases r;rfl
 | bl _=>cases r;rfl
 | int _=>obtain⟨t,rfl⟩:=r;rfl
 | str _=>obtain⟨t,rfl⟩:=r;rfl
 | byt _=>obtain⟨t,rfl⟩:=r;rfl
 | flt _=>obtain⟨t,rfl⟩:=r;rfl
 | ref _=>cases r;rfl
 | ty _=>cases r;rfl
theorem RelV.inj{x y:V}{u:Value}(r:RelV x u)(q:RelV y u):x=y:=lJn (r.abs.symm.trans q.abs)
theorem Vals.inj{xs ys:List V}{us:List Value}(h:Vals xs us)(g:Vals ys us):xs=ys:=by
 induction h generalizing ys with
 | nil=>(cases g;rfl)
 | cons r _ ih=>(cases g with | cons r' t'=>rw[r.inj r',ih t'])
section
variable {X:Cx}{pins:List (Addr×Obj)}{σ:St}{H:Hp}{s:Shared}{a:Addr}{xs ys:List V}
theorem SqL.of{K:PySem.W.Frag}(h:H a=some (.lst xs)):SqL K H a xs:= .inl (.inl h)
theorem SqT.of{K:PySem.W.Frag}(h:H a=some (.tup xs)):SqT K H a xs:= .inl (.inl h)
theorem Inv.list(I:Inv X pins σ H s)(h:SqL X.K H a xs):∃its:List Value,Vals xs its/\PlainL s.heap a its.toArray/\xs.length<=sizeLine:=by
 rcases h with h | ⟨o,its,n,hk,hc,hd,hs,hz,r⟩
 .obtain⟨z,its,n,r,e⟩:=h.ok I.hok;exact⟨its,r,⟨_,n,e,rfl,rfl,rfl⟩,z⟩
 .refine⟨its.toList,r,⟨o,n,I.kIn a o hk,hc,hd,by simpa using hs⟩,?_⟩
  have e:=r.length;simp only[lVg] at e;omega
theorem Inv.tuple(I:Inv X pins σ H s)(h:SqT X.K H a xs):∃its:List Value,Vals xs its/\IsTup s.heap a its.toArray/\xs.length<=sizeLine:=by
 rcases h with h | ⟨o,its,n,hk,hc,hs,hz,r⟩
 .obtain⟨z,its,r,p⟩:=h.ok I.hok;exact⟨its,r,p.is,z⟩
 .refine⟨its.toList,r,⟨o,I.kIn a o hk,hc,n,by simpa using hs⟩,?_⟩
  have e:=r.length;simp only[lVg] at e;omega
theorem Inv.list_inj(I:Inv X pins σ H s)(h:SqL X.K H a xs)(h':SqL X.K H a ys):xs=ys:=by
 obtain⟨its,r,⟨o,n,e,_,_,d⟩,_⟩:=I.list h;obtain⟨its',r',⟨o',n',e',_,_,d'⟩,_⟩:=I.list h';rw[e] at e';cases e';rw[d] at d';injection d' with d1 _
 have:its=its':=by simpa using lJx Array.toList d1
 subst this;exact r.inj r'
theorem Inv.tuple_inj(I:Inv X pins σ H s)(h:SqT X.K H a xs)(h':SqT X.K H a ys):xs=ys:=by
 obtain⟨its,r,⟨o,e,_,n,d⟩,_⟩:=I.tuple h;obtain⟨its',r',⟨o',e',_,n',d'⟩,_⟩:=I.tuple h';rw[e] at e';cases e';rw[d] at d';injection d' with d1 _
 have:its=its':=by simpa using lJx Array.toList d1
 subst this;exact r.inj r'
end
abbrev Cx.wish(X:Cx)(E:Value->Shared->Prop):Cx:={X with xe:=E}
abbrev Cx.nox(X:Cx):Cx:=X.wish λ_ _=>False
theorem Cx.Ok.wish{X:Cx}(ok:X.Ok)(E:Value->Shared->Prop):(X.wish E).Ok:=
 ⟨ok.mod,ok.kind,ok.glob,ok.blt,ok.above,ok.inj,ok.has,ok.cab,ok.hd,ok.gd,ok.frames,ok.stk,ok.exf,ok.bs,ok.bsz,ok.noex,ok.exfs,ok.funs,ok.frf⟩
theorem Cx.Ok.unwish{X:Cx}{E:Value->Shared->Prop}(ok:(X.wish E).Ok):X.Ok:=
 ⟨ok.mod,ok.kind,ok.glob,ok.blt,ok.above,ok.inj,ok.has,ok.cab,ok.hd,ok.gd,ok.frames,ok.stk,ok.exf,ok.bs,ok.bsz,ok.noex,ok.exfs,ok.funs,ok.frf⟩
section
variable {X:Cx}{pins:List (Addr×Obj)}{σ:St}{H:Hp}{s:Shared}{E:Value->Shared->Prop}
theorem Inv.wish(I:Inv X pins σ H s)(E:Value->Shared->Prop):Inv (X.wish E) pins σ H s:=⟨I.ok.wish E,I.os,I.bare,I.base,I.loc,I.cell,I.free,I.freeC,I.pin,I.hok,I.len⟩
theorem Inv.unwish(I:Inv (X.wish E) pins σ H s):Inv X pins σ H s:=⟨I.ok.unwish,I.os,I.bare,I.base,I.loc,I.cell,I.free,I.freeC,I.pin,I.hok,I.len⟩
theorem SP.unwish{D:Ends}{f:Flow}{s':Shared}(h:SP (X.wish E) pins D f s'):SP X pins D f s':=by
 cases f with
 | next=>obtain⟨σ',H',I,q⟩:=h;exact⟨σ',H',I.unwish,q⟩
 | brk=>obtain⟨σ',H',I,q⟩:=h;exact⟨σ',H',I.unwish,q⟩
 | cont=>obtain⟨σ',H',I,q⟩:=h;exact⟨σ',H',I.unwish,q⟩
 | ret u=>obtain⟨v,σ',H',I,r,q⟩:=h;exact⟨v,σ',H',I.unwish,r,q⟩
theorem PSs.nox{st:List Stmt}{t:TS}(h:PSs X.nox st t):PSs X st t:=λpins s σ H D I hw=>
 lJ6 (h pins s σ H D (I.wish _) hw) (λ_ _ q=>q.unwish) λ_ _ z=>False.elim z
end
section
variable {X:Cx}{st:Stmt}{rest:List Stmt}{t u:TS}{e:Expr}{te:TE}{pos:Pos}
theorem Inv.quiet{pins:List (Addr×Obj)}{σ:St}{H:Hp}{s:Shared}(I:Inv X pins σ H s):interactive X.env=false:=by simp[interactive,I.ok.kind]
def uK6:TS:=λD _ H=>D.rt .non H
end
abbrev TSet:=V->V->V->Hp->(Hp->Prop)->Prop
def PSet(X:Cx)(t:TSet):Prop:=
 ∀(pins:List (Addr×Obj))(s:Shared)(σ:St)(H:Hp)(o i v:V)(ov iv u:Value)(Q:Hp->Prop),Inv X pins σ H s->RelV o ov->RelV i iv->RelV v u->t o i v H Q->
  wpAny (model X.prog X.w) X.A (setItem ov iv u) (λ_ s'=>∃H',Inv X pins σ H' s'/\Q H') X.xe s
section
variable {X:Cx}{pos:Pos}
end
section
variable {X:Cx}{pos:Pos}
end
structure It where
 go:Nat->Hp->Prop
 yld:Nat->Hp->V->Hp->Prop
 stop:Nat->Hp->Prop
def FpOk(X:Cx)(pins:List (Addr×Obj))(H:Hp)(b:Addr):Prop:=
 H b=none/\b≠X.env.locals/\b∉X.fs/\(b∈X.ex\/X.s₀.heap.objs.size<=b)/\(∀x c,X.env.cells.lookup x=some c->c≠b)/\∀p∈X.pn++pins,p.1≠b
theorem Inv.fpOk{X:Cx}{pins:List (Addr×Obj)}{σ:St}{H H':Hp}{s:Shared}{b:Addr}(I:Inv X pins σ H s)(hb:s.heap.objs.size<=b)(hn:H' b=none):FpOk X pins H' b:=by
 refine⟨hn,lQr (lJw I.lt hb),I.nofs hb,.inr (lKb I.sz hb),λx c e z=> ?_,λp hp z=> ?_⟩
 .obtain⟨v,q⟩:=I.cell x c e;exact absurd (lJw q.lt (by rw[z];exact hb)) (lQ0 _)
 .exact absurd (lJw (lJi (I.pin p hp).1) (by rw[z];exact hb)) (lQ0 _)
structure Turn (P:Program) (w:World) (K:PySem.W.Frag) (tg:Expr) (J:It) (fp:List Addr) (it:Addr) (tn:Nat->Heap->Prop):Prop where
 mem:it∈fp
 obj:∀i h,tn i h->∀b∈fp,∃o,h.get? b=some o/\∀v,o.data≠ .cell v
 keep:∀i h h',tn i h->(∀b∈fp,∀o,h.get? b=some o->h'.get? b=some o)->tn i h'
 item:∀(X:Cx),X.prog=P->X.w=w->X.K=K->X.calm=true->∀(i:Nat)(pins:List (Addr×Obj))(s:Shared)(σ:St)(H:Hp)(E:Value->Shared->Prop),Inv X pins σ H s->(∀b∈fp,FpOk X pins H b)->tn i s.heap->J.go i H->
  wpAny (model P w) X.A (pyNext (.ref it)) (λr s1=>∃u,r=some u/\
   wpAny (model P w) X.A (letOwnedTupleGo tg (.ref it) u) (λ_ s2=>∃x H',Inv X pins σ H' s2/\RelV x u/\J.yld i H x H'/\tn (i+1) s2.heap/\∀b∈fp,H' b=none) E s1) E s
 done:∀(X:Cx),X.prog=P->X.w=w->X.K=K->X.calm=true->∀(i:Nat)(pins:List (Addr×Obj))(s:Shared)(σ:St)(H:Hp)(E:Value->Shared->Prop),Inv X pins σ H s->(∀b∈fp,FpOk X pins H b)->tn i s.heap->J.stop i H->
  wpAny (model P w) X.A (pyNext (.ref it)) (λr s1=>r=none/\Inv X pins σ H s1) E s
 self:∀(A:Around)(i:Nat)(s:Shared)(Q:Value->Shared->Prop)(E:Value->Shared->Prop),tn i s.heap->Q (.ref it) s->wpAny (model P w) A (pyIter (.ref it)) Q E s
abbrev TI:=St->Hp->(It->Hp->Prop)->Prop
def PIE(X:Cx)(pins:List (Addr×Obj))(σ:St)(tg:Expr)(R:It->Hp->Prop)(itv:Value)(s2:Shared):Prop:=
 ∃(it:Addr)(fp:List Addr)(tn:Nat->Heap->Prop)(J:It)(H':Hp),itv= .ref it/\Inv X pins σ H' s2/\Turn X.prog X.w X.K tg J fp it tn/\tn 0 s2.heap/\(∀b∈fp,FpOk X pins H' b)/\R J H'
theorem qX7{M:Model}{A:Around}{E:Value->Shared->Prop}{s:Shared}{tg:Expr}{it:Addr}{u:Value}{o:Obj}{n:String}{vs:Array Value}{Q:Unit->Shared->Prop}(ho:s.heap.get? it=some o)(hc:o.cls= .type n)(hd:o.data= .fields vs)
  (hn:["enumerate","zip","dict_itemiterator","dict_reverseitemiterator","odict_iterator","itertools.zip_longest","itertools.pairwise"].contains n=false) (hQ:Q () s):wpAny M A (letOwnedTupleGo tg (.ref it) u) Q E s:=by
 unfold letOwnedTupleGo
 cases tg<;>first
  | exact lJd hQ
  | (cases u<;>first
    | exact lJd hQ
    | (refine lJa (wpAny_load ho ?_)
       rw[hc,hd];show wpAny M A (if (["enumerate","zip","dict_itemiterator","dict_reverseitemiterator","odict_iterator","itertools.zip_longest","itertools.pairwise"].contains n&&vs[0]? == some (rawInt _))=true then _ else _) Q E s
       rw[lJb (by intro h;rw[hn,Bool.false_and] at h;cases h)]
       exact lJd hQ))
noncomputable def Itl(K:PySem.W.Frag)(a:Addr):It:=
 ⟨λi H=>∃xs x,SqL K H a xs/\xs[i]? =some x,λi H x H'=>H'=H/\∀xs,SqL K H a xs->xs[i]? =some x,λi H=>∃xs,SqL K H a xs/\xs.length<=i⟩
noncomputable def Itt(K:PySem.W.Frag)(a:Addr):It:=
 ⟨λi H=>∃xs x,SqT K H a xs/\xs[i]? =some x,λi H x H'=>H'=H/\∀xs,SqT K H a xs->xs[i]? =some x,λi H=>∃xs,SqT K H a xs/\xs.length<=i⟩
def Itr(lo:Int)(n:Nat):It:=⟨λi _=>i<n,λi H x H'=>H'=H/\x= .int (lo+i),λi _=>n<=i⟩
theorem qKe{P:Program}{w:World}{K:PySem.W.Frag}{tg:Expr}(a it:Addr):Turn P w K tg (Itl K a) [it] it (λi h=>h.IsListIter it a i) where
 mem:=by simp
 obj:=λi h st b hb=>by
  have e:b=it:=by simpa using hb
  subst e;obtain⟨o,e,c,d⟩:=st;exact⟨o,e,λv z=>by rw[d] at z;cases z⟩
 keep:=λi h h' st k=>st.at λo e=>k it (by simp) o e
 item:=by
  intro X hP hw hK hc i pins s σ H E I hf st hg;subst hP hw hK;obtain⟨xs,x,hq,hx⟩:=hg;obtain⟨its,rv,p,hz⟩:=I.list hq;obtain⟨u,hu,ru⟩:=rv.get hx;obtain⟨f0,f1,f2,f3,f4,f5⟩:=hf it (by simp)
  refine wpAny_pyNext_list_item st p.isList (x:=u) (by simpa using hu) λh' st' sb=> ?_
  have I1:Inv X pins σ H {s with heap:=h'}:=I.turned (t':=s.toks) (λb o hb e=>(sb.2 b hb).trans e) f0 f1 f3 f4 f5
  obtain⟨o,e,c,d⟩:=id st';exact⟨u,rfl,qX7 (s:={s with heap:=h'}) e c d (by decide) ⟨x,H,I1,ru,⟨rfl,λys hy=>by rw[I.list_inj hy hq];exact hx⟩,st',λb hb=>(hf b hb).1⟩⟩
 done:=by
  intro X hP hw hK hc i pins s σ H E I hf st hg;subst hP hw hK;obtain⟨xs,hq,hx⟩:=hg;obtain⟨its,rv,p,hz⟩:=I.list hq;obtain⟨f0,f1,f2,f3,f4,f5⟩:=hf it (by simp)
  have hl:=rv.length;exact wpAny_pyNext_list_end (I.ok.hd hc) st p.isList (by simp;omega) λh' eb=>⟨rfl,I.turned (t':=s.toks) (λb o hb e=>eb b o hb e) f0 f1 f3 f4 f5⟩
 self:=λ_ _ _ _ _ st h=>wpAny_pyIter_listiter st h
theorem kZ8{P:Program}{w:World}{K:PySem.W.Frag}{tg:Expr}(a it:Addr):Turn P w K tg (Itt K a) [it] it (λi h=>h.IsTupleIter it a i) where
 mem:=by simp
 obj:=λi h st b hb=>by
  have e:b=it:=by simpa using hb
  subst e;obtain⟨o,e,c,d⟩:=st;exact⟨o,e,λv z=>by rw[d] at z;cases z⟩
 keep:=λi h h' st k=>st.at λo e=>k it (by simp) o e
 item:=by
  intro X hP hw hK hc i pins s σ H E I hf st hg;subst hP hw hK;obtain⟨xs,x,hq,hx⟩:=hg;obtain⟨its,rv,p,hz⟩:=I.tuple hq;obtain⟨u,hu,ru⟩:=rv.get hx;obtain⟨f0,f1,f2,f3,f4,f5⟩:=hf it (by simp)
  refine wpAny_pyNext_tuple_item st (show s.heap.IsTuple a its.toArray from p) (x:=u) (by simpa using hu) λh' st' sb=> ?_
  have I1:Inv X pins σ H {s with heap:=h'}:=I.turned (t':=s.toks) (λb o hb e=>(sb.2 b hb).trans e) f0 f1 f3 f4 f5
  obtain⟨o,e,c,d⟩:=id st';exact⟨u,rfl,qX7 (s:={s with heap:=h'}) e c d (by decide) ⟨x,H,I1,ru,⟨rfl,λys hy=>by rw[I.tuple_inj hy hq];exact hx⟩,st',λb hb=>(hf b hb).1⟩⟩
 done:=by
  intro X hP hw hK hc i pins s σ H E I hf st hg;subst hP hw hK;obtain⟨xs,hq,hx⟩:=hg;obtain⟨its,rv,p,hz⟩:=I.tuple hq;obtain⟨f0,f1,f2,f3,f4,f5⟩:=hf it (by simp)
  have hl:=rv.length;exact wpAny_pyNext_tuple_end (I.ok.hd hc) st (show s.heap.IsTuple a its.toArray from p) (by simp;omega) λh' eb=>⟨rfl,I.turned (t':=s.toks) (λb o hb e=>eb b o hb e) f0 f1 f3 f4 f5⟩
 self:=λ_ _ _ _ _ st h=>wpAny_pyIter_tupleiter st h
theorem kZ9{P:Program}{w:World}{K:PySem.W.Frag}{tg:Expr}(it:Addr)(lo:Int)(n:Nat):Turn P w K tg (Itr lo n) [it] it (λi h=>IsRangeIter h it (lo+(i:Nat)*1) ((n:Int)-(i:Nat)) 1) where
 mem:=by simp
 obj:=λi h st b hb=>by
  have e:b=it:=by simpa using hb
  subst e
  exact⟨_,st,λv z=>by
   have z':Data.fields _=Data.cell v:=z;cases z'⟩
 keep:=λi h h' st k=>k it (by simp) _ st
 item:=by
  intro X hP hw hK hc i pins s σ H E I hf st hg;subst hP hw hK;obtain⟨f0,f1,f2,f3,f4,f5⟩:=hf it (by simp)
  have W:=Walks.range (prog:=X.prog) (w:=X.w) (I.ok.hd hc) it lo 1 n;refine W.item i s _ _ hg st λv h' tk hv st' kk=> ?_
  obtain⟨t,rfl⟩:=hv;have I1:Inv X pins σ H {s with heap:=h',toks:=tk}:=I.turned (λb o hb e=>kk b o (by simpa using hb) e) f0 f1 f3 f4 f5
  refine⟨_,rfl,qX7 (s:={s with heap:=h',toks:=tk}) (n:="range_iterator") st' rfl rfl (by decide) ⟨.int (lo+i),H,I1,⟨t,?_⟩,⟨rfl,rfl⟩,st',λb hb=>(hf b hb).1⟩⟩
  rw[Int.mul_one]
 done:=by
  intro X hP hw hK hc i pins s σ H E I hf st hg;subst hP hw hK;obtain⟨f0,f1,f2,f3,f4,f5⟩:=hf it (by simp)
  exact wpAny_pyNext_range_end (I.ok.hd hc) st (by have:n<=i:=hg;omega) λh' eb=>⟨rfl,I.turned (t':=s.toks) (λb o hb e=>eb b o hb e) f0 f1 f3 f4 f5⟩
 self:=λ_ _ _ _ _ st h=>wpAny_pyIter_rangeiter st h
section
variable {X:Cx}{tg:Expr}
theorem kY4{pins:List (Addr×Obj)}{σ:St}{H:Hp}{s:Shared}{R:It->Hp->Prop}{E:Value->Shared->Prop}{lo hi:Int}{t u v:Tok}{tk:Nat}(I:Inv X pins σ H s)(h1: -(2^62)<=lo)(h2:lo<2^62)(h3: -(2^62)<=hi)(h4:hi<2^62)
  (q:R (Itr lo (hi-lo).toNat) H):wpAny (model X.prog X.w) X.A (pyIter (.ref s.heap.objs.size)) (PIE X pins σ tg R) E {s with heap:=s.heap.push {cls:= .type "range",data:= .fields #[.int lo t,.int hi u,.int 1 v]},toks:=tk}:=by
 refine wpAny_pyIter_range (IsRange.new ..) (small_one h1 h2 h3 h4) ?_;have I1:Inv X pins σ H {s with heap:=s.heap.push {cls:= .type "range",data:= .fields #[.int lo t,.int hi u,.int 1 v]},toks:=tk}:=I.kept λb o e=>lJj _ e
 refine⟨(s.heap.push {cls:= .type "range",data:= .fields #[.int lo t,.int hi u,.int 1 v]}).objs.size,[(s.heap.push {cls:= .type "range",data:= .fields #[.int lo t,.int hi u,.int 1 v]}).objs.size],_,_,H,rfl,
  I1.kept (t':=tk) λb o e=>lJj _ e,kZ9 _ lo (hi-lo).toNat,?_,λb hb=> ?_,q⟩
 .have e1:lo+((0:Nat):Int)*1=lo:=by simp
  have e2:(((hi-lo).toNat:Nat):Int)-((0:Nat):Int)=Builtin.Range.rangeSize lo hi 1:=by rw[rangeSize_one];split<;>omega
  show IsRangeIter _ _ (lo+((0:Nat):Int)*1) ((((hi-lo).toNat:Nat):Int)-((0:Nat):Int)) 1
  rw[e1,e2];exact lJ1 _ rfl
 .have e:b=(s.heap.push {cls:= .type "range",data:= .fields #[.int lo t,.int hi u,.int 1 v]}).objs.size:=by simpa using hb
  subst e;exact I1.fpOk (lJg _) (I1.hok.fresh (lJg _))
def jXt(fp:List Addr)(h:Heap):List (Addr×Obj):=fp.filterMap λb=>(h.get? b).map λo=>(b,o)
theorem jXm{fp:List Addr}{h:Heap}{b:Addr}{o:Obj}(hb:b∈fp)(e:h.get? b=some o):(b,o)∈jXt fp h:=lQs.mpr ⟨b,hb,by rw[e];rfl⟩
theorem qQm{fp:List Addr}{h:Heap}{p:Addr×Obj}(hp:p∈jXt fp h):p.1∈fp/\h.get? p.1=some p.2:=by
 obtain⟨b,hb,e⟩:=lQs.mp hp;cases q:h.get? b with
 | none=>rw[q] at e;cases e
 | some o=>
  rw[q] at e;have e':(b,o)=p:=lJn e;subst e';exact⟨hb,q⟩
theorem Inv.pinned{pins:List (Addr×Obj)}{σ:St}{H:Hp}{s:Shared}{fp:List Addr}(I:Inv X pins σ H s)(hf:∀b∈fp,FpOk X pins H b)(ho:∀b∈fp,∃o,s.heap.get? b=some o/\∀v,o.data≠ .cell v):Inv X (pins++jXt fp s.heap) σ H s:=
 I.pins_of λp hp=>(lKt.mp hp).elim (λz=>I.pin p (lKu _ z)) λz=>by
  obtain⟨hb,e⟩:=qQm z;obtain⟨f0,f1,f2,_⟩:=hf p.1 hb;obtain⟨o,e',d⟩:=ho p.1 hb;rw[e] at e';cases e';exact⟨e,f0,f1,f2,d⟩
theorem Inv.unpinned{pins pl:List (Addr×Obj)}{σ:St}{H:Hp}{s:Shared}(I:Inv X (pins++pl) σ H s):Inv X pins σ H s:=I.pins_of λp hp=>I.pin p (lKu _ (lQj _ hp))
end
abbrev R2:=V->V->Hp->VK->Prop
def OpR(X:Cx)(f:Value->Value->Sem Value)(r:R2):Prop:=
 ∀(pins:List (Addr×Obj))(s:Shared)(σ:St)(H:Hp)(x y:V)(v u:Value)(Q:VK),Inv X pins σ H s->RelV x v->RelV y u->r x y H Q->
  wpAny (model X.prog X.w) X.A (f v u) (EP X pins σ Q) X.xe s
def UnR(X:Cx)(f:Value->Sem Value)(r:V->Hp->VK->Prop):Prop:=
 ∀(pins:List (Addr×Obj))(s:Shared)(σ:St)(H:Hp)(x:V)(v:Value)(Q:VK),Inv X pins σ H s->RelV x v->r x H Q->
  wpAny (model X.prog X.w) X.A (f v) (EP X pins σ Q) X.xe s
def kXd(X:Cx)(f:Value)(r:List V->Hp->VK->Prop):Prop:=
 ∀(pins:List (Addr×Obj))(s:Shared)(σ:St)(H:Hp)(xs:List V)(us:List Value)(Q:VK),Inv X pins σ H s->Vals xs us->r xs H Q->
  wpAny (model X.prog X.w) X.A (call f us) (EP X pins σ Q) X.xe s
def TruR(X:Cx)(r:V->Hp->(Bool->Hp->Prop)->Prop):Prop:=
 ∀(pins:List (Addr×Obj))(s:Shared)(σ:St)(H:Hp)(x:V)(v:Value)(Q:Bool->Hp->Prop),Inv X pins σ H s->RelV x v->r x H Q->
  wpAny (model X.prog X.w) X.A (truthy v) (TP X pins σ Q) X.xe s
def rI(C:Int->Int->Prop)(g:Int->Int->V):R2:=λx y H Q=>∃i j,x= .int i/\y= .int j/\C i j/\Q (g i j) H
def rI0(g:Int->Int->V):R2:=λx y H Q=>∃i j,x= .int i/\y= .int j/\Q (g i j) H
def rU(g:Int->V):V->Hp->VK->Prop:=λx H Q=>∃i,x= .int i/\Q (g i) H
section
variable {X:Cx}{a b c:Expr}{ta tb tc:TE}{pos:Pos}
theorem opI{f:Value->Value->Sem Value}{C:Int->Int->Prop}{g:Int->Int->Int}
  (rule:∀(i j:Int)(t u:Tok)(s:Shared)(Q:Value->Shared->Prop)(E:Value->Shared->Prop),C i j->Q (.int (g i j) s.toks) {s with toks:=s.toks+1}->wpAny (model X.prog X.w) X.A (f (.int i t) (.int j u)) Q E s):
  OpR X f (rI C λi j=> .int (g i j)):=by
 intro pins s σ H x y v u Q I rx ry h;obtain⟨i,j,rfl,rfl,hc,q⟩:=h;obtain⟨t,rfl⟩:=rx;obtain⟨t',rfl⟩:=ry;exact rule i j t t' s _ _ hc ⟨.int (g i j),H,I.tok _,⟨_,rfl⟩,q⟩
theorem opI0{f:Value->Value->Sem Value}{g:Int->Int->Int}
  (rule:∀(i j:Int)(t u:Tok)(s:Shared)(Q:Value->Shared->Prop)(E:Value->Shared->Prop),Q (.int (g i j) s.toks) {s with toks:=s.toks+1}->wpAny (model X.prog X.w) X.A (f (.int i t) (.int j u)) Q E s):
  OpR X f (rI0 λi j=> .int (g i j)):=by
 intro pins s σ H x y v u Q I rx ry h;obtain⟨i,j,rfl,rfl,q⟩:=h;obtain⟨t,rfl⟩:=rx;obtain⟨t',rfl⟩:=ry;exact rule i j t t' s _ _ ⟨.int (g i j),H,I.tok _,⟨_,rfl⟩,q⟩
theorem opB0{f:Value->Value->Sem Value}{g:Int->Int->Bool}
  (rule:∀(i j:Int)(t u:Tok)(s:Shared)(Q:Value->Shared->Prop)(E:Value->Shared->Prop),Q (.bool (g i j)) s->wpAny (model X.prog X.w) X.A (f (.int i t) (.int j u)) Q E s):
  OpR X f (rI0 λi j=> .bl (g i j)):=by
 intro pins s σ H x y v u Q I rx ry h;obtain⟨i,j,rfl,rfl,q⟩:=h;obtain⟨t,rfl⟩:=rx;obtain⟨t',rfl⟩:=ry;exact rule i j t t' s _ _ ⟨.bl (g i j),H,I,rfl,q⟩
def CDiv(i j:Int):Prop:=0<j/\j<1073741824
def CPow(i j:Int):Prop:=0<=j/\j<=1000000/\i.natAbs<2^64
def CMul(i j:Int):Prop:=(-(2^64)<i/\i<2^64)\/(-(2^64)<j/\j<2^64)
theorem CMul.ok{i j:Int}(h:CMul i j):IntMulOk i j:=by
 rcases h with ⟨h1,h2⟩ | ⟨h1,h2⟩
 .exact .of_left (intBits_le_64 h1 h2)
 .exact .of_right (intBits_le_64 h1 h2)
theorem uQy:OpR X (binaryOp .Add) (rI0 λi j=> .int (i+j)):=opI0 λ_ _ _ _ _ _ _ q=>add_int q
theorem uQr:OpR X (binaryOp .Sub) (rI0 λi j=> .int (i-j)):=opI0 λ_ _ _ _ _ _ _ q=>sub_int q
theorem uQu:OpR X (binaryOp .Mult) (rI CMul λi j=> .int (i*j)):=opI λ_ _ _ _ _ _ _ hc q=>mul_int q hc.ok
theorem uJc:OpR X (binaryOp .FloorDiv) (rI CDiv λi j=> .int (i / j)):=opI λi j _ _ _ _ _ hc q=>by
 have h1:(0:Int)<j:=hc.1;have h2:j<1073741824:=hc.2;exact floordiv_int (by omega) (by rw[lZb i (by omega)];exact q) (.inl (lYj (by omega)))
theorem uQv:OpR X (binaryOp .Mod) (rI (λ_ j=>0<j) λi j=> .int (i%j)):=opI λi j _ _ _ _ _ hc q=>by
 have h1:(0:Int)<j:=hc;exact mod_int' (by omega) (by rw[lZc i (by omega)];exact q)
theorem uQt:OpR X (binaryOp .Pow) (rI CPow λi j=> .int (i^j.toNat)):=opI λ_ _ _ _ _ _ _ hc q=>pow_int_small hc.1 hc.2.1 hc.2.2 q
theorem unI{f:Value->Sem Value}{g:Int->Int}
  (rule:∀(i:Int)(t:Tok)(s:Shared)(Q:Value->Shared->Prop)(E:Value->Shared->Prop),Q (.int (g i) s.toks) {s with toks:=s.toks+1}->wpAny (model X.prog X.w) X.A (f (.int i t)) Q E s):
  UnR X f (rU λi=> .int (g i)):=by
 intro pins s σ H x v Q I rx h;obtain⟨i,rfl,q⟩:=h;obtain⟨t,rfl⟩:=rx;exact rule i t s _ _ ⟨.int (g i),H,I.tok _,⟨_,rfl⟩,q⟩
theorem uK2:UnR X (unaryOp .USub) (rU λi=> .int (-i)):=unI λ_ _ _ _ _ q=>neg_int q
end
section
variable {X:Cx}{a b c:Expr}{ta tb tc:TE}{pos:Pos}
theorem qZd{pins:List (Addr×Obj)}{σ:St}{H:Hp}{s:Shared}{Q:VK}{k k':Bool}(I:Inv X pins σ H s)(q:Q (.bl k) H)(e:k=k'):EP X pins σ Q (.bool k') s:=by
 subst e;exact⟨.bl k,H,I,rfl,q⟩
theorem uVn:OpR X (compareOp .Lt) (rI0 λi j=> .bl (decide (i<j))):=opB0 λ_ _ _ _ _ _ _ q=>lt_int q
theorem uVo:OpR X (compareOp .LtE) (rI0 λi j=> .bl (decide (i<=j))):=opB0 λ_ _ _ _ _ _ _ q=>le_int q
theorem uVp:OpR X (compareOp .Gt) (rI0 λi j=> .bl (decide (j<i))):=opB0 λ_ _ _ _ _ _ _ q=>gt_int q
theorem uVq:OpR X (compareOp .GtE) (rI0 λi j=> .bl (decide (j<=i))):=opB0 λ_ _ _ _ _ _ _ q=>ge_int q
theorem uQw:OpR X (compareOp .Is) (λx y H Q=>y= .non/\Q (.bl (decide (x= .non))) H):=by
 intro pins s σ H x y v u Q I rx ry h;obtain⟨rfl,q⟩:=h;cases ry;refine is_none_gen (qZd I q ?_)
 cases x<;>first
  | (cases rx;rfl)
  | (obtain⟨t,rfl⟩:=rx;rfl)
theorem uJb:OpR X (compareOp .IsNot) (λx y H Q=>y= .non/\Q (.bl (!decide (x= .non))) H):=by
 intro pins s σ H x y v u Q I rx ry h;obtain⟨rfl,q⟩:=h;cases ry;refine isnot_none_gen (qZd I q ?_)
 cases x<;>first
  | (cases rx;rfl)
  | (obtain⟨t,rfl⟩:=rx;rfl)
theorem uQ9(b:Expr){op:CmpOp}(h:op≠ .In:=by decide)(h2:op≠ .NotIn:=by decide):behindInMarks op b=false:=by
 have e1:(op == CmpOp.In)=false:=by cases op<;>first | rfl | exact absurd rfl h
 have e2:(op == CmpOp.NotIn)=false:=by cases op<;>first | rfl | exact absurd rfl h2
 cases b<;>simp[behindInMarks,e1,e2]
def TruV(K:PySem.W.Frag)(x:V)(H:Hp)(k:Bool):Prop:=
 match x with
 | .non=>k=false
 | .bl b=>k=b
 | .int i=>k=(i != 0)
 | .str y=>y.length<=sizeLine/\k=((y.length:Int) != 0)
 | .byt y=>y.size<=sizeLine/\k=((y.size:Int) != 0)
 | .ref p=>(∃xs,SqL K H p xs/\k= !xs.isEmpty)\/(∃xs,SqT K H p xs/\k= !xs.isEmpty)\/∃kvs,H p=some (.dK kvs)/\k= !kvs.isEmpty
 | _=>False
theorem qJs{κ:Type}{kvs:List (κ×V)}{vs:List (κ×Value)}(r:KV kvs vs):(!vs.isEmpty)= !kvs.isEmpty:=by
 cases r<;>rfl
theorem kQa{xs:List V}{its:List Value}(r:Vals xs its):(!its.toArray.isEmpty)= !xs.isEmpty:=by
 cases r<;>simp
theorem kJs:(sizeLine:Nat)<2^63:=by rw[lQf];decide
theorem uK4:TruR X (λx H Q=>∃k,TruV X.K x H k/\Q k H):=by
 intro pins s σ H x v Q I rx h;obtain⟨k,e,q⟩:=h;have hl:=kJs;have hs:sizeLine=16777216:=lQf;cases x with
 | non=>
  cases rx;have e':k=false:=e;subst e';exact truthy_none ⟨H,I,q⟩
 | bl b=>
  cases rx;have e':k=b:=e;subst e';exact lQ7 ⟨H,I,q⟩
 | int i=>
  obtain⟨t,rfl⟩:=rx;have e':k=(i != 0):=e;subst e';exact PySem.P.truthy_int ⟨H,I,q⟩
 | str y=>
  obtain⟨t,rfl⟩:=rx;obtain⟨hy,e'⟩:y.length<=sizeLine/\k=((y.length:Int) != 0):=e;subst e';exact PySem.P.truthy_str (by omega) ⟨H,I.tok _,q⟩
 | byt y=>
  obtain⟨t,rfl⟩:=rx;obtain⟨hy,e'⟩:y.size<=sizeLine/\k=((y.size:Int) != 0):=e;subst e';exact PySem.W.truthy_bytes (by omega) ⟨H,I.tok _,q⟩
 | ref p=>
  cases rx;have e':(∃xs,SqL X.K H p xs/\k= !xs.isEmpty)\/(∃xs,SqT X.K H p xs/\k= !xs.isEmpty)\/∃kvs,H p=some (.dK kvs)/\k= !kvs.isEmpty:=e
  rcases e' with ⟨xs,hx,e'⟩ | ⟨xs,hx,e'⟩ | ⟨kvs,hx,e'⟩
  .subst e';obtain⟨its,r,pl,hz⟩:=I.list hx;have hlen:=r.length;exact wpAny_truthy_list pl.isList (by simp only[lJq];omega) ⟨H,I.tok _,by rw[kQa r];exact q⟩
  .subst e';obtain⟨its,r,pl,hz⟩:=I.tuple hx;have hlen:=r.length;exact truthy_tuple pl (by simp only[lJq];omega) ⟨H,I.tok _,by rw[kQa r];exact q⟩
  .subst e';obtain⟨hz,hS,vs,r,m⟩:kvs.length<=sizeLine/\(p == sysModules)=false/\∃vs,KV kvs vs/\s.heap.DictOf (jK8 X.prog X.w) p vs:=I.hok p _ hx
   have hlen:kvs.length=vs.length:=lQq r;exact wpAny_truthy_dict hS m (by omega) ⟨H,I.tok _,by rw[qJs r];exact q⟩
 | _=>exact (show False from e).elim
theorem kZ7{x:V}{us:List Value}(r:Vals [x] us):∃u,us=[u]/\RelV x u:=by
 cases r with
 | cons r1 r2=>cases r2;exact⟨_,rfl,r1⟩
theorem uK1{x y:V}{us:List Value}(r:Vals [x,y] us):∃u w',us=[u,w']/\RelV x u/\RelV y w':=by
 cases r with
 | cons r1 r2=>
  cases r2 with
  | cons r3 r4=>cases r4;exact⟨_,_,rfl,r1,r3⟩
theorem qYl:kXd X (.builtin "abs") (λxs H Q=>∃i,xs=[.int i]/\Q (.int (if i<0 then -i else i)) H):=by
 intro pins s σ H xs us Q I r h;obtain⟨i,rfl,q⟩:=h;obtain⟨u,rfl,t,rfl⟩:=kZ7 r;exact call_abs_int λu tk=>⟨.int (if i<0 then -i else i),H,I.tok _,⟨_,rfl⟩,q⟩
theorem qU1(hc:X.calm=true):kXd X (.builtin "max") (λxs H Q=>∃i j,xs=[.int i,.int j]/\Q (.int (if j>i then j else i)) H):=by
 intro pins s σ H xs us Q I r h;obtain⟨i,j,rfl,q⟩:=h;obtain⟨u,w',rfl,⟨t,rfl⟩,⟨t',rfl⟩⟩:=uK1 r;refine max_two_ints (I.ok.hd hc) λh' tk k=>⟨_,H,I.kept k,?_,q⟩
 by_cases hj:j>i
 .rw[lJc hj,lJc hj];exact⟨_,rfl⟩
 .rw[lJb hj,lJb hj];exact⟨_,rfl⟩
theorem qU2:kXd X (.type "int") (λxs H Q=>(∃i,xs=[.int i]/\Q (.int i) H)\/∃k,xs=[.bl k]/\Q (.int (if k then 1 else 0)) H):=by
 intro pins s σ H xs us Q I r h
 rcases h with ⟨i,rfl,q⟩ | ⟨k,rfl,q⟩
 .obtain⟨u,rfl,t,rfl⟩:=kZ7 r;exact call_int_int ⟨.int i,H,I,⟨_,rfl⟩,q⟩
 .obtain⟨u,rfl,r1⟩:=kZ7 r;cases r1;exact call_int_bool ⟨.int (if k then 1 else 0),H,I.tok _,⟨_,rfl⟩,q⟩
theorem kYm:kXd X (.builtin "divmod") (λxs H Q=>∃i j,xs=[.int i,.int j]/\CDiv i j/\∀p,H p=none->Q (.ref p) (upd H p (.tup [.int (i / j),.int (i%j)]))):=by
 intro pins s σ H xs us Q I r h;obtain⟨i,j,rfl,⟨h1,h2⟩,q⟩:=h;obtain⟨u,w',rfl,⟨t,rfl⟩,⟨t',rfl⟩⟩:=uK1 r;refine divmod_int (by omega) ?_ (.inl (lYj (by omega)))
 rw[lZb i (by omega),lZc i (by omega)]
 have hn:H s.heap.objs.size=none:=I.hok.fresh (lJg _);refine⟨.ref s.heap.objs.size,_,?_,rfl,q _ hn⟩;refine I.laid (λb o e=>lJj _ e) (lJg _) ⟨by simp only[lKj,lVx];rw[lQf];decide,[.int (i / j) s.toks,.int (i%j) (s.toks+1)],.cons ⟨_,rfl⟩ (.cons ⟨_,rfl⟩ .nil),?_⟩
 exact⟨_,lJ1 s.heap rfl,rfl,0,rfl,rfl⟩
end
structure ObjM (h:Heap) (x dx C:Addr) (mA:Str->Option Value):Prop where
 obj:h.get? x=some (PySem.W.instObj C dx)
 ns:h.Ns1 dx mA
 ne:dx≠x
theorem kVh{h:Heap}{dx:Addr}{mA:Str->Option Value}(n:h.Ns1 dx mA):∃od,h.get? dx=some od/\∀name,PySem.W.lookIn name od=some (mA name):=by
 obtain⟨o,es,ep,ho,hd,hk,_,hm⟩:=n;refine⟨o,ho,λname=> ?_⟩
 have e:=hm name;unfold nsFind findBy at e;rw[<-Array.find?_toList] at e;unfold PySem.W.lookIn;rw[hd]
 dsimp only
 split
 .rename_i y q
  rw[q] at e;exact lJx some e
 .rename_i q
  rw[q] at e
  have a:es.toList.any (·.refKey)=false:=by
   rw[List.any_eq_false];intro y hy;obtain⟨z,t,hkey⟩:=hk y (Array.mem_toList_iff.mp hy);simp[DictEntry.refKey,hkey]
  have a':¬ es.toList.any (·.refKey)=true:=by rw[a];exact lJl
  rw[lJb a'];exact lJx some e
theorem ObjM.look{h:Heap}{x dx C:Addr}{mA:Str->Option Value}(I:ObjM h x dx C mA):∃od,PySem.W.InstAt h x (PySem.W.instObj C dx) C (some od)/\∀name,PySem.W.lookIn name od=some (mA name):=
 let ⟨od,ho,hl⟩:=kVh I.ns
 ⟨od,⟨I.obj,rfl,rfl,ho⟩,hl⟩
section
variable {prog:Program}{w:World}{A:Around}{E:Value->Shared->Prop}{s:Shared}{K:PySem.W.Frag}{x dx C f:Addr}{mA:Str->Option Value}{name:Str}{v:Value}
theorem uJ6{expr:Bool}{Q:Value->Shared->Prop}(X:K.In s.heap)(I:ObjM s.heap x dx C mA)(hg:PySem.W.plainGet K C name=true)(hh:PySem.W.hasDictIn K C=true)
  (ha:PySem.W.findIn K (.ref C) name=some none) (hv:mA name=some v) (hv':PySem.W.handedIn v=true) (h:Q v {s with toks:=s.toks+1}):
  wpAny (model prog w) A (getAttr (.ref x) name expr) Q E s:=by
 obtain⟨od,J,hl⟩:=I.look;exact PySem.W.get_value X J (lYk hg).1 (PySem.W.findObj_own hh ha rfl (by rw[hl,hv])) hv' h
theorem qX8{pl:Sem Bool}{Q:Value×List Value->Shared->Prop}(X:K.In s.heap)(I:ObjM s.heap x dx C mA)(hg:PySem.W.plainGet K C name=true)
  (hf:PySem.W.findIn K (.ref C) name=some (some (.ref f))) (ht:PySem.W.isFn K (.ref f)=true) (hv:mA name=none) (h:Q (.ref f,[.ref x]) s):
  wpAny (model prog w) A (getMethod (.ref x) name pl) Q E s:=by
 obtain⟨od,J,hl⟩:=I.look;exact PySem.W.method_fn X J (lYk hg).1 (lYk hg).2 hf (beq_iff_eq.mp ht) (by show (PySem.W.lookIn name od).map (·.isSome)=some false;rw[hl,hv];rfl) h
theorem qZz{ns:List Str}{Q:Unit->Shared->Prop}(X:K.In s.heap)(I:ObjM s.heap x dx C mA)
  (hs:PySem.W.findIn K (.ref C) "__setattr__"=some (some (.builtin "object.__setattr__"))) (hp:PySem.W.plainOver K C=true) (ht:PySem.W.takerIn K C name=some none) (hh:PySem.W.hasDictIn K C=true)
  (hw:PySem.Within mA ns) (hsz:ns.length<=sizeLine)
  (h:∀h',ObjM h' x dx C (λy=>if y=name then some v else mA y)->Heap.SameBut dx s.heap h'->Q () {s with heap:=h',toks:=s.toks+2}):
  wpAny (model prog w) A (setAttr (.ref x) name v) Q E s:=by
 obtain⟨od,J,hl⟩:=I.look;refine PySem.W.set_plain X J hs (PySem.W.osa_open (s:={s with toks:=s.toks+1}) (r:=none) X J hp ht λb=> ?_)
 obtain⟨cd,hc,hd'⟩:=PySem.W.any_some hh;have hx:s.heap.get? x=some ⟨.ref C,some dx,.plain,#[]⟩:=I.obj;refine lJa (lJd (lJa (lJa (wpAny_loadPart hx (lJa (PySem.W.Looks.here (s:={s with toks:=s.toks+1}) (PySem.W.looks_clsIn X hc) ?_))))))
 rw[hd'];refine lJd (a:=some dx) (lJa (lJd (lJa ?_)));refine wpAny_nsSet1 (s:={s with toks:=s.toks+1}) I.ns λh' hn2 hs2=> ?_
 obtain⟨oD,esD,epD,hoD,hdD,hcD⟩:=hn2.count (PySem.Within.cons name v hw);refine lJa (wpAny_lookBehind hoD (by rw[hdD];exact pastItsLine_dict (lKb hcD (by rw[lKj];omega))) ?_)
 exact lJd (h _ ⟨(hs2.2 _ (Ne.symm I.ne)).trans I.obj,hn2,I.ne⟩ hs2)
theorem qXo{R:Result->Shared->Prop}{vs:List Value}{kw:List (Str×Value)}(X:K.In s.heap)(hm:PySem.W.makesIn K C=true)
  (hi:PySem.W.findIn K (.ref C) "__init__"=some (some (.ref f))) (hf:PySem.W.typeIn K (.ref f)=some (.type "function"))
  (h:codeAny (model prog w) (A.under (.builtin "type.__call__" ⟨.ref C::vs,kw⟩)) (.call (.ref f) ⟨.ref (s.heap.objs.size+1)::vs,kw⟩) (PySem.W.InitBack (s.heap.objs.size+1) R)
   {s with heap:=(s.heap.push PySem.W.emptyDict).push (PySem.W.instObj C s.heap.objs.size)}):
  codeAny (model prog w) A (.call (.ref C) ⟨vs,kw⟩) R s:=by
 obtain⟨hh,g,d,t,os⟩:=s;exact PySem.W.make_core (PySem.W.makes_of X hm) (PySem.W.looks_findIn X hi) (λself=>PySem.W.bind_fn X self hf) (.inl rfl) h
end
def putF(f:Str)(v:V):List (Str×V)->List (Str×V)
 | []=>[(f,v)]
 | (g,x)::r=>if g=f then (g,v)::r else (g,x)::putF f v r
theorem kJr(f g:Str)(v:V):∀fs:List (Str×V),(putF f v fs).lookup g=if g=f then some v else fs.lookup g
 | []=>by
  show List.lookup g [(f,v)]=_
  by_cases h:g=f
  .have hb:(g == f)=true:=beq_iff_eq.mpr h;simp only[List.lookup,hb,lJc h]
  .have hb:(g == f)=false:=beq_eq_false_iff_ne.mpr h;simp only[List.lookup,hb,lJb h]
 | (k,x)::r=>by
  have ih:=kJr f g v r;rw[show putF f v ((k,x)::r)=(if k=f then (k,v)::r else (k,x)::putF f v r) from rfl]
  by_cases hk:k=f
  .rw[lJc hk]
   by_cases h:g=k
   .have hb:(g == k)=true:=beq_iff_eq.mpr h;simp only[List.lookup,hb,lJc (h.trans hk)]
   .have hb:(g == k)=false:=beq_eq_false_iff_ne.mpr h;simp only[List.lookup,hb,lJb (λe:g=f=>h (e.trans hk.symm))]
  .rw[lJb hk]
   by_cases h:g=k
   .have hb:(g == k)=true:=beq_iff_eq.mpr h;simp only[List.lookup,hb,lJb (λe:g=f=>hk (h.symm.trans e))]
   .have hb:(g == k)=false:=beq_eq_false_iff_ne.mpr h;simp only[List.lookup,hb];exact ih
theorem kJw(f:Str)(v:V):∀fs:List (Str×V),f∈(putF f v fs).map (·.1)/\∀g,g∈fs.map (·.1)->g∈(putF f v fs).map (·.1)
 | []=>⟨by simp[putF],λg h=>by simp at h⟩
 | (k,x)::r=>by
  obtain⟨i1,i2⟩:=kJw f v r;rw[show putF f v ((k,x)::r)=(if k=f then (k,v)::r else (k,x)::putF f v r) from rfl]
  by_cases hk:k=f
  .rw[lJc hk];subst hk;exact⟨by simp,λg h=>by simpa using h⟩
  .rw[lJb hk];refine⟨?_,λg h=> ?_⟩
   .rw[lJv];exact lJ8 _ i1
   .rw[lJv] at h ⊢
    rcases (lJk.mp h) with e | e
    .exact lJk.mpr (.inl e)
    .exact lJ8 _ (i2 g e)
theorem kJu(f:Str)(v:V):∀fs:List (Str×V),(putF f v fs).length<=fs.length+1
 | []=>by simp[putF]
 | (k,x)::r=>by
  have ih:=kJu f v r;rw[show putF f v ((k,x)::r)=(if k=f then (k,v)::r else (k,x)::putF f v r) from rfl]
  by_cases hk:k=f
  .rw[lJc hk,lKj,lKj];omega
  .rw[lJb hk,lKj,lKj];omega
theorem RelO.some_of{v:V}{o:Option Value}(r:RelO (some v) o):∃u,o=some u/\RelV v u:=by
 cases o with
 | none=>exact (show False from r).elim
 | some u=>exact⟨u,rfl,r⟩
theorem RelO.none_of{o:Option Value}(r:RelO none o):o=none:=by
 cases o with
 | none=>rfl
 | some u=>exact (show False from r).elim
theorem kVo{v:V}{u:Value}(r:RelV v u):PySem.W.handedIn u=true:=by
 cases v with
 | non=>cases (show u=Value.none from r);rfl
 | bl b=>cases (show u=Value.bool b from r);rfl
 | int i=>obtain⟨t,e⟩:=(show ∃t,u=Value.int i t from r);cases e;rfl
 | str x=>obtain⟨t,e⟩:=(show ∃t,u=Value.str x t from r);cases e;rfl
 | byt b=>obtain⟨t,e⟩:=(show ∃t,u=Value.bytes b t from r);cases e;rfl
 | flt b=>obtain⟨t,e⟩:=(show ∃t,u=Value.float b t from r);cases e;rfl
 | ref a=>cases (show u=Value.ref a from r);rfl
 | ty n=>cases (show u=Value.type n from r);rfl
section
variable {P:Program}{w:World}{H H':Hp}{h h':Heap}{a C dx:Addr}{fs fs':List (Str×V)}
theorem kYa(hok:HOk P w H h)(e:H a=some (.ins C dx fs)):∃mA,ObjM h a dx C mA/\(∀f,RelO (fs.lookup f) (mA f))/\PySem.Within mA (fs.map (·.1))/\fs.length<=1000/\H dx=some (.own a):=by
 obtain⟨d,z,ne,ob,mA,n,r,q⟩:=(show ObjOk P w H h a (.ins C dx fs) from hok a _ e)
 exact⟨mA,⟨ob,n,ne⟩,r,q,z,d⟩
end
structure Cls (K:PySem.W.Frag) (C:Addr):Prop where
 pg:PySem.W.plainGet K C Str.empty=true
 hd:PySem.W.hasDictIn K C=true
 po:PySem.W.plainOver K C=true
 sa:PySem.W.findIn K (.ref C) "__setattr__"=some (some (.builtin "object.__setattr__"))
theorem Cls.get{K:PySem.W.Frag}{C:Addr}(c:Cls K C)(f:Str):PySem.W.plainGet K C f=true:=c.pg
def NoAttr(K:PySem.W.Frag)(C:Addr)(f:Str):Prop:=PySem.W.findIn K (.ref C) f=some none
theorem NoAttr.taker{K:PySem.W.Frag}{C:Addr}{f:Str}(n:NoAttr K C f):PySem.W.takerIn K C f=some none:=by
 unfold PySem.W.takerIn;rw[show PySem.W.findIn K (.ref C) f=some none from n]
 rfl
structure Meth (K:PySem.W.Frag) (C:Addr) (m:Str) (f:Addr):Prop where
 at_:PySem.W.findIn K (.ref C) m=some (some (.ref f))
 fn:PySem.W.isFn K (.ref f)=true
 kp:PySem.W.keepIn K (.ref f)=true
section
variable {X:Cx}{pins:List (Addr×Obj)}{σ:St}{H:Hp}{s:Shared}{a C dx:Addr}{fs:List (Str×V)}{f:Str}{v:V}{A:Around}{E:Value->Shared->Prop}
theorem qJt{b:Bool}{Q:Value->Shared->Prop}(I:Inv X pins σ H s)(e:H a=some (.ins C dx fs))(c:Cls X.K C)(n:NoAttr X.K C f)(l:fs.lookup f=some v)
  (h:∀u s',Inv X pins σ H s'->RelV v u->Q u s'):wpAny (model X.prog X.w) A (getAttr (.ref a) f b) Q E s:=by
 obtain⟨mA,O,r,_,_,_⟩:=kYa I.hok e;obtain⟨u,hu,ru⟩:=RelO.some_of (v:=v) (o:=mA f) (by rw[<-l];exact r f)
 exact uJ6 I.kIn O (c.get f) c.hd n hu (kVo ru) (h u _ (I.tok _) ru)
theorem jXn{m:Str}{g:Addr}{pl:Sem Bool}{Q:Value×List Value->Shared->Prop}(I:Inv X pins σ H s)(e:H a=some (.ins C dx fs))(c:Cls X.K C)(k:Meth X.K C m g)(l:fs.lookup m=none)
  (h:Q (.ref g,[.ref a]) s):wpAny (model X.prog X.w) A (getMethod (.ref a) m pl) Q E s:=by
 obtain⟨mA,O,r,_,_,_⟩:=kYa I.hok e;have hn:mA m=none:=RelO.none_of (by rw[<-l];exact r m)
 exact qX8 I.kIn O (c.get m) k.at_ k.fn hn h
theorem qJc{y:V}{u:Value}{Q:Unit->Shared->Prop}(I:Inv X pins σ H s)(e:H a=some (.ins C dx fs))(c:Cls X.K C)(n:NoAttr X.K C f)(hl:fs.length<1000)(ry:RelV y u)
  (h:∀s',Inv X pins σ (upd H a (.ins C dx (putF f y fs))) s'->Q () s'):wpAny (model X.prog X.w) A (setAttr (.ref a) f u) Q E s:=by
 obtain⟨mA,O,r,wi,_,ho⟩:=kYa I.hok e;have hz:(fs.map (·.1)).length<=sizeLine:=by rw[lJf,lQf];omega
 refine qZz I.kIn O c.sa c.po n.taker c.hd wi hz λh' O' sb=>h _ ?_
 have hd:∃o,h'.get? dx=some o:=let ⟨o,_,_,e',_⟩:=O'.ns;⟨o,e'⟩
 refine I.write (x:=a) (e:=dx) (by rw[e];exact True.intro) (.inr ho) (λb q hb z=>(sb.2 b hb).trans z) hd ?_
 refine⟨by rw[jJt O.ne];exact ho,?_,O.ne,O'.obj,_,O'.ns,λg=> ?_,λg hg=> ?_⟩
 .have:=kJu f y fs;omega
 .show RelO ((putF f y fs).lookup g) (if g=f then some u else mA g)
  rw[kJr]
  by_cases q:g=f
  .rw[lJc q,lJc q];exact ry
  .rw[lJb q,lJb q];exact r g
 .by_cases q:g=f
  .rw[q];exact (kJw f y fs).1
  .refine (kJw f y fs).2 g (wi g λz=>hg ?_)
   show (if g=f then some u else mA g)=none
   rw[lJb q];exact z
theorem Inv.made(I:Inv X pins σ H s):Inv X pins σ (upd (upd H s.heap.objs.size (.own (s.heap.objs.size+1))) (s.heap.objs.size+1) (.ins C s.heap.objs.size []))
  {s with heap:=(s.heap.push PySem.W.emptyDict).push (PySem.W.instObj C s.heap.objs.size)}:=by
 have e1:(s.heap.push PySem.W.emptyDict).get? s.heap.objs.size=some PySem.W.emptyDict:=lJ1 s.heap rfl
 have e2:((s.heap.push PySem.W.emptyDict).push (PySem.W.instObj C s.heap.objs.size)).get? (s.heap.objs.size+1)=some (PySem.W.instObj C s.heap.objs.size):=by
  have:=lJ1 (s.heap.push PySem.W.emptyDict) (o:=PySem.W.instObj C s.heap.objs.size) rfl
  rwa [lVy] at this
 have e3:(s.heap.push PySem.W.emptyDict).Ns s.heap.objs.size (λ_=>none):=⟨PySem.W.emptyDict,#[],_,e1,rfl,(λe he=>absurd he (by simp)),λ_=>rfl⟩
 have I1:=I.laid (a:=s.heap.objs.size) (o:= .own (s.heap.objs.size+1)) (h':=s.heap.push PySem.W.emptyDict) (t':=s.toks) (λb u q=>lJj _ q) (lJg _) ⟨_,e1⟩
 refine I1.laid (a:=s.heap.objs.size+1) (o:= .ins C s.heap.objs.size []) (t':=s.toks) (λb u q=>lJj _ q) (lXg (lVy _ _)) ?_
 have ne:s.heap.objs.size≠s.heap.objs.size+1:=lJp (lXh _);refine⟨by rw[jJt ne,jJy],lJ0 _,ne,e2,λ_=>none,(Heap.Ns1.of_empty e3).at λo q=>lJj _ q,λ_=>True.intro,λy hy=>absurd rfl hy⟩
theorem qU6{prog:Program}{w:World}{env:Env}{e:Expr}{f:Str}{pos:Pos}{s:Shared}{Q:Value->Shared->Prop}(hb:attributeBase e f env (eval e env)=eval e env)
  (h:wpAny (model prog w) A (eval e env) (λo s₁=>wpAny (model prog w) A (getAttr o f true) Q E s₁) E s):wpAny (model prog w) A (eval (.Attribute e f pos) env) Q E s:=
 Attribute_any_ h (by rw[arm_eval_Attribute,hb])
end
section
variable {X:Cx}{o e value:Expr}{f:Str}{pos pos' tpos:Pos}{ta tv:TE}
end
section
variable {X:Cx}{pins:List (Addr×Obj)}{σ:St}{H:Hp}{s:Shared}{A:Around}{E:Value->Shared->Prop}{Q:Value->Shared->Prop}{c:Value}{b:Bool}
end
structure Room (k:Nat) (A:Around):Prop where
 hd:A.handled=none
 gd:A.guards=some []
 dp:A.depth+3*k+5<recursionLimit
 un:A.units+16*k+200<cLine
theorem Room.mono{j k:Nat}{A:Around}(r:Room k A)(h:j<=k):Room j A:=⟨r.hd,r.gd,by have:=r.dp;omega,by have:=r.un;omega⟩
theorem Room.deeper{k:Nat}{A:Around}(r:Room (k+1) A)(env:Env):Room k (A.deeper env):=
 ⟨r.hd,r.gd,by have:=r.dp;show A.depth+1+3*k+5<_;omega,by have:=r.un;show A.units+3+16*k+200<_;omega⟩
theorem qJn{A:Around}{C:Addr}{us:List Value}{kw:List (Str×Value)}:(A.under (.builtin "type.__call__" ⟨.ref C::us,kw⟩)).depth=A.depth+1:=by
 first | rfl | simp[Around.under,Code.weight,Code.isCreation,Code.isGuard,Code.isCaller,Code.frames,Code.isFrame,guardIds]
theorem qJm{A:Around}{C:Addr}{us:List Value}{kw:List (Str×Value)}:(A.under (.builtin "type.__call__" ⟨.ref C::us,kw⟩)).units=A.units+1:=by
 first | rfl | simp[Around.under,Code.cUnits,Code.frames,Code.isFrame]
theorem Room.make{k:Nat}{A:Around}(r:Room (k+1) A)(C:Addr)(us:List Value)(kw:List (Str×Value)):Room k (A.under (.builtin "type.__call__" ⟨.ref C::us,kw⟩)):=
 ⟨r.hd,r.gd,by have:=r.dp;rw[qJn];omega,by have:=r.un;rw[qJm];omega⟩
theorem Room.depth{k:Nat}{A:Around}(r:Room k A):A.depth<recursionLimit:=by have:=r.dp;omega
theorem Room.units{k:Nat}{A:Around}(r:Room k A):A.units+64<cLine:=by have:=r.un;omega
def tNil:TA:=λ_ H Q=>Q [] H
def jJc(ta:TE)(tr:TA):TA:=λσ H Q=>ta σ H λx H1=>tr σ H1 λxs H2=>Q (x::xs) H2
section
variable {X:Cx}{e:Expr}{es:List Expr}{te:TE}{t:TA}{pos:Pos}
theorem pa_nil:PA X [] tNil:=λ_ _ _ _ H Q I h=>Calls.spliced_nil ⟨[],H,I,.nil,h⟩
theorem pa_cons(ha:PE X e te)(hr:PA X es t)(hs:starEach (e::es) X.env=(false,eval e X.env)::starEach es X.env:=by rfl):PA X (e::es) (jJc te t):=by
 intro pos pins s σ H Q I h;rw[hs];show wpAny _ _ (spliced ((false,eval e X.env)::backTo pos (starEach es X.env))) _ _ s
 refine Calls.spliced_cons (thn (ha pins s σ H _ I h) λu s1 ⟨x,H1,I1,r1,q1⟩=> ?_)
 exact thn (hr pos pins s1 σ H1 _ I1 q1) λus s2 ⟨xs,H2,I2,r2,q2⟩=>⟨x::xs,H2,I2,.cons r1 r2,q2⟩
end
abbrev Sp:=List V->Hp->VK->XK->Prop
abbrev CXT:=List Env->Hp->Shared->XK->Value->Shared->Prop
structure Env0 (P:Program) (w:World) (K:PySem.W.Frag) (mg:Str->Option Value) (base:Heap) (A:Around) (outer:List Env) (s:Shared) (H:Hp):Prop where
 frames:A.frames=some outer
 mod:Mod K mg base
 bs:∀b o,base.get? b=some o->s.heap.get? b=some o/\H b=none
 bsz:base.objs.size<=s.heap.objs.size
 funs:s.heap.FunFrames base outer
 frf:∀b∈frs outer,H b=none
 hok:HOk P w H s.heap
 bare:AllBare s.gens
def CE(outer:List Env)(P:Program)(w:World)(H:Hp)(s:Shared)(Q:VK)(u:Value)(s':Shared):Prop:=
 ∃v H',s'.os=s.os/\AllBare s'.gens/\Un (frs outer) [] H H' s.heap s'.heap/\HOk P w H' s'.heap/\RelV v u/\Q v H'
def CR(CX:CXT)(outer:List Env)(P:Program)(w:World)(H:Hp)(s:Shared)(Q:VK)(E:XK)(r:Result)(s':Shared):Prop:=
 match r with
 | .ok (.ret u)=>CE outer P w H s Q u s'
 | .ok _=>False
 | .error e=>CX outer H s E e s'
structure FnOk (P:Program) (w:World) (K:PySem.W.Frag) (mg:Str->Option Value) (base:Heap) (CX:CXT) (k:Nat) (f:Addr) (fd:FuncData) (ps:List Str) (sp:Sp):Prop where
 len:∀vs H Q E,sp vs H Q E->vs.length=ps.length
 run:∀(A:Around)(outer:List Env)(s:Shared)(H:Hp)(args:Args)(us:List Value)(vs:List V)(Q:VK)(E:XK),Room k A->Env0 P w K mg base A outer s H->BindsTo s fd args (ps.zip us)->Vals vs us->sp vs H Q E->
  codeAny (model P w) A (.call (.ref f) args) (CR CX outer P w H s Q E) s
theorem Env0.make{P:Program}{w:World}{K:PySem.W.Frag}{mg:Str->Option Value}{base:Heap}{A:Around}{outer:List Env}{s:Shared}{H:Hp}(e:Env0 P w K mg base A outer s H)(C:Addr)(us:List Value)(kw:List (Str×Value)):
  Env0 P w K mg base (A.under (.builtin "type.__call__" ⟨.ref C::us,kw⟩)) outer s H:=⟨by first | exact e.frames | (simpa[Around.under,Code.envs,Code.isFrame,pushEnvs] using e.frames),e.mod,e.bs,e.bsz,e.funs,e.frf,e.hok,e.bare⟩
section
variable {X:Cx}{pins:List (Addr×Obj)}{σ:St}{H:Hp}{s s':Shared}
theorem Inv.env0(I:Inv X pins σ H s):Env0 X.prog X.w X.K X.mg X.base X.A X.stack s H:=
 ⟨I.ok.frames,I.ok.mod,I.bs,lKb I.ok.bsz I.sz,I.stack,I.stkFree,I.hok,I.bare⟩
theorem Inv.after{Q:VK}{u:Value}(I:Inv X pins σ H s)(h:CE X.stack X.prog X.w H s Q u s'):EP X pins σ Q u s':=by
 obtain⟨v,H',os,bare,un,hok,r,q⟩:=h;obtain⟨hh,g,d,t,os'⟩:=s';obtain rfl:os'=s.os:=os;exact⟨v,H',I.call (h':=hh) (g':=g) (d':=d) (t':=t) (ch:=[]) un hok bare (λb z=>absurd z (by simp)),r,q⟩
end
def Binds(K:PySem.W.Frag)(fd:FuncData)(ps:List Str)(ds:List Value):Prop:=
 ∀(s:Shared)(us:List Value),K.In s.heap->(us++ds).length=ps.length->BindsTo s fd ⟨us,[]⟩ (ps.zip (us++ds))
theorem Binds.all{K:PySem.W.Frag}{fd:FuncData}{ps:List Str}(h:∀us:List Value,us.length=ps.length->bindArgs fd ⟨us,[]⟩=pure (ps.zip us)):Binds K fd ps []:=λs us _ hl=>by
 rw[lKx] at hl ⊢;exact .of_eq (h us hl)
def qU9(CX:CXT)(X:Cx)(E:XK):Prop:=∀(pins:List (Addr×Obj))(σ:St)(H:Hp)(s:Shared)(e:Value)(s':Shared),Inv X pins σ H s->CX X.stack H s E e s'->X.xe e s'
section
variable {X:Cx}{CX:CXT}{k:Nat}{f C:Addr}{fd:FuncData}{ps:List Str}{sp:Sp}{dvs:List V}{ds:List Value}{E:XK}{x m:Str}{p pos apos:Pos}{e o:Expr}{es:List Expr}{ta:TE}{t:TA}
theorem qKv{pins:List (Addr×Obj)}{σ:St}{H:Hp}{s:Shared}{Q:VK}{us:List Value}{vs:List V}(F:FnOk X.prog X.w X.K X.mg X.base CX k f fd ps sp)(hr:Room k X.A)(hb:Binds X.K fd ps ds)(hd:Vals dvs ds)(hx:qU9 CX X E)
  (I:Inv X pins σ H s) (r:Vals vs us) (h:sp (vs++dvs) H Q E):wpAny (model X.prog X.w) X.A (call (.ref f) us) (EP X pins σ Q) X.xe s:=by
 have r2:Vals (vs++dvs) (us++ds):=r.append hd;have hl:(us++ds).length=ps.length:=by rw[<-r2.length];exact F.len _ _ _ _ h
 refine lQ8 (lVr (F.run X.A X.stack s H ⟨us,[]⟩ (us++ds) (vs++dvs) Q E hr I.env0 (hb s us I.kIn hl) r2 h) λr s' hq=> ?_)
 cases r with
 | error e=>exact hx pins σ H s e s' I hq
 | ok fl=>
  cases fl with
  | ret u=>exact I.after hq
  | next=>exact False.elim hq
  | brk=>exact False.elim hq
  | cont=>exact False.elim hq
structure Mk (K:PySem.W.Frag) (C f:Addr):Prop where
 makes:PySem.W.makesIn K C=true
 init:PySem.W.findIn K (.ref C) "__init__"=some (some (.ref f))
 fn:PySem.W.isFn K (.ref f)=true
 kp:PySem.W.keepIn K (.ref C)=true
theorem qVx{pins:List (Addr×Obj)}{σ:St}{H:Hp}{s:Shared}{Q:VK}{us:List Value}{vs:List V}(M:Mk X.K C f)(F:FnOk X.prog X.w X.K X.mg X.base CX k f fd ps sp)(hr:Room (k+1) X.A)(hb:Binds X.K fd ps ds)(hd:Vals dvs ds)
  (hx:qU9 CX X E) (I:Inv X pins σ H s) (r:Vals vs us)
  (h:∀x dx,H x=none->H dx=none->dx≠x->sp (.ref x::(vs++dvs)) (upd (upd H dx (.own x)) x (.ins C dx [])) (λv H2=>v= .non/\Q (.ref x) H2) E):
  wpAny (model X.prog X.w) X.A (call (.ref C) us) (EP X pins σ Q) X.xe s:=by
 have hq:=h (s.heap.objs.size+1) s.heap.objs.size (I.hok.fresh (lXi _)) (I.hok.fresh (lJg _)) (lJp (lXh _));have I2:=Inv.made (C:=C) I;have r2:Vals (V.ref (s.heap.objs.size+1)::(vs++dvs)) (Value.ref (s.heap.objs.size+1)::(us++ds)):= .cons rfl (r.append hd)
 have hl:(Value.ref (s.heap.objs.size+1)::us++ds).length=ps.length:=by
  have e:=r2.length;rw[F.len _ _ _ _ hq] at e;exact e.symm
 refine lQ8 (qXo (f:=f) I.kIn M.makes M.init (beq_iff_eq.mp M.fn) (lVr (F.run _ X.stack _ _ ⟨Value.ref (s.heap.objs.size+1)::us,[]⟩ (Value.ref (s.heap.objs.size+1)::(us++ds)) _ _ E (hr.make C us [])
  (I2.env0.make C us []) (hb _ (Value.ref (s.heap.objs.size+1)::us) I2.kIn hl) r2 hq) λr s' hq'=> ?_))
 cases r with
 | error e=>exact hx pins σ _ _ e s' I2 hq'
 | ok fl=>
  cases fl with
  | ret u=>
   obtain⟨v,H',I3,rv,ev,q3⟩:=I2.after hq';subst ev;exact⟨rv,⟨V.ref (s.heap.objs.size+1),H',I3,rfl,q3⟩⟩
  | next=>exact False.elim hq'
  | brk=>exact False.elim hq'
  | cont=>exact False.elim hq'
end
section
variable {X:Cx}{CX:CXT}{k:Nat}{f C:Addr}{fd:FuncData}{ps ks:List Str}{sp:Sp}{E:XK}{x m:Str}{p pos apos kpos:Pos}{e o:Expr}{es:List Expr}{kws:List Keyword}{te ta:TE}{t tk:TA}{nm:Option Str}
variable {g:List Value->List Value->List Value}{gV:List V->List V->List V}
end
structure FnScope (N P:List Str) (sc:Scope):Prop where
 kind:sc.kind= .function
 co:sc.isCoroutine=false
 gen:sc.isGenerator=false
 nd:N.Nodup
 pre:N.take P.length=P
 par:∀x∈P,sc.names.lookup x=some .local\/sc.names.lookup x=some .cell
 nofree:∀y∈sc.names,y.2≠ .free
theorem kV2{kindOf:Str->Option NameKind}{x:Str}:∀{binds:List (Str×Value)}{m:Str->Option Value},(∀v,(x,v)∉binds)->bindL kindOf binds m x=m x
 | [],_,_=>rfl
 | (n,v)::r,m,h=>by
  unfold bindL;rw[kV2 λw hw=>h w (lJ8 _ hw)]
  split
  .have:x≠n:=by rintro rfl;exact h v lKg
   simp[this]
  .rfl
theorem kV4{kindOf:Str->Option NameKind}{x:Str}:∀{binds:List (Str×Value)}{m:Str->Option Value},(∀v,(x,v)∉binds)->bindC kindOf binds m x=m x
 | [],_,_=>rfl
 | (n,v)::r,m,h=>by
  unfold bindC;rw[kV4 λw hw=>h w (lJ8 _ hw)]
  split
  .rfl
  .have:x≠n:=by rintro rfl;exact h v lKg
   simp[this]
theorem kV3{kindOf:Str->Option NameKind}{x:Str}{v:Value}:∀{P:List Str}{vs:List Value}{i:Nat}{m:Str->Option Value},P.Nodup->P[i]? =some x->vs[i]? =some v->kindOf x=some .local->
  bindL kindOf (P.zip vs) m x=some v
 | [],_,_,_,_,h,_,_=>by simp at h
 | _::_,[],_,_,_,_,h,_=>by simp at h
 | p::P,w::vs,0,m,nd,h1,h2,hk=>by
  simp at h1 h2;subst h1;subst h2;show bindL kindOf ((p,w)::P.zip vs) m p=_
  unfold bindL;rw[kV2 λv hv=>(lKk.mp nd).1 (lXj hv).1,lJc hk]
  simp
 | p::P,w::vs,i+1,m,nd,h1,h2,hk=>by
  show bindL kindOf ((p,w)::P.zip vs) m x=_
  unfold bindL;exact kV3 (i:=i) (lKk.mp nd).2 (by simpa using h1) (by simpa using h2) hk
theorem kV5{kindOf:Str->Option NameKind}{x:Str}{v:Value}:∀{P:List Str}{vs:List Value}{i:Nat}{m:Str->Option Value},P.Nodup->P[i]? =some x->vs[i]? =some v->kindOf x≠some .local->
  bindC kindOf (P.zip vs) m x=some v
 | [],_,_,_,_,h,_,_=>by simp at h
 | _::_,[],_,_,_,_,h,_=>by simp at h
 | p::P,w::vs,0,m,nd,h1,h2,hk=>by
  simp at h1 h2;subst h1;subst h2;show bindC kindOf ((p,w)::P.zip vs) m p=_
  unfold bindC;rw[kV4 λv hv=>(lKk.mp nd).1 (lXj hv).1,lJb hk]
  simp
 | p::P,w::vs,i+1,m,nd,h1,h2,hk=>by
  show bindC kindOf ((p,w)::P.zip vs) m x=_
  unfold bindC;exact kV5 (i:=i) (lKk.mp nd).2 (by simpa using h1) (by simpa using h2) hk
def start(N:List Str)(vs:List V):St:=vs.map some++List.replicate (N.length-vs.length) none
noncomputable def cxOf(CX:CXT)(P:Program)(w:World)(K:PySem.W.Frag)(mg:Str->Option Value)(base:Heap)(N:List Str)(qual:Str)(scope:Scope)(f:Addr)(cd:Value)(A:Around)(outer:List Env)(s:Shared)(H:Hp)(E:XK):Cx where
 prog:=P
 w:=w
 K:=K
 mg:=mg
 base:=base
 A:=A.deeper (envOfC qual scope s.heap.objs.size f cd)
 N:=N
 s₀:=s
 H₀:=H
 env:=envOfC qual scope s.heap.objs.size f cd
 outer:=outer
 stack:=envOfC qual scope s.heap.objs.size f cd::outer
 ex:=[]
 calm:=true
 fn:=λ_=>true
 pn:=[]
 xe:=λe s'=>wpAny (model P w) (A.deeper (envOfC qual scope s.heap.objs.size f cd)) (leaving (envOfC qual scope s.heap.objs.size f cd) e) (λ_ s''=>CX outer H s E e s'') (λe' s''=>CX outer H s E e' s'') s'
theorem kZ0{sc:Scope}{n:Nat}{x:Str}(h:sc.names.lookup x=some .cell):∃c,(cellsFrom n sc.names []).lookup x=some c:=by
 have q:=PySem.W.cellsFrom_some sc.names n [] (.inl h);exact lYl.mp q
theorem qQ1{CX:CXT}{P:Program}{w:World}{K:PySem.W.Frag}{mg:Str->Option Value}{base:Heap}{N ps:List Str}{qual:Str}{scope:Scope}{f:Addr}{cd:Value}{A:Around}{outer:List Env}{s s1:Shared}{H:Hp}{E:XK}{us:List Value}{vs:List V}
  (S:FnScope N ps scope) (hd:A.handled=none/\A.guards=some []) (e0:Env0 P w K mg base A outer s H) (hl:vs.length=ps.length) (r:Vals vs us)
  (x:InCallC s s.heap.objs.size (bindL (envOfC qual scope s.heap.objs.size f cd).kindOf (ps.zip us) λ_=>none) (cellsFrom (s.heap.objs.size+1) scope.names []) (bindC (envOfC qual scope s.heap.objs.size f cd).kindOf (ps.zip us) λ_=>none) s1):
  Inv (cxOf CX P w K mg base N qual scope f cd A outer s H E) [] (start N vs) H s1:=by
 have hpl:ps.length<=N.length:=by have:=lJx List.length S.pre;rw[lVz] at this;omega
 obtain⟨h1,tk,rfl,hk⟩:=x.done;have noA:∀b:Addr,b∉(cxOf CX P w K mg base N qual scope f cd A outer s H E).ex:=λb z=>absurd (show b∈([]:List Addr) from z) (by simp)
 refine⟨⟨e0.mod,S.kind,rfl,rfl,lJg _,λy z c h1 h2=> ?_,λy hy=> ?_,λy c _ h=> ?_,λ_=>hd.1,λ_=>hd.2,Around.frames_deeper e0.frames,.inr ⟨rfl,rfl⟩,λb z=>absurd z (noA b),e0.bs,e0.bsz,λb _ _=>noA b,λb z=>absurd z (noA b),e0.funs,e0.frf⟩,
  rfl,e0.bare,Un.kept hk,⟨_,x.toInCall.ns,λi y v h1 h2 h3=> ?_⟩,λy c h=>⟨_,x.cell y c h⟩,e0.hok.fresh (lJg _),λy c h=> ?_,λp hp=>absurd (show p∈([]:List (Addr×Obj)) from hp) (by simp),e0.hok.kept hk,?_⟩
 .exact name_of_addr x.apart (lVh h1) (lVh h2)
 .have hy:scope.names.lookup y=some .cell\/scope.names.lookup y=some .free:=hy
  rcases hy with hy | hy
  .exact kZ0 hy
  .exact absurd rfl (S.nofree _ (lVh hy))
 .exact lVw (x.above y c (lVh h))
 .have hi:i<vs.length:=by
   unfold start at h2
   by_cases hi:i<vs.length
   .exact hi
   .rw[lQk (by simpa using hi)] at h2
    rw[lXk] at h2;split at h2<;>cases h2
  have ha:vs[i]? =some v:=by
   unfold start at h2;rw[lKe (by simpa using hi),lJr] at h2
   cases e:vs[i]? with
   | none=>rw[e] at h2;cases h2
   | some a=>rw[e] at h2;cases h2;rfl
  obtain⟨u,hu,rv⟩:=r.get ha
  have hp:ps[i]? =some y:=by
   rw[<-S.pre,List.getElem?_take_of_lt (by omega)];exact h1
  have ndP:ps.Nodup:=by rw[<-S.pre];exact S.nd.sublist (List.take_sublist _ _)
  refine⟨u,rv,?_⟩
  rcases S.par y (lJm hp) with k | k
  .exact .inl ⟨k,kV3 ndP hp hu k⟩
  .obtain⟨c,e⟩:=kZ0 (n:=s.heap.objs.size+1) k;refine .inr ⟨.inl k,c,e,?_⟩;have q:=x.cell y c e;rw[kV5 ndP hp hu (by show scope.names.lookup y≠_;rw[k];decide)] at q
   exact q
 .exact e0.hok.fresh (lVw (x.above y c (lVh h)))
 .unfold start;show _=N.length
  rw[lJ9,lJf,List.length_replicate];omega
theorem uUo{CX:CXT}{P:Program}{w:World}{K:PySem.W.Frag}{mg:Str->Option Value}{base:Heap}{k:Nat}{f:Addr}{name qual:Str}{params:Arguments}{body:List Stmt}{scope:Scope}{dV kV doc pm cdv ct oc:Value}{an od:Option Addr}
  {osl:Array (Option Value)} {N ps:List Str} {sp:Sp} (lk:K.lookup f=some ⟨oc,od,.func (PySem.W.fnOf name qual params body scope dV kV doc pm an cdv ct),osl⟩) (hcd:PySem.W.codeIn K cdv qual=true) (S:FnScope N ps scope)
  (len:∀vs H Q E,sp vs H Q E->vs.length=ps.length)
  (hbody:∀(A:Around)(outer:List Env)(s:Shared)(H:Hp)(vs:List V)(Q:VK)(E:XK),Room k (A.deeper (envOfC qual scope s.heap.objs.size f cdv))->sp vs H Q E->
   ∃t,PSs (cxOf CX P w K mg base N qual scope f cdv A outer s H E) body t/\t {nx:=λ_ H'=>Q .non H',rt:=Q} (start N vs) H):
  FnOk P w K mg base CX (k+1) f (PySem.W.fnOf name qual params body scope dV kV doc pm an cdv ct) ps sp:=by
 refine⟨len,λA outer s H args us vs Q E hr e0 hb r hsp=> ?_⟩
 have hl:=len _ _ _ _ hsp;have KX:K.In s.heap:=e0.mod.kin.keeps λb o e=>(e0.bs b o e).1
 have lim:s.heap.NoLimit:=e0.mod.nolimit.keeps λb o e=>(e0.bs b o e).1
 have hkind:∀y∈ps.zip us,scope.names.lookup y.1=some .local\/(scope.names.lookup y.1=some .cell/\((cellsFrom (s.heap.objs.size+1) scope.names []).lookup y.1).isSome=true):=λ⟨n,v⟩ hy=>by
  rcases S.par n (lXj hy).1 with q | q
  .exact .inl q
  .exact .inr ⟨q,PySem.W.cellsFrom_some _ _ _ (.inl q)⟩
 refine codeAny_call_function hr.depth (KX _ _ lk) rfl S.co S.gen rfl (PySem.W.codeRec_of KX hcd) (hb _ _ _ _ ?_);refine wpAny_newFunctionEnv_cells S.kind hkind λenv he s1 x=> ?_
 subst he;refine⟨lim.keeps x.toInCall.keep,codeAny_func ?_⟩;obtain⟨t,ht,hq⟩:=hbody A outer s H vs Q E (hr.deeper _) hsp;have I:Inv (cxOf CX P w K mg base N qual scope f cdv A outer s H E) [] (start N vs) H s1:=qQ1 S ⟨hr.hd,hr.gd⟩ e0 hl r x;refine lJ6 (ht [] s1 (start N vs) H _ I hq) (λfl s' hs=> ?_) λe s' hs=>hs
 have fin:∀{σ':St}{H':Hp}{v:V}{u:Value},Inv (cxOf CX P w K mg base N qual scope f cdv A outer s H E) [] σ' H' s'->RelV v u->Q v H'->CE outer P w H s Q u s':=
  λ{σ' H' v u} J rv q=>⟨v,H',J.os,J.bare,J.base,J.hok,rv,q⟩
 cases fl with
 | ret u=>
  obtain⟨v,σ',H',J,rv,q⟩:=hs;exact fin J rv q
 | next=>
  obtain⟨σ',H',J,q⟩:=hs;exact fin (v:=V.non) (u:=Value.none) J rfl q
 | brk=>
  obtain⟨_,_,_,q⟩:=hs;exact False.elim q
 | cont=>
  obtain⟨_,_,_,q⟩:=hs;exact False.elim q
section
variable {X:Cx}{x:Str}{p pos:Pos}{e:Expr}{es:List Expr}{t:TA}{id T:String}{r:List V->Hp->VK->Prop}
end
end L2
namespace HT
open PySem PyProof.Rows
theorem qYf(A:Around)(s:Shared)(a:Int)(t:Tok)(c:Int)(u:Tok):∃e,SeqAt.EqAt A s (.int a t) (.int c u) e/\(e=true↔a=c):=
 ⟨(a == c),SeqAt.EqAt.int_int a t c u,by simp⟩
section
open PySem.SeqAt
open PySem.AutoSeq1 (wpAny_loadPart')
open PySem.MeetsSeq PySem.MeetsSeq2 PySem.MeetsSeq3
end
section
variable {prog:Program}{w:World}{A:Around}{E:Value->Shared->Prop}{s:Shared}
theorem cat_tup{t b:Addr}{vs ws:List Value}{Q:Value->Shared->Prop}(ht:IsTup s.heap t vs.toArray)(hb:IsTup s.heap b ws.toArray)(hv:vs≠[])
  (h1:ws=[]->Q (.ref t) s) (h2:ws≠[]->Q (.ref s.heap.objs.size) {s with heap:=s.heap.push {cls:= .type "tuple",data:= .seq (vs++ws).toArray} })
  (hsz:vs.length+ws.length<=sizeLine):wpAny (model prog w) A (binaryOp .Add (.ref t) (.ref b)) Q E s:=by
 obtain⟨⟨cls,dd,data,sl⟩,ho,hc,n,hd⟩:=id ht;obtain⟨⟨cls2,dd2,data2,sl2⟩,ho2,hc2,n2,hd2⟩:=id hb;simp only at hc hd hc2 hd2;subst hc hd hc2 hd2;have e:vs.toArray++ws.toArray=(vs++ws).toArray:=by simp
 by_cases hw:ws=[]
 .exact concat_meets ⟨_,ho,rfl⟩ ⟨_,ho2,rfl⟩ lY4 seq_tuple_add lYm lYn (lYo _ _)
   (tuple_addW1 t b vs.toArray ws.toArray n n2 dd dd2 sl sl2 (by simpa using hv) (by simp[hw])) ⟨ho,ho2,h1 hw⟩
 .refine concat_meets ⟨_,ho,rfl⟩ ⟨_,ho2,rfl⟩ lY4 seq_tuple_add lYm lYn (lYo _ _)
   (tuple_addW2 t b vs.toArray ws.toArray n n2 dd dd2 sl sl2 (by simpa using hv) (by simpa using hw) (by rw[lJq,lJq];exact hsz)) ⟨ho,ho2,?_⟩
  rw[e];exact h2 hw
def sIx(n d:Nat):Option Int->Nat
 | none=>d
 | some v=>if v<0 then (v+(n:Int)).toNat else min v.toNat n
theorem uQe(n d:Nat)(hd:d<=n)(o:Option Int):sIx n d o<=n:=by
 cases o with
 | none=>exact hd
 | some v=>
  show (if v<0 then (v+(n:Int)).toNat else min v.toNat n)<=n
  by_cases hv:v<0
  .rw[lJc hv];omega
  .rw[lJb hv];exact Nat.min_le_right _ _
theorem qU0(v:Int)(n d:Nat):(if v<0 then max (v+(n:Int)) 0 else min v (n:Int))=((sIx n d (some v):Nat):Int):=by
 show (if v<0 then max (v+(n:Int)) 0 else min v (n:Int))=(((if v<0 then (v+(n:Int)).toNat else min v.toNat n):Nat):Int)
 by_cases hv:v<0
 .simp only[lJc hv];omega
 .simp only[lJb hv];omega
theorem qJ0(lo hi:Option Int)(n:Nat):Builtin.Slice.sliceAdjust lo hi 1 (n:Int)=(((sIx n 0 lo:Nat):Int),((sIx n n hi:Nat):Int)):=by
 have h1:¬ ((1:Int)<0):=by omega
 unfold Builtin.Slice.sliceAdjust;simp only[h1,lJt];refine Prod.ext ?_ ?_
 .cases lo with
  | none=>rfl
  | some v=>exact qU0 v n 0
 .cases hi with
  | none=>rfl
  | some v=>exact qU0 v n n
theorem qJh(i j:Nat):Builtin.Slice.slicePlaces (i:Int) (j:Int) 1=j-i:=by
 unfold Builtin.Slice.slicePlaces;have h1:(1:Int)>0:=by omega
 simp only[h1,lJ7,Int.ediv_one];split<;>omega
theorem kK3{v:Value}{o:Option Int}{Q:Option Int->Shared->Prop}(p:IsPart v o)(h:Q o s):wpAny (model prog w) A (Builtin.Slice.slicePartIndex v) Q E s:=by
 cases p with
 | none=>exact slicePart_none h
 | int i t=>exact slicePart_int h
theorem jVx{sl:Addr}{vl vu:Value}{lo hi:Option Int}{n:Nat}{Q:Int×Int×Nat->Shared->Prop}(hs:s.heap.IsSliceOf sl vl vu .none)(pl:IsPart vl lo)(pu:IsPart vu hi)
  (h:Q (((sIx n 0 lo:Nat):Int),1,sIx n n hi-sIx n 0 lo) s):wpAny (model prog w) A (Builtin.Slice.sliceApplied (.ref sl) (pure (n:Int))) Q E s:=by
 obtain⟨os,hos,hcs,hds⟩:=id hs;unfold Builtin.Slice.sliceApplied Builtin.Slice.sliceFields;refine lJa (lJa (lKv hos hds (x:=vl) rfl (lJa (lKv hos hds (x:=vu) rfl (lJa (lKv hos hds (x:= .none) rfl (lJd ?_)))))));refine lJa (slicePart_none ?_);show wpAny _ _ (if ((1:Int) == 0)=true then _ else _) _ _ s
 rw[lJb (by decide)]
 refine lJa (kK3 pl (lJa (kK3 pu (lJa (lJd ?_)))));show wpAny _ _ (match Builtin.Slice.sliceAdjust lo hi 1 (n:Int) with | (lo,hi)=>pure (lo,(1:Int),Builtin.Slice.slicePlaces lo hi 1)) _ _ s
 rw[qJ0 lo hi n];show wpAny _ _ (pure (((sIx n 0 lo:Nat):Int),(1:Int),Builtin.Slice.slicePlaces ((sIx n 0 lo:Nat):Int) ((sIx n n hi:Nat):Int) 1)) _ _ s
 rw[qJh];exact lJd h
theorem qV8(xs:Array Value)(i k:Nat):((List.range k).filterMap λ(m:Nat)=>xs[((i:Int)+(m:Int)*1).toNat]?).toArray=((xs.toList.drop i).take k).toArray:=by
 have e:(λ(m:Nat)=>xs[((i:Int)+(m:Int)*1).toNat]?)=λm=>xs[i+m]? :=by
  funext m
  have:((i:Int)+(m:Int)*1).toNat=i+m:=by omega
  rw[this]
 rw[e];have:=pick_run xs i k;rw[List.filterMap_map] at this;have e2:((λx=>xs[x]?)∘λx=>i+x)=λm=>xs[i+m]? :=rfl
 rw[e2] at this;rw[this]
theorem getItem_tuple_cut{t sl:Addr}{items:Array Value}{vl vu:Value}{lo hi:Option Int}{Q:Value->Shared->Prop}(ht:IsTup s.heap t items)(hs:s.heap.IsSliceOf sl vl vu .none)(pl:IsPart vl lo)(pu:IsPart vu hi)
  (hw:¬ (sIx items.size 0 lo=0/\sIx items.size items.size hi=items.size))
  (h:Q (.ref s.heap.objs.size) {s with heap:=s.heap.push {cls:= .type "tuple",data:= .seq ((items.toList.drop (sIx items.size 0 lo)).take (sIx items.size items.size hi-sIx items.size 0 lo)).toArray} })
  (hsz:items.size<=sizeLine):wpAny (model prog w) A (getItem (.ref t) (.ref sl)) Q E s:=by
 have htake:sizeOk (.seq ((items.toList.drop (sIx items.size 0 lo)).take (sIx items.size items.size hi-sIx items.size 0 lo)).toArray):=by
  show ((items.toList.drop (sIx items.size 0 lo)).take (sIx items.size items.size hi-sIx items.size 0 lo)).toArray.size<=sizeLine
  rw[lJq,lVz,lYp,lVg];omega
 have hj:sIx items.size items.size hi<=items.size:=uQe _ _ (lJg _) hi;obtain⟨os,hos,hcs,hds⟩:=id hs;have hTs:s.TypeIs (.ref sl) "slice":=⟨os,hos,hcs⟩;unfold getItem
 try with_reducible refine lKo ?_
 first | refine lJa (lJd ?_) | skip
 refine lJa (wpAny_sequenceKey ht.typeIs (by decide) ?_)
 refine lJa (lVs (name:=Str.ofString "__getitem__") ht.typeIs lVi
  (lQy lVi ht.typeIs entry_tuple_getitem ?_ (args_tuple_getitem _ _)))
 show wpAny _ _ (Builtin.Tuple.tupleItemsOf (.ref t) >>= _) _ _ s
 refine lJa (tupleItemsOf_ ht ?_);refine lJa (lQp hTs ?_);rw[lJc (by decide)]
 refine lJa (jVx hs pl pu ?_)
 have hno:¬ ((((sIx items.size 0 lo:Nat):Int) == 0&&(1:Int) == 1&&(sIx items.size items.size hi-sIx items.size 0 lo) == items.size)=true):=by
  intro q;rw[lKl,lKl] at q;have q1:((sIx items.size 0 lo:Nat):Int)=0:=eq_of_beq q.1.1;have q2:sIx items.size items.size hi-sIx items.size 0 lo=items.size:=eq_of_beq q.2;exact hw ⟨by omega,by omega⟩
 show wpAny _ _ (if (((sIx items.size 0 lo:Nat):Int) == 0&&(1:Int) == 1&&(sIx items.size items.size hi-sIx items.size 0 lo) == items.size)=true then _ else _) _ _ s
 rw[lJb hno,qV8]
 first
  | exact lJa (m:=Builtin.Tuple.tupleExact _) (lK1 (lJd ⟨_,rfl,lJd h⟩) htake)
  | exact lJa (m:=Builtin.Tuple.tupleExact _) (lK1 (lJa (lJd (lJd ⟨_,rfl,lJd h⟩))) htake)
  | exact lJa (lJa (m:=Builtin.Tuple.tupleExact _) (lK1 (lJd (lJd ⟨_,rfl,lJd h⟩)) htake))
  | exact lJa (lJa (m:=Builtin.Tuple.tupleExact _) (lK1 (lJd ⟨_,rfl,lJd h⟩) htake))
end
end HT
namespace L2
open PySem PySem.Spec PyProof.Rows
abbrev TO:=St->Hp->(Option Int->Hp->Prop)->Prop
theorem kQb{ns:List Int}:∀{us:List Value},Vals (ns.map V.int) us->IntsAre us ns:=by
 induction ns with
 | nil=>intro us r;rw[List.map_nil] at r;cases r;exact .nil
 | cons n ns ih=>
  intro us r;rw[lJv] at r;cases r with
  | cons r1 r2=>
   obtain⟨t,e⟩:=r1;subst e;exact .cons n t (ih r2)
section
variable {X:Cx}{e:Expr}{te:TE}{lo hi:Option Expr}{tl th:TO}{pos p2:Pos}
def SlR(X:Cx)(r:V->Option Int->Option Int->Hp->VK->Prop):Prop:=
 ∀(pins:List (Addr×Obj))(s:Shared)(σ:St)(H:Hp)(x:V)(v vl vu:Value)(lo hi:Option Int)(sl:Addr)(Q:VK),Inv X pins σ H s->RelV x v->s.heap.IsSliceOf sl vl vu .none->IsPart vl lo->IsPart vu hi->r x lo hi H Q->
  ∃T id,typeLookup (.type T) "__getitem__"=pure (some (.builtin id))/\s.TypeIs v T/\wpAny (model X.prog X.w) X.A (getItem v (.ref sl)) (EP X pins σ Q) X.xe s
def cutV(xs:List V)(lo hi:Option Int):List V:=(xs.drop (HT.sIx xs.length 0 lo)).take (HT.sIx xs.length xs.length hi-HT.sIx xs.length 0 lo)
theorem kKb(xs:List V)(lo hi:Option Int):(cutV xs lo hi).length<=xs.length:=by
 unfold cutV;rw[lVz,lYp];omega
noncomputable def rSlT(K:PySem.W.Frag):V->Option Int->Option Int->Hp->VK->Prop:=λx lo hi H Q=>∃a xs,x= .ref a/\SqT K H a xs/\
 ¬ (HT.sIx xs.length 0 lo=0/\HT.sIx xs.length xs.length hi=xs.length)/\∀p,H p=none->Q (.ref p) (upd H p (.tup (cutV xs lo hi)))
theorem uQb:SlR X (rSlT X.K):=by
 intro pins s σ H x v vl vu lo hi sl Q I rx hs pl pu h;obtain⟨a,xs,rfl,hx,hw,q⟩:=h;cases rx;obtain⟨its,r,ht,hz⟩:=I.tuple hx;have hlen:its.toArray.size=xs.length:=by rw[lJq];exact r.length.symm
 refine⟨"tuple",_,lVi.lookup,ht.typeIs,?_⟩;refine HT.getItem_tuple_cut ht hs pl pu (by rw[hlen];exact hw) ?_ (by rw[hlen];exact hz)
 rw[hlen];refine⟨.ref s.heap.objs.size,_,I.laid (t':=s.toks) (o:= .tup (cutV xs lo hi)) (λb ob q=>lJj _ q) (lJg _) ?_,rfl,q _ (I.hok.fresh (lJg _))⟩
 exact⟨lKb (kKb xs lo hi) hz,_,(r.drop (HT.sIx xs.length 0 lo)).take (HT.sIx xs.length xs.length hi-HT.sIx xs.length 0 lo),TupD.new _ _⟩
noncomputable def qV6(K:PySem.W.Frag):R2:=λx y H Q=>∃a b xs ys,x= .ref a/\y= .ref b/\SqT K H a xs/\SqT K H b ys/\xs≠[]/\xs.length+ys.length<=sizeLine/\
 (ys=[]->Q (.ref a) H)/\(ys≠[]->∀p,H p=none->Q (.ref p) (upd H p (.tup (xs++ys))))
theorem Vals.nil_iff{xs:List V}{us:List Value}(r:Vals xs us):us=[]↔xs=[]:=by
 cases r with
 | nil=>simp
 | cons _ _=>simp
theorem uJd:OpR X (binaryOp .Add) (qV6 X.K):=by
 intro pins s σ H x y v u Q I rx ry h;obtain⟨a,b,xs,ys,rfl,rfl,ha,hb,hx,hz,q1,q2⟩:=h;cases rx;cases ry;obtain⟨its,r1,p1,_⟩:=I.tuple ha;obtain⟨its2,r2,p2,_⟩:=I.tuple hb;refine HT.cat_tup p1 p2 (λz=>hx (r1.nil_iff.mp z)) (λz=>⟨.ref a,H,I,rfl,q1 (r2.nil_iff.mp z)⟩) (λz=> ?_) (by rw[<-r1.length,<-r2.length];exact hz)
 refine⟨.ref s.heap.objs.size,_,I.laid (t':=s.toks) (o:= .tup (xs++ys)) (λb ob q=>lJj _ q) (lJg _) ?_,rfl,q2 (λw=>z (r2.nil_iff.mpr w)) _ (I.hok.fresh (lJg _))⟩
 exact⟨by rw[lJ9];exact hz,_,r1.append r2,TupD.new _ _⟩
end
def ixN(n:Nat)(i:Int):Option Nat:=if 0<=i then (if i<n then some i.toNat else none) else if -(n:Int)<=i then some (i+n).toNat else none
def atI{α:Type}(xs:List α)(i:Int):Option α:=(ixN xs.length i).bind λj=>xs[j]?
theorem qQ0{n:Nat}{i:Int}{j:Nat}(h:ixN n i=some j):seqIndex? i n=some j/\j<n/\ -(n:Int)<=i/\i<n:=by
 unfold ixN at h
 by_cases h0:0<=i
 .rw[lJc h0] at h
  by_cases h1:i<n
  .rw[lJc h1] at h;have e:i.toNat=j:=lJn h;exact⟨by rw[seqIndex_of h0 h1,e],by omega,by omega,h1⟩
  .rw[lJb h1] at h;cases h
 .rw[lJb h0] at h
  by_cases h1: -(n:Int)<=i
  .rw[lJc h1] at h;have e:(i+n).toNat=j:=lJn h;exact⟨by rw[seqIndex_neg (by omega) h1,e],by omega,h1,by omega⟩
  .rw[lJb h1] at h;cases h
theorem qU8{α:Type}{xs:List α}{i:Int}{v:α}(h:atI xs i=some v):∃j,seqIndex? i xs.length=some j/\xs[j]? =some v/\j<xs.length/\ -(xs.length:Int)<=i/\i<xs.length:=by
 unfold atI at h;cases e:ixN xs.length i with
 | none=>rw[e] at h;cases h
 | some j=>
  rw[e] at h;obtain⟨h1,h2,h3,h4⟩:=qQ0 e;exact⟨j,h1,h,h2,h3,h4⟩
def uKq(b:Expr):Prop:=∀o i,subscripted b false o i=operate [o,i] (getItem o i)
def IxR(X:Cx)(r:R2):Prop:=
 ∀(value slice:Expr)(pins:List (Addr×Obj))(s:Shared)(σ:St)(H:Hp)(x y:V)(v u:Value)(Q:VK),Inv X pins σ H s->RelV x v->RelV y u->r x y H Q->
  subscripted slice false v u=operate [v,u] (getItem v u)->wpAny (model X.prog X.w) X.A (subscriptTail value slice v u) (EP X pins σ Q) X.xe s
def MtR(X:Cx)(id:String)(r:V->List V->Hp->VK->Prop):Prop:=
 ∀(pins:List (Addr×Obj))(s:Shared)(σ:St)(H:Hp)(x:V)(xs:List V)(v:Value)(us:List Value)(Q:VK),Inv X pins σ H s->RelV x v->Vals xs us->r x xs H Q->
  wpAny (model X.prog X.w) X.A (call (.builtin id) (v::us)) (EP X pins σ Q) X.xe s
section
variable {X:Cx}{a b:Expr}{ta tb:TE}{pos:Pos}
theorem IxR.or{r r':R2}(h:IxR X r)(h':IxR X r'):IxR X (λx y H Q=>r x y H Q\/r' x y H Q):=by
 intro value slice pins s σ H x y v u Q I rx ry q hs
 rcases q with q | q
 .exact h value slice pins s σ H x y v u Q I rx ry q hs
 .exact h' value slice pins s σ H x y v u Q I rx ry q hs
def rIxL(K:PySem.W.Frag):R2:=λx y H Q=>∃p xs i v,x= .ref p/\y= .int i/\SqL K H p xs/\atI xs i=some v/\Q v H
def rIxT(K:PySem.W.Frag):R2:=λx y H Q=>∃p xs i v,x= .ref p/\y= .int i/\SqT K H p xs/\atI xs i=some v/\Q v H
theorem ix_list:IxR X (rIxL X.K):=by
 intro value slice pins s σ H x y v u Q I rx ry h hs;obtain⟨p,xs,i,z,rfl,rfl,hq,he,q⟩:=h;cases rx;obtain⟨t,rfl⟩:=ry;obtain⟨its,r,pl,hz⟩:=I.list hq;obtain⟨j,h1,h2,h3,h4,h5⟩:=qU8 he;obtain⟨w,ew,rw'⟩:=r.get h2;have hl:=r.length;have hn:=kJs;have fin:EP X pins σ Q w s:=⟨z,H,I,rw',q⟩
 by_cases h0:0<=i
 .have hj:i.toNat=j:=by
   rw[seqIndex_of h0 h5] at h1;exact lJn h1
  exact item_listR pl.isList h0 (by omega) (by rw[hj];simpa using ew) fin hs
 .have hj:(i+(its.toArray.size:Int)).toNat=j:=by
   rw[seqIndex_neg (by omega) h4] at h1
   rw[lJq,<-hl];exact lJn h1
  exact subscriptTail_builtinR (x:=w) pl.isList.typeIs slot_list_getitem.lookup
   (wpAny_getItem_list_neg (Q:=λr s'=>r=w/\EP X pins σ Q r s') pl.isList (by omega) (by rw[lJq]<;>omega) (by omega) (by rw[hj];simpa using ew) ⟨rfl,fin⟩) hs
theorem uUj:IxR X (rIxT X.K):=by
 intro value slice pins s σ H x y v u Q I rx ry h hs;obtain⟨p,xs,i,z,rfl,rfl,hq,he,q⟩:=h;cases rx;obtain⟨t,rfl⟩:=ry;obtain⟨its,r,pl,hz⟩:=I.tuple hq;obtain⟨j,h1,h2,h3,h4,h5⟩:=qU8 he;obtain⟨w,ew,rw'⟩:=r.get h2;have hl:=r.length;have hn:=kJs;have fin:EP X pins σ Q w s:=⟨z,H,I,rw',q⟩
 exact subscriptTail_builtinR (x:=w) pl.typeIs slot_tuple_getitem.lookup
  (getItem_tuple (j:=j) (Q:=λr s'=>r=w/\EP X pins σ Q r s') pl (by omega) (by omega) (by rw[lJq,<-hl];exact h1) (by simpa using ew) ⟨rfl,fin⟩) hs
theorem qJl(its:List Value)(n j:Nat)(u:Value):Obj.mapSeq (·.setIfInBounds j u) {cls:= .type "list",data:= .seq its.toArray n}={cls:= .type "list",data:= .seq (its.set j u).toArray n}:=by
 simp[Obj.mapSeq]
theorem Inv.lst{pins:List (Addr×Obj)}{σ:St}{H:Hp}{s:Shared}{p:Addr}{xs:List V}(I:Inv X pins σ H s)(h:H p=some (.lst xs)):
  ∃(its:List Value)(n:Nat),Vals xs its/\s.heap.get? p=some {cls:= .type "list",data:= .seq its.toArray n}/\xs.length<=sizeLine:=by
 obtain⟨z,its,n,r,e⟩:=I.hok p _ h;exact⟨its,n,r,e,z⟩
theorem Inv.lstUpd{pins:List (Addr×Obj)}{σ:St}{H:Hp}{s:Shared}{p:Addr}{xs ys:List V}{its its':List Value}{n n':Nat}{f:Obj->Obj}(I:Inv X pins σ H s)(h:H p=some (.lst xs))
  (ho:s.heap.get? p=some {cls:= .type "list",data:= .seq its.toArray n}) (hf:f {cls:= .type "list",data:= .seq its.toArray n}={cls:= .type "list",data:= .seq its'.toArray n'}) (r:Vals ys its') (hz:ys.length<=sizeLine) (t:Nat):
  Inv X pins σ (upd H p (.lst ys)) {s with heap:=s.heap.update p f,toks:=t}:=by
 have e:(s.heap.update p f).get? p=some {cls:= .type "list",data:= .seq its'.toArray n'}:=by
  rw[lK2 f ho (by rw[hf]<;>rfl),hf]
 refine I.write (x:=p) (e:=p) (by rw[h];trivial) (.inl rfl) (λb u hb q=>(lQ2 _ _ (Ne.symm hb)).trans q) ⟨_,e⟩ ?_
 exact⟨hz,its',n',r,e⟩
def qV3:V->V->V->Hp->(Hp->Prop)->Prop:=λo i v H Q=>∃p xs k j,o= .ref p/\i= .int k/\H p=some (.lst xs)/\ixN xs.length k=some j/\Q (upd H p (.lst (xs.set j v)))
theorem qVs:PSet X qV3:=by
 intro pins s σ H o i v ov iv u Q I ro ri rv h;obtain⟨p,xs,k,j,rfl,rfl,hp,hj,q⟩:=h;cases ro;obtain⟨t,rfl⟩:=ri;obtain⟨its,n,r,ho,hz⟩:=I.lst hp;obtain⟨h1,h2,h3,h4⟩:=qQ0 hj;have hl:=r.length;have hn:=kJs
 have I':Inv X pins σ (upd H p (.lst (xs.set j v))) {s with heap:=s.heap.update p (Obj.mapSeq (·.setIfInBounds j u))}:=
  I.lstUpd hp ho (qJl its n j u) (r.set rv j) (by rw[lQt];exact hz) s.toks
 by_cases h0:0<=k
 .have hk:k.toNat=j:=by
   rw[seqIndex_of h0 h4] at h1;exact lJn h1
  exact PySem.W.ki_setAt ho h0 (by omega) (by rw[lJq,<-hl];exact h4) (by rw[hk];exact⟨_,I',q⟩)
 .have hk:(k+(its.toArray.size:Int)).toNat=j:=by
   rw[seqIndex_neg (by omega) h3] at h1
   rw[lJq,<-hl];exact lJn h1
  exact PySem.W.ki_setBack ho (by omega) (by rw[lJq,<-hl];exact h3) (by omega) (by rw[hk];exact⟨_,I',q⟩)
theorem kU3(lo hi:Option Int)(n:Nat):(sliceBounds lo hi none n).1=((HT.sIx n 0 lo:Nat):Int)/\(sliceBounds lo hi none n).2.1=((HT.sIx n n hi:Nat):Int)/\(sliceBounds lo hi none n).2.2=1:=by
 refine⟨?_,?_,rfl⟩
 .cases lo with
  | none=>simp[sliceBounds,HT.sIx]
  | some i=>
   simp only[sliceBounds,HT.sIx,lXl,show (1:Int)>0 by decide,lJ7]
   by_cases h:i<0
   .simp only[h,lJ7]<;>omega
   .simp only[h,lJt]<;>omega
 .cases hi with
  | none=>simp[sliceBounds,HT.sIx]
  | some i=>
   simp only[sliceBounds,HT.sIx,lXl,show (1:Int)>0 by decide,lJ7]
   by_cases h:i<0
   .simp only[h,lJ7]<;>omega
   .simp only[h,lJt]<;>omega
theorem kQv(its:List Value)(lo hi:Option Int):slicePick its.toArray lo hi none=((its.drop (HT.sIx its.length 0 lo)).take (HT.sIx its.length its.length hi-HT.sIx its.length 0 lo)).toArray:=by
 obtain⟨h1,h2,h3⟩:=kU3 lo hi its.toArray.size;unfold slicePick;rw[h1,h2,h3];simp only[sliceRange_one,pick_run,lJq]<;>rfl
def rSlL(K:PySem.W.Frag):V->Option Int->Option Int->Hp->VK->Prop:=λx lo hi H Q=>∃a xs,x= .ref a/\SqL K H a xs/\∀p,H p=none->Q (.ref p) (upd H p (.lst (cutV xs lo hi)))
theorem qZy:SlR X (rSlL X.K):=by
 intro pins s σ H x v vl vu lo hi sl Q I rx hs pl pu h;obtain⟨a,xs,rfl,hx,q⟩:=h;cases rx;obtain⟨its,r,ht,hz⟩:=I.list hx;have hlen:=r.length;refine⟨"list",_,slot_list_getitem.lookup,ht.isList.typeIs,?_⟩;refine wpAny_getItem_list_slice ht.isList hs pl pu .none (by simp) ?_ (by rw[lJq]<;>omega)
 rw[kQv,<-hlen];refine⟨.ref s.heap.objs.size,_,I.laid (t':=s.toks) (o:= .lst (cutV xs lo hi)) (λb ob q=>lJj _ q) (lJg _) ?_,rfl,q _ (I.hok.fresh (lJg _))⟩
 exact⟨lKb (kKb xs lo hi) hz,_,0,(r.drop (HT.sIx xs.length 0 lo)).take (HT.sIx xs.length xs.length hi-HT.sIx xs.length 0 lo),lJ1 _ rfl⟩
def kKw:V->Bool
 | .non=>true
 | .bl _=>true
 | .int _=>true
 | .str _=>true
 | _=>false
noncomputable def eqV:V->V->Bool
 | .non,.non=>true
 | .bl a,.bl b=>a == b
 | .bl a,.int b=>(if a then 1 else 0) == b
 | .int a,.bl b=>a == (if b then 1 else 0)
 | .int a,.int b=>a == b
 | .str a,.str b=>a == b
 | _,_=>false
theorem uUr{A:Around}{s:Shared}{y x:V}{u v:Value}(ry:RelV y u)(rx:RelV x v)(fy:kKw y=true)(fx:kKw x=true):SeqAt.EqAt A s u v (eqV y x):=by
 cases y with
 | non=>
  cases ry;cases x with
  | non=>cases rx;exact SeqAt.EqAt.same _
  | bl b=>cases rx;exact SeqAt.EqAt.none_bool b
  | int b=>obtain⟨t,rfl⟩:=rx;exact SeqAt.EqAt.none_int b t
  | str b=>obtain⟨t,rfl⟩:=rx;exact SeqAt.EqAt.none_str b t
  | _=>exact absurd (show false=true from fx) lJl
 | bl a=>
  cases ry;cases x with
  | non=>cases rx;exact SeqAt.EqAt.bool_none a
  | bl b=>cases rx;exact SeqAt.EqAt.bool_bool a b
  | int b=>obtain⟨t,rfl⟩:=rx;exact SeqAt.EqAt.bool_int a b t
  | str b=>obtain⟨t,rfl⟩:=rx;exact SeqAt.EqAt.bool_str a b t
  | _=>exact absurd (show false=true from fx) lJl
 | int a=>
  obtain⟨t',rfl⟩:=ry;cases x with
  | non=>cases rx;exact SeqAt.EqAt.int_none a t'
  | bl b=>cases rx;exact SeqAt.EqAt.int_bool a t' b
  | int b=>obtain⟨t,rfl⟩:=rx;exact SeqAt.EqAt.int_int a t' b t
  | str b=>obtain⟨t,rfl⟩:=rx;exact SeqAt.EqAt.int_str a t' b t
  | _=>exact absurd (show false=true from fx) lJl
 | str a=>
  obtain⟨t',rfl⟩:=ry;cases x with
  | non=>cases rx;exact SeqAt.EqAt.str_none a t'
  | bl b=>cases rx;exact SeqAt.EqAt.str_bool a t' b
  | int b=>obtain⟨t,rfl⟩:=rx;exact SeqAt.EqAt.str_int a t' b t
  | str b=>obtain⟨t,rfl⟩:=rx;exact SeqAt.EqAt.str_str a t' b t
  | _=>exact absurd (show false=true from fx) lJl
 | _=>exact absurd (show false=true from fy) lJl
def eqU(x:V)(u:Value):Bool:=match u with
 | .none=>eqV .non x
 | .bool b=>eqV (.bl b) x
 | .int i _=>eqV (.int i) x
 | .str z _=>eqV (.str z) x
 | _=>false
theorem kZp{x y:V}{u:Value}(r:RelV y u)(f:kKw y=true):eqU x u=eqV y x:=by
 cases y with
 | non=>cases r;rfl
 | bl b=>cases r;rfl
 | int i=>obtain⟨t,rfl⟩:=r;rfl
 | str z=>obtain⟨t,rfl⟩:=r;rfl
 | _=>exact absurd (show false=true from f) lJl
theorem kKf{x:V}:∀{xs:List V}{us:List Value},Vals xs us->xs.all kKw=true->us.any (eqU x)=xs.any λy=>eqV y x
 | _,_,.nil,_=>rfl
 | y::xs,u::us,.cons r t,f=>by
  rw[lQl,lKl] at f;rw[lK3,lK3,kZp r f.1,kKf t f.2]
theorem jVt{A:Around}{s:Shared}{x:V}{v:Value}(rx:RelV x v)(fx:kKw x=true):∀{xs:List V}{us:List Value},Vals xs us->xs.all kKw=true->∀u∈us,SeqAt.EqAt A s u v (eqU x u)
 | _,_,.nil,_=>λu hu=>by cases hu
 | y::xs,u::us,.cons r t,f=>λu' hu=>by
  rw[lQl,lKl] at f
  rcases (lJk.mp hu) with rfl | hu
  .rw[kZp r f.1];exact uUr r rx f.1 fx
  .exact jVt rx fx t f.2 u' hu
def inV(x:V)(xs:List V):Bool:=xs.any λy=>eqV y x
def rIn(K:PySem.W.Frag)(neg:Bool):R2:=λx y H Q=>∃p xs,y= .ref p/\(SqL K H p xs\/SqT K H p xs)/\kKw x=true/\xs.all kKw=true/\Q (.bl (if neg then !inV x xs else inV x xs)) H
theorem qQh:OpR X (compareOp .In) (rIn X.K false):=by
 intro pins s σ H x y v u Q I rx ry h;obtain⟨p,xs,rfl,hq,fx,fs,q⟩:=h;cases ry
 rcases hq with hq | hq
 .obtain⟨its,r,pl,hz⟩:=I.list hq;refine SeqAt.in_listAt (eqU x) pl.isList (λw hw=>jVt rx fx r fs w (by simpa using hw)) ⟨.bl _,H,I,rfl,?_⟩
  rw[show its.toArray.any (eqU x)=its.any (eqU x) by simp,kKf r fs]
  exact q
 .obtain⟨its,r,pl,hz⟩:=I.tuple hq;refine SeqAt.in_tupleAt (eqU x) pl (λw hw=>jVt rx fx r fs w (by simpa using hw)) ⟨.bl _,H,I,rfl,?_⟩
  rw[show its.toArray.any (eqU x)=its.any (eqU x) by simp,kKf r fs]
  exact q
theorem kU8:OpR X (compareOp .NotIn) (rIn X.K true):=by
 intro pins s σ H x y v u Q I rx ry h;obtain⟨p,xs,rfl,hq,fx,fs,q⟩:=h;cases ry
 rcases hq with hq | hq
 .obtain⟨its,r,pl,hz⟩:=I.list hq;refine SeqAt.notIn_listAt (eqU x) pl.isList (λw hw=>jVt rx fx r fs w (by simpa using hw)) ⟨.bl _,H,I,rfl,?_⟩
  rw[show its.toArray.any (eqU x)=its.any (eqU x) by simp,kKf r fs]
  exact q
 .obtain⟨its,r,pl,hz⟩:=I.tuple hq;refine SeqAt.notIn_tupleAt (eqU x) pl (λw hw=>jVt rx fx r fs w (by simpa using hw)) ⟨.bl _,H,I,rfl,?_⟩
  rw[show its.toArray.any (eqU x)=its.any (eqU x) by simp,kKf r fs]
  exact q
theorem kV1:kXd X (.builtin "len") (λxs H Q=>∃p ys,xs=[.ref p]/\(SqL X.K H p ys\/SqT X.K H p ys)/\Q (.int ys.length) H):=by
 intro pins s σ H xs us Q I r h;obtain⟨p,ys,rfl,hq,q⟩:=h;obtain⟨u,rfl,rx⟩:=kZ7 r;cases rx;have hn:=kJs
 rcases hq with hq | hq
 .obtain⟨its,r',pl,hz⟩:=I.list hq;have hlen:=r'.length;exact Calls.call_len_list pl.isList (by simp only[lJq]<;>omega) ⟨.int ys.length,H,I.tok _,⟨s.toks+1,by rw[lJq,hlen]⟩,q⟩
 .obtain⟨its,r',pl,hz⟩:=I.tuple hq;have hlen:=r'.length;exact len_tuple pl (by simp only[lJq]<;>omega) ⟨.int ys.length,H,I.tok _,⟨s.toks+1,by rw[lJq,hlen]⟩,q⟩
theorem kV0:kXd X (.type "list") (λxs H Q=>∃p ys,xs=[.ref p]/\(SqL X.K H p ys\/SqT X.K H p ys)/\∀l,H l=none->Q (.ref l) (upd H l (.lst ys))):=by
 intro pins s σ H xs us Q I r h;obtain⟨p,ys,rfl,hq,q⟩:=h;obtain⟨u,rfl,rx⟩:=kZ7 r;cases rx
 have fin:∀(its:List Value),Vals ys its->ys.length<=sizeLine->∀(h':Heap)(c':Nat),(∀b o',s.heap.get? b=some o'->h'.get? b=some o')->
   h'.get? s.heap.objs.size=some {cls:= .type "list",dict:=none,data:= .seq its.toArray c',slots:= #[]}->EP X pins σ Q (.ref s.heap.objs.size) {s with heap:=h'}:=λits r' hz h' c' kp e=>
  ⟨.ref s.heap.objs.size,_,I.laid (t':=s.toks) kp (lJg _) (show ObjOk X.prog X.w _ h' _ (.lst ys) from⟨hz,its,c',r',e⟩),rfl,q _ (I.hok.fresh (lJg _))⟩
 rcases hq with hq | hq
 .obtain⟨its,r',pl,hz⟩:=I.list hq;have hlen:=r'.length;obtain⟨o,ho,hc,n,hd⟩:=pl.isList;exact call_list_seq p (.inl rfl) ho hc hd (λh' c' kp e=>fin its r' hz h' c' kp e) (by simp only[lJq]<;>omega)
 .obtain⟨its,r',pl,hz⟩:=I.tuple hq;have hlen:=r'.length;obtain⟨o,ho,hc,n,hd⟩:=pl;exact call_list_seq p (.inr rfl) ho hc hd (λh' c' kp e=>fin its r' hz h' c' kp e) (by simp only[lJq]<;>omega)
theorem kUp:kXd X (.type "tuple") (λxs H Q=>∃p ys,xs=[.ref p]/\((SqL X.K H p ys/\∀l,H l=none->Q (.ref l) (upd H l (.tup ys)))\/(SqT X.K H p ys/\Q (.ref p) H))):=by
 intro pins s σ H xs us Q I r h;obtain⟨p,ys,rfl,h⟩:=h;obtain⟨u,rfl,rx⟩:=kZ7 r;cases rx
 rcases h with ⟨hq,q⟩ | ⟨hq,q⟩
 .obtain⟨its,r',pl,hz⟩:=I.list hq;have hlen:=r'.length;refine call_tuple_list pl.isList (λh' kp=> ?_) (by simp only[lJq]<;>omega)
  have I1:Inv X pins σ H {s with heap:=h'}:=I.kept (t':=s.toks) kp
  have I2:Inv X pins σ (upd H h'.objs.size (.tup ys)) {s with heap:=h'.push {cls:= .type "tuple",data:= .seq its.toArray} }:=
   I1.laid (t':=s.toks) (λb o e=>lJj _ e) (lJg _) (show ObjOk X.prog X.w _ _ _ (.tup ys) from⟨hz,its,r',TupD.new _ _⟩)
  exact⟨.ref h'.objs.size,_,I2,rfl,q _ (I1.hok.fresh (lJg _))⟩
 .obtain⟨its,r',pl,hz⟩:=I.tuple hq;exact call_tuple_same pl ⟨.ref p,H,I,rfl,q⟩
def tyV(K:PySem.W.Frag)(T:String)(x:V)(H:Hp):Prop:=match x with
 | .str _=>T="str"
 | .int _=>T="int"
 | .ref p=>(T="list"/\∃xs,SqL K H p xs)\/(T="tuple"/\∃o,K.lookup p=some o/\o.cls= .type "tuple"/\o.dict=none)\/
   (T="dict"/\((∃kvs,H p=some (.dK kvs))\/∃kvs,H p=some (.dT kvs)))\/(T="set"/\∃S n,H p=some (.set S n))
 | _=>False
theorem uK3{pins:List (Addr×Obj)}{σ:St}{H:Hp}{s:Shared}{T:String}{x:V}{v:Value}(I:Inv X pins σ H s)(r:RelV x v)(ty:tyV X.K T x H):
  s.TypeIs v T/\∀a,v= .ref a->∃ob,s.heap.get? a=some ob/\ob.dict=none:=by
 cases x with
 | str z=>
  obtain⟨t,rfl⟩:=r;cases (show T="str" from ty)
  exact⟨typeIs_str s z t,λ_ e=>nomatch e⟩
 | int i=>
  obtain⟨t,rfl⟩:=r;cases (show T="int" from ty)
  exact⟨typeIs_int s i t,λ_ e=>nomatch e⟩
 | ref p=>
  cases r
  rcases ty with ⟨rfl,xs,hq⟩ | ⟨rfl,o,hk,hc,hd⟩ | ⟨rfl,hk⟩ | ⟨rfl,S,n,hk⟩
  .obtain⟨its,_,pl,_⟩:=I.list hq;refine⟨pl.isList.typeIs,λa e=> ?_⟩
   cases e;obtain⟨o,n,e,c,hd,_⟩:=pl;exact⟨o,e,hd⟩
  .refine⟨⟨o,I.kIn p o hk,hc⟩,λa e=> ?_⟩
   cases e;exact⟨o,I.kIn _ o hk,hd⟩
  .have z:∃o,s.heap.get? p=some o/\o.ExactDict:=by
    rcases hk with ⟨kvs,hk⟩ | ⟨kvs,hk⟩
    .obtain⟨_,_,_,_,o,_,_,e,ex,_⟩:=I.hok p _ hk;exact⟨o,e,ex⟩
    .obtain⟨_,_,_,_,o,_,_,e,ex,_⟩:=I.hok p _ hk;exact⟨o,e,ex⟩
   obtain⟨o,e,ex⟩:=z;refine⟨⟨o,e,ex.1⟩,λa e2=> ?_⟩
   cases e2;exact⟨o,e,ex.2.1⟩
  .obtain⟨o,_,_,_,e,ex,_⟩:=I.hok p _ hk;refine⟨⟨o,e,ex.1⟩,λa e2=> ?_⟩
   cases e2;exact⟨o,e,ex.2.1⟩
 | _=>exact False.elim ty
variable {o e:Expr}{es:List Expr}{to:TE}{t:TA}{name:Str}{apos cpos:Pos}{T id:String}{r:V->List V->Hp->VK->Prop}
end
def MtM(X:Cx)(id:String)(r:V->List V->Hp->VK->Prop):Prop:=
 ∀(pins:List (Addr×Obj))(s:Shared)(σ:St)(H:Hp)(x:V)(xs:List V)(v:Value)(us:List Value)(Q:VK),Inv X pins σ H s->RelV x v->Vals xs us->r x xs H Q->
  wpAny (model X.prog X.w) X.A (call (.builtin id) (v::us)) (EP X pins σ Q) X.xe s
theorem Vals.one{x:V}{us:List Value}(h:Vals [x] us):∃u,us=[u]/\RelV x u:=by
 cases h with | cons r t=>(cases t;exact⟨_,rfl,r⟩)
theorem Vals.two{x y:V}{us:List Value}(h:Vals [x,y] us):∃u v,us=[u,v]/\RelV x u/\RelV y v:=by
 cases h with | cons r t=>(cases t with | cons q t=>(cases t;exact⟨_,_,rfl,r,q⟩))
theorem Vals.reverse{xs:List V}{us:List Value}(h:Vals xs us):Vals xs.reverse us.reverse:=by
 induction h with
 | nil=>exact .nil
 | cons r t ih=>rw[lXm,lXm];exact Vals.append ih (.cons r .nil)
theorem Vals.rep{xs:List V}{us:List Value}(h:Vals xs us):∀k:Nat,Vals (List.replicate k xs).flatten (List.replicate k us).flatten
 | 0=> .nil
 | k+1=>by
  rw[lK8,lK8,lQ3,lQ3];exact Vals.append h (Vals.rep h k)
theorem kVr(its:List Value):∀(k:Nat)(acc:List Value),
  List.foldl (λx1 x2=>x1++x2) acc.toArray (List.replicate k its.toArray)=(acc++(List.replicate k its).flatten).toArray
 | 0,acc=>by simp
 | k+1,acc=>by
  have e:acc.toArray++its.toArray=(acc++its).toArray:=by simp
  have e2:(acc++its)++(List.replicate k its).flatten=acc++(List.replicate (k+1) its).flatten:=by
   rw[lK8,lQ3,lXn]
  rw[<-e2,<-kVr its k (acc++its),<-e,lK8,List.foldl_cons]
section
variable {X:Cx}{pins:List (Addr×Obj)}{σ:St}{H:Hp}{s:Shared}{l b:Addr}{xs ys zs:List V}
theorem Inv.lset{its its':List Value}{n:Nat}{f:Array Value->Array Value}{t':Nat}(I:Inv X pins σ H s)(hH:H l=some (.lst xs))
  (e:s.heap.get? l=some {cls:= .type "list",data:= .seq its.toArray n}) (hf:f its.toArray=its'.toArray) (hv:Vals ys its') (hz:ys.length<=sizeLine):
  Inv X pins σ (upd H l (.lst ys)) {s with heap:=s.heap.update l (Obj.mapSeq f),toks:=t'}:=by
 have q:=PySem.IsL.update e f;rw[hf] at q;refine I.write (x:=l) (e:=l) (by rw[hH];exact trivial) (.inl rfl) (λb' u hb hu=>(lQ2 s.heap (Obj.mapSeq f) (Ne.symm hb)).trans hu) ⟨_,q⟩ ?_
 exact⟨hz,its',_,hv,q⟩
theorem Inv.lnew{its:List Value}{t':Nat}(I:Inv X pins σ H s)(hv:Vals ys its)(hz:ys.length<=sizeLine):
  Inv X pins σ (upd H s.heap.objs.size (.lst ys)) {s with heap:=s.heap.push {cls:= .type "list",data:= .seq its.toArray},toks:=t'}:=
 I.laid (λ_ _ q=>lJj _ q) (lJg _) ⟨hz,its,0,hv,lJ1 _ rfl⟩
theorem Inv.fresh(I:Inv X pins σ H s):H s.heap.objs.size=none:=I.hok.fresh (lJg _)
theorem Inv.lstM(I:Inv X pins σ H s)(hH:H l=some (.lst xs)):xs.length<=sizeLine/\∃(its:List Value)(n:Nat),Vals xs its/\xs.length=its.length/\s.heap.get? l=some {cls:= .type "list",data:= .seq its.toArray n}:=by
 obtain⟨z,its,n,r,e⟩:=I.hok l _ hH;exact⟨z,its,n,r,r.length,e⟩
theorem qXh{n:Nat}(h:n<=sizeLine):Builtin.List.listTooLong n=false:=by
 unfold Builtin.List.listTooLong;exact lJo (by omega)
end
section
variable {X:Cx}
def jQo:V->List V->Hp->VK->Prop:=λx vs H Q=>∃l xs y,x= .ref l/\vs=[y]/\H l=some (.lst xs)/\xs.length<sizeLine/\Q .non (upd H l (.lst (xs++[y])))
theorem qQq:MtM X "list.append" jQo:=by
 intro pins s σ H x vs v us Q I rx rv h;obtain⟨l,xs,y,rfl,rfl,hH,hz,q⟩:=h;cases rx;obtain⟨u,rfl,ru⟩:=rv.one;obtain⟨z,its,n,r,hl,e⟩:=I.lstM hH;refine lQ9 F.slot_list_append ⟨_,e,rfl⟩ F.entry_list_append (F.args_list_append_2 _ _) (PySem.list_append l its.toArray n u (by rw[lJq];omega)) ⟨e,?_⟩
 refine⟨.non,_,I.lset (its':=its++[u]) hH e (by simp) (r.append (.cons ru .nil)) ?_,rfl,q⟩
 rw[lJ9,List.length_singleton];omega
noncomputable def rCat:R2:=λx y H Q=>∃l b xs zs,x= .ref l/\y= .ref b/\H l=some (.lst xs)/\H b=some (.lst zs)/\xs.length+zs.length<=sizeLine/\∀p,H p=none->Q (.ref p) (upd H p (.lst (xs++zs)))
theorem uQx:OpR X (binaryOp .Add) rCat:=by
 intro pins s σ H x y v u Q I rx ry h;obtain⟨l,b,xs,zs,rfl,rfl,hH,hB,hz,q⟩:=h;cases rx;cases ry;obtain⟨z,its,n,r,hl,e⟩:=I.lstM hH;obtain⟨z2,its2,n2,r2,hl2,e2⟩:=I.lstM hB;refine PySem.P.add_list e e2 ?_ (by rw[lJq,lJq];omega)
 have ea:its.toArray++its2.toArray=(its++its2).toArray:=by simp
 rw[ea];exact⟨.ref _,_,I.lnew (t':=s.toks) (r.append r2) (by rw[lJ9];omega),rfl,q _ I.fresh⟩
noncomputable def rRep:R2:=λx y H Q=>∃l k xs,x= .ref l/\y= .int k/\H l=some (.lst xs)/\ -(2^63)<=k/\k<2^63/\xs.length*k.toNat<=sizeLine/\
 ∀p,H p=none->Q (.ref p) (upd H p (.lst (List.replicate k.toNat xs).flatten))
theorem uJr{α:Type}(xs:List α)(k:Nat):(List.replicate k xs).flatten.length=k*xs.length:=by
 induction k with
 | zero=>simp
 | succ k ih=>rw[lK8,lQ3,lJ9,ih,lQu,Nat.add_comm]
theorem uQs:OpR X (binaryOp .Mult) rRep:=by
 intro pins s σ H x y v u Q I rx ry h;obtain⟨l,k,xs,rfl,rfl,hH,h1,h2,hz,q⟩:=h;cases rx;obtain⟨t,rfl⟩:=ry;obtain⟨z,its,n,r,hl,e⟩:=I.lstM hH;have hlen:its.toArray.size*k.toNat<=sizeLine:=by rw[lJq,<-hl];exact hz
 have hcap:¬ its.toArray.size*k.toNat>(2^63-1) / 8:=by
  have:(sizeLine:Nat)<=(2^63-1) / 8:=by decide
  omega
 have hfit:¬ (!Builtin.List.listFitsIndex k)=true:=by
  rw[fitsIndex_both h1 h2];exact lJl
 have hlong:¬ Builtin.List.listTooLong (its.toArray.size*k.toNat)=true:=by
  rw[qXh hlen];exact lJl
 have hnew:List.foldl (λx1 x2=>x1++x2) #[] (List.replicate (if its.toArray.isEmpty=true then 0 else k.toNat) its.toArray)=(List.replicate k.toNat its).flatten.toArray:=by
  have f0:∀m:Nat,List.foldl (λx1 x2=>x1++x2) #[] (List.replicate m its.toArray)=(List.replicate m its).flatten.toArray:=λm=>by
   have:=kVr its m [];rw[List.nil_append] at this;exact this
  rw[f0];cases its with
  | nil=>simp
  | cons a r'=>rw[lJb (by simp)]
 refine wpAny_binaryOp_repeat_ref (T:="list") (U:="int") (by decide) ⟨_,e,rfl⟩ (λs'=>typeIs_int s' k t) noFill_list_mul F.fills_int_mul F.slot_int_rmul repeat_list F.slot_int_index.lookup
  (lQ9 F.slot_int_rmul (typeIs_int s k t) F.entry_int_rmul (F.args_int_rmul_2 _ _) (int___rmul___int_list k t l its.toArray n)
   ⟨e,rfl,⟨_,e,rfl⟩,lQ9 F.slot_list_mul ⟨_,e,rfl⟩ F.entry_list_mul (F.args_list_mul_2 _ _) (AutoListH.list___mul___list_int_3 l its.toArray n k t hfit hcap hlong) ⟨e,?_⟩⟩)
 rw[hnew];exact⟨.ref _,_,I.lnew (t':=s.toks) (r.rep k.toNat) (by rw[uJr,lXo];exact hz),rfl,q _ I.fresh⟩
end
section
variable {prog:Program}{w:World}{A:Around}{E:Value->Shared->Prop}{s:Shared}
end
section
variable {X:Cx}
end
section
variable {κ:Type}[DecidableEq κ]
def valV(kvs:List (κ×V))(k:κ):Option V:=(kvs.find? λkv=>decide (kv.1=k)).map (·.2)
def putK(kvs:List (κ×V))(k:κ)(v:V):List (κ×V):=
 if (kvs.any λkv=>decide (kv.1=k))=true then kvs.map (λkv=>if kv.1=k then (kv.1,v) else kv) else kvs++[(k,v)]
theorem jZp{p:κ×V}{r:List (κ×V)}{k:κ}(e:p.1=k):valV (p::r) k=some p.2:=by simp[valV,lKm,e]
theorem jZq{p:κ×V}{r:List (κ×V)}{k:κ}(e:¬ p.1=k):valV (p::r) k=valV r k:=by simp[valV,lKm,e]
theorem kYt(k:κ):∀kvs:List (κ×V),(kvs.any λkv=>decide (kv.1=k))=(valV kvs k).isSome
 | []=>rfl
 | p::r=>by
  rw[lK3]
  by_cases e:p.1=k
  .simp only[jZp e,lKa e,Bool.true_or,Option.isSome_some]
  .rw[jZq e,lJo e,Bool.false_or];exact kYt k r
theorem kJt(kvs:List (κ×V))(k:κ)(v:V):(putK kvs k v).length<=kvs.length+1:=by
 unfold putK;split
 .rw[lJf];omega
 .rw[lJ9,lKj,lVx];omega
theorem RelO.isSome_eq{o:Option V}{u:Option Value}(r:RelO o u):o.isSome=u.isSome:=by
 cases o with
 | none=>cases u with
  | none=>rfl
  | some _=>exact (show False from r).elim
 | some _=>cases u with
  | none=>exact (show False from r).elim
  | some _=>rfl
theorem KV.val{kvs:List (κ×V)}{vs:List (κ×Value)}(r:KV kvs vs)(k:κ):RelO (valV kvs k) (valueAt vs k):=by
 unfold KV at r
 induction r with
 | nil=>exact True.intro
 | @cons p q ps qs h t ih=>
  obtain⟨h1,h2⟩:=h
  by_cases e:p.1=k
  .have e':q.1=k:=h1.symm.trans e;have b:valueAt (q::qs) k=some q.2:=by simp[valueAt,lKm,e']
   rw[jZp e,b];exact h2
  .have e':¬ q.1=k:=λz=>e (h1.trans z)
   have b:valueAt (q::qs) k=valueAt qs k:=by simp[valueAt,lKm,e']
   rw[jZq e,b];exact ih
theorem KV.any{kvs:List (κ×V)}{vs:List (κ×Value)}(r:KV kvs vs)(k:κ):(kvs.any λkv=>decide (kv.1=k))=vs.any λkv=>decide (kv.1=k):=by
 unfold KV at r
 induction r with
 | nil=>rfl
 | cons h t ih=>rw[lK3,lK3,ih,h.1]
theorem KV.repl{kvs:List (κ×V)}{vs:List (κ×Value)}(r:KV kvs vs)(k:κ){y:V}{u:Value}(ry:RelV y u):
  KV (kvs.map λkv=>if kv.1=k then (kv.1,y) else kv) (vs.map λkv=>if kv.1=k then (kv.1,u) else kv):=by
 unfold KV at r ⊢
 induction r with
 | nil=>exact .nil
 | @cons p q ps qs h t ih=>
  rw[lJv,lJv];refine .cons ?_ ih;obtain⟨h1,h2⟩:=h
  by_cases e:p.1=k
  .rw[lJc e,lJc (h1.symm.trans e)];exact⟨h1,ry⟩
  .rw[lJb e,lJb (λz=>e (h1.trans z))];exact⟨h1,h2⟩
theorem KV.put{kvs:List (κ×V)}{vs:List (κ×Value)}(r:KV kvs vs)(k:κ){y:V}{u:Value}(ry:RelV y u):KV (putK kvs k y) (stored vs k u):=by
 unfold putK stored;rw[r.any k]
 by_cases e:(vs.any λkv=>decide (kv.1=k))=true
 .rw[lJc e,lJc e];exact r.repl k ry
 .rw[lJb e,lJb e];exact Paired.snoc r ⟨rfl,ry⟩
theorem KV.length{kvs:List (κ×V)}{vs:List (κ×Value)}(r:KV kvs vs):kvs.length=vs.length:=lQq r
end
theorem kVj{P:Program}{w:World}{k:Key}{u:Value}(r:RelV (kV k) u):(jK8 P w).is k u=true:=by
 cases k with
 | inl i=>obtain⟨t,e⟩:=(show ∃t,u=Value.int i t from r);subst e;exact kX6 P w i t
 | inr x=>obtain⟨t,e⟩:=(show ∃t,u=Value.str x t from r);subst e;exact kX5 P w x t
abbrev KT(H:Hp):List (TKey×V)->List (TKey×Addr×Value)->Prop:=Paired λp q=>p.1=q.1/\TKeyAt H p.1 q.2.1/\RelV p.2 q.2.2
theorem KT.val{H:Hp}{kvs:List (TKey×V)}{xs:List (TKey×Addr×Value)}(r:KT H kvs xs)(k:TKey):RelO (valV kvs k) ((atKey xs k).map (·.2)):=by
 induction r with
 | nil=>exact True.intro
 | @cons p q ps qs h t ih=>
  obtain⟨h1,_,h2⟩:=h
  by_cases e:p.1=k
  .have e':q.1=k:=h1.symm.trans e;have b:atKey (q::qs) k=some q.2:=by simp[atKey,lKm,e']
   rw[jZp e,b];exact h2
  .have e':¬ q.1=k:=λz=>e (h1.trans z)
   have b:atKey (q::qs) k=atKey qs k:=by simp[atKey,lKm,e']
   rw[jZq e,b];exact ih
theorem KT.repl{H:Hp}{kvs:List (TKey×V)}{xs:List (TKey×Addr×Value)}(r:KT H kvs xs)(k:TKey){y:V}{u:Value}(ry:RelV y u):
  KT H (kvs.map λkv=>if kv.1=k then (kv.1,y) else kv) (xs.map (putAt k u)):=by
 induction r with
 | nil=>exact .nil
 | @cons p q ps qs h t ih=>
  rw[lJv,lJv];refine .cons ?_ ih;obtain⟨h1,h2,h3⟩:=h;unfold putAt
  by_cases e:p.1=k
  .rw[lJc e,lJc (h1.symm.trans e)];exact⟨h1,h2,ry⟩
  .rw[lJb e,lJb (λz=>e (h1.trans z))];exact⟨h1,h2,h3⟩
theorem KT.put{H:Hp}{kvs:List (TKey×V)}{xs:List (TKey×Addr×Value)}(r:KT H kvs xs)(k:TKey){b:Addr}{y:V}{u:Value}(hb:TKeyAt H k b)(ry:RelV y u):
  KT H (putK kvs k y) (storedH xs k b u):=by
 have e:(kvs.any λkv=>decide (kv.1=k))=(atKey xs k).isSome:=by
  rw[kYt,(r.val k).isSome_eq,lXp]
 unfold putK storedH;rw[e]
 by_cases q:(atKey xs k).isSome=true
 .rw[lJc q,lJc q];exact r.repl k ry
 .rw[lJb q,lJb q];exact Paired.snoc r ⟨rfl,hb,ry⟩
theorem KT.keeps{H H':Hp}{kvs:List (TKey×V)}{xs:List (TKey×Addr×Value)}(r:KT H kvs xs)(ht:∀b ys,H b=some (.tup ys)->H' b=some (.tup ys)):KT H' kvs xs:=
 Paired.mapP r λ_ _ z=>⟨z.1,z.2.1.mono ht,z.2.2⟩
section
variable {P:Program}{w:World}{H:Hp}{h:Heap}{a:Addr}
theorem uQg{u:HO}(ok:HOk P w H h)(e:Rd H a u):ObjOk P w H h a u:=e.ok ok
theorem qUs{kvs:List (Key×V)}(ok:HOk P w H h)(e:Rd H a (.dK kvs)):kvs.length<=sizeLine/\(a == sysModules)=false/\∃vs,KV kvs vs/\h.DictOf (jK8 P w) a vs:=
 show ObjOk P w H h a (.dK kvs) from uQg ok e
theorem uKc{kvs:List (Key×V)}(ok:HOk P w H h)(e:H a=some (.dK kvs)):kvs.length<=sizeLine/\(a == sysModules)=false/\∃vs,KV kvs vs/\h.DictOf (jK8 P w) a vs:=qUs ok (.inl e)
theorem kZh{K:Type}[DecidableEq K]{c:Nat}{T:KeyV P w K c}{R:K->V->Prop}(hR:∀k x u,R k x->RelV x u->T.is h k u):∀{ks:List K}{xs:List V}{us:List Value},Paired R ks xs->Vals xs us->ItemsV T h ks us
 | _,_,_,.nil,.nil=> .nil
 | _,_,_,.cons r t,.cons q z=> .cons (hR _ _ _ r q) (kZh hR t z)
theorem kXg{K:Type}[DecidableEq K]{c:Nat}{T:KeyV P w K c}{R:K->V->Prop}{ks:List K}{xs:List V}{p:Addr}(ok:HOk P w H h)(hR:∀k x u,R k x->RelV x u->T.is h k u)(e:H p=some (.tup xs))(r:Paired R ks xs):qVc T h ks (.ref p):=by
 obtain⟨_,its,q,o,h1,h2,n,h3,_⟩:=(show ObjOk P w H h p (.tup xs) from ok p _ e)
 exact⟨p,o,its.toArray,n,rfl,h1,h2,h3,by simpa using kZh hR r q⟩
theorem uVk(ok:HOk P w H h)(k:K1)(x:V)(u:Value)(r:Rk1 H k x)(q:RelV x u):(vk1 P w).is h k u:=by
 cases k with
 | inl k=>cases (show x=kV k from r);exact kVj (P:=P) (w:=w) q
 | inr ks=>
  obtain⟨p,vs,rfl,e,t⟩:=(show ∃p vs,x= .ref p/\H p=some (.tup vs)/\Paired (λk v=>v=kV k) ks vs from r)
  cases (show u=Value.ref p from q)
  exact kXg (T:=kZ1 P w) ok (λk x u r q=>by subst r;exact kVj (P:=P) (w:=w) q) e t
theorem uVj(ok:HOk P w H h)(k:K2)(x:V)(u:Value)(r:Rk2 H k x)(q:RelV x u):(vk2 P w).is h k u:=by
 cases k with
 | inl k=>cases (show x=kV k from r);exact kVj (P:=P) (w:=w) q
 | inr ks=>
  obtain⟨p,vs,rfl,e,t⟩:=(show ∃p vs,x= .ref p/\H p=some (.tup vs)/\Paired (Rk1 H) ks vs from r)
  cases (show u=Value.ref p from q)
  exact kXg (T:=vk1 P w) ok (uVk ok) e t
theorem jYq{ks:TKey}(ok:HOk P w H h)(e:TKeyAt H ks a):(jKn P w).is h ks a:=by
 obtain⟨vs,h1,t⟩:=e;exact kXg (T:=vk2 P w) ok (uVj ok) h1 t
theorem kYf{kvs:List (TKey×V)}(ok:HOk P w H h)(e:Rd H a (.dT kvs)):kvs.length<=sizeLine/\(a == sysModules)=false/\
  ∃xs,KT H kvs xs/\h.DictOfH (jKn P w) a xs:=by
 obtain⟨z,y,xs,r,o,es,ep,h1,h2,h3,h4,h5⟩:=(show ObjOk P w H h a (.dT kvs) from uQg ok e)
 refine⟨z,y,xs,r,o,es,ep,h1,h2,h3,h4,λx hx=> ?_,h5⟩
 have all:∀{l:List (TKey×V)}{m:List (TKey×Addr×Value)},KT H l m->∀x∈m,(jKn P w).is h x.1 x.2.1:=by
  intro l m q
  induction q with
  | nil=>intro x hx;exact nomatch hx
  | @cons p q ps qs hq t ih=>
   intro x hx
   rcases (lJk.mp hx) with e | hx
   .subst e;exact jYq ok (by rw[<-hq.1];exact hq.2.1)
   .exact ih x hx
 exact all r x hx
theorem uUz{kvs:List (TKey×V)}(ok:HOk P w H h)(e:H a=some (.dT kvs)):kvs.length<=sizeLine/\(a == sysModules)=false/\
  ∃xs,KT H kvs xs/\h.DictOfH (jKn P w) a xs:=kYf ok (.inl e)
end
def DGet(H:Hp)(a:Addr)(y:V)(r:Option V):Prop:=
 (∃kvs k,Rd H a (.dK kvs)/\y=kV k/\r=valV kvs k)\/∃kvs k b,Rd H a (.dT kvs)/\y= .ref b/\TKeyAt H k b/\r=valV kvs k
def DPut(H:Hp)(a:Addr)(y v:V)(H':Hp):Prop:=
 (∃kvs k,H a=some (.dK kvs)/\y=kV k/\kvs.length<sizeLine/\H'=upd H a (.dK (putK kvs k v)))\/
 ∃kvs k b,H a=some (.dT kvs)/\y= .ref b/\TKeyAt H k b/\kvs.length<sizeLine/\H'=upd H a (.dT (putK kvs k v))
theorem DGet.k{H:Hp}{a:Addr}{kvs:List (Key×V)}{k:Key}(e:H a=some (.dK kvs)):DGet H a (kV k) (valV kvs k):= .inl ⟨kvs,k,.inl e,rfl,rfl⟩
theorem DGet.t{H:Hp}{a b:Addr}{kvs:List (TKey×V)}{k:TKey}(e:H a=some (.dT kvs))(eb:TKeyAt H k b):DGet H a (.ref b) (valV kvs k):= .inr ⟨kvs,k,b,.inl e,rfl,eb,rfl⟩
theorem DPut.k{H:Hp}{a:Addr}{kvs:List (Key×V)}{k:Key}{v:V}(e:H a=some (.dK kvs))(hl:kvs.length<sizeLine):DPut H a (kV k) v (upd H a (.dK (putK kvs k v))):= .inl ⟨kvs,k,e,rfl,hl,rfl⟩
theorem DPut.t{H:Hp}{a b:Addr}{kvs:List (TKey×V)}{k:TKey}{v:V}(e:H a=some (.dT kvs))(eb:TKeyAt H k b)(hl:kvs.length<sizeLine):
  DPut H a (.ref b) v (upd H a (.dT (putK kvs k v))):= .inr ⟨kvs,k,b,e,rfl,eb,hl,rfl⟩
section
variable {X:Cx}{pins:List (Addr×Obj)}{σ:St}{H:Hp}{s:Shared}{a:Addr}{y v:V}{u r:Value}{o:Option V}{A:Around}{E:Value->Shared->Prop}
theorem Inv.big(I:Inv X pins σ H s):sysModules<s.heap.objs.size:=by
 have h:mainGlobals<s.heap.objs.size:=(I.mod.glob.keeps I.bk).lt;exact Nat.lt_trans (by decide) h
theorem qUu{Q:Value->Shared->Prop}(hu:A.units+20<cLine)(I:Inv X pins σ H s)(g:DGet H a y (some v))(ry:RelV y u)(h:∀w' s',Inv X pins σ H s'->RelV v w'->Q w' s'):
  wpAny (model X.prog X.w) A (getItem (.ref a) u) Q E s:=by
 rcases g with ⟨kvs,k,e,ey,l⟩ | ⟨kvs,k,b,e,ey,eb,l⟩
 .subst ey;obtain⟨z,hd,vs,rel,dd⟩:=qUs I.hok e;obtain⟨w',hw,rw'⟩:=RelO.some_of (v:=v) (o:=valueAt vs k) (by rw[l];exact rel.val k)
  exact wpAny_getItem_of (kVj ry) dd.mapOf hw (h w' _ (I.tok _) rw')
 .subst ey;cases (show u=Value.ref b from ry)
  obtain⟨z,hd,xs,rel,dd⟩:=kYf I.hok e;obtain⟨w',hw,rw'⟩:=RelO.some_of (v:=v) (o:=(atKey xs k).map (·.2)) (by rw[l];exact rel.val k)
  obtain⟨p,hp,hp2⟩:=lVj.mp hw;refine wpAny_getItem_heap (jJ0 hu) (jYq I.hok eb) dd hp ?_;rw[hp2];exact h w' _ (I.tok _) rw'
theorem d_in{Q:Value->Shared->Prop}(hu:A.units+20<cLine)(I:Inv X pins σ H s)(g:DGet H a y o)(ry:RelV y u)(h:∀s',Inv X pins σ H s'->Q (.bool o.isSome) s'):
  wpAny (model X.prog X.w) A (compareOp .In u (.ref a)) Q E s:=by
 rcases g with ⟨kvs,k,e,ey,l⟩ | ⟨kvs,k,b,e,ey,eb,l⟩
 .subst ey;obtain⟨z,hd,vs,rel,dd⟩:=qUs I.hok e;refine wpAny_in_of (kVj ry) hd dd.mapOf ?_;rw[<-(rel.val k).isSome_eq,<-l];exact h _ (I.tok _)
 .subst ey;cases (show u=Value.ref b from ry)
  obtain⟨z,hd,xs,rel,dd⟩:=kYf I.hok e;refine wpAny_in_heap (jJ0 hu) (jYq I.hok eb) hd dd ?_;have q:=(rel.val k).isSome_eq;rw[lXp] at q;rw[<-q,<-l];exact h _ (I.tok _)
theorem uKf{Q:Value->Shared->Prop}(hu:A.units+20<cLine)(I:Inv X pins σ H s)(g:DGet H a y o)(ry:RelV y u)(h:∀s',Inv X pins σ H s'->Q (.bool (!o.isSome)) s'):
  wpAny (model X.prog X.w) A (compareOp .NotIn u (.ref a)) Q E s:=by
 rcases g with ⟨kvs,k,e,ey,l⟩ | ⟨kvs,k,b,e,ey,eb,l⟩
 .subst ey;obtain⟨z,hd,vs,rel,dd⟩:=qUs I.hok e;refine wpAny_notIn_of (kVj ry) hd dd.mapOf ?_;rw[<-(rel.val k).isSome_eq,<-l];exact h _ (I.tok _)
 .subst ey;cases (show u=Value.ref b from ry)
  obtain⟨z,hd,xs,rel,dd⟩:=kYf I.hok e;refine wpAny_notIn_heap (jJ0 hu) (jYq I.hok eb) hd dd ?_;have q:=(rel.val k).isSome_eq;rw[lXp] at q;rw[<-q,<-l];exact h _ (I.tok _)
theorem kUn{h':Heap}{t':Nat}{ob:HO}(I:Inv X pins σ H s)(mu:Mut (H a))(hs:Heap.SameBut a s.heap h')(he:∃q,h'.get? a=some q)(new:ObjOk X.prog X.w (upd H a ob) h' a ob):
  Inv X pins σ (upd H a ob) {s with heap:=h',toks:=t'}:=
 I.write (x:=a) (e:=a) mu (.inl rfl) (λb q hb z=>(hs.2 b hb).trans z) he new
theorem qZf{P:Program}{w:World}{H':Hp}{h':Heap}{kvs:List (Key×V)}{vs:List (Key×Value)}(z:kvs.length<=sizeLine)(hd:(a == sysModules)=false)(rel:KV kvs vs)(dd:h'.DictOf (jK8 P w) a vs):
  ObjOk P w H' h' a (.dK kvs):=⟨z,hd,vs,rel,dd⟩
theorem kVx{H':Hp}{Q:Unit->Shared->Prop}(hu:A.units+20<cLine)(I:Inv X pins σ H s)(g:DPut H a y v H')(ry:RelV y u)(rv:RelV v r)(h:∀s',Inv X pins σ H' s'->Q () s'):
  wpAny (model X.prog X.w) A (setItem (.ref a) u r) Q E s:=by
 rcases g with ⟨kvs,k,e,ey,l,eH⟩ | ⟨kvs,k,b,e,ey,eb,l,eH⟩
 .subst ey eH;obtain⟨z,hd,vs,rel,dd⟩:=uKc I.hok e;have hz:vs.length<=sizeLine:=by rw[<-rel.length];exact z
  have hl:(putK kvs k v).length<=sizeLine:=by have:=kJt kvs k v;omega
  refine wpAny_setItem_pairs (hsz:=hz) (kVj ry) dd λh' dd' hs=>h _ ?_
  have he:∃q,h'.get? a=some q:=let ⟨q,_,_,hq,_⟩:=dd';⟨q,hq⟩
  exact kUn I (by rw[e];exact True.intro) hs he (qZf hl hd (rel.put k rv) dd')
 .subst ey eH;cases (show u=Value.ref b from ry)
  obtain⟨z,hd,xs,rel,dd⟩:=uUz I.hok e;have hz:xs.length<=sizeLine:=by rw[<-lQq rel];exact z
  have hl:(putK kvs k v).length<=sizeLine:=by have:=kJt kvs k v;omega
  refine wpAny_setItem_heap (hsz:=hz) (jJ0 hu) (jYq I.hok eb) dd λh' dd' hs=>h _ ?_
  obtain⟨q,es,ep,hq,h2,h3,h4,_,h5⟩:=dd';refine kUn I (by rw[e];exact True.intro) hs ⟨q,hq⟩ ⟨hl,hd,_,(rel.put k eb rv).keeps λc ys ec=> ?_,q,es,ep,hq,h2,h3,h4,h5⟩
  rw[jJt (uUa ec e (λz=>nomatch z))]
  exact ec
end
section
variable {X:Cx}{pins:List (Addr×Obj)}{σ:St}{H:Hp}{s:Shared}{a:Addr}{kvs:List (Key×V)}{k:Key}{u:Value}{A:Around}{E:Value->Shared->Prop}
end
theorem kYj{X:Cx}{pins:List (Addr×Obj)}{σ:St}{H:Hp}{s:Shared}{a:Addr}{y:V}{o:Option V}(I:Inv X pins σ H s)(g:DGet H a y o):s.TypeIs (.ref a) "dict":=by
 rcases g with ⟨kvs,k,e,_,_⟩ | ⟨kvs,k,b,e,_,_,_⟩
 .obtain⟨_,_,vs,_,dd⟩:=qUs I.hok e;exact dd.typeIs
 .obtain⟨_,_,xs,_,dd⟩:=kYf I.hok e;exact dd.typeIs
section
variable {X:Cx}{o i e value:Expr}{pos pos' tpos:Pos}{td ty tv:TE}
end
theorem kZw{P:Program}{w:World}{H:Hp}(h:Heap)(hb:sysModules<h.objs.size):ObjOk P w H (h.push {cls:= .type "dict",data:= .dict #[]}) h.objs.size (.dK []):=
 ⟨lJ0 _,beq_eq_false_iff_ne.mpr (Ne.symm (lJp hb)),[],.nil,Heap.DictOf.new h⟩
theorem qYi{P:Program}{w:World}{H:Hp}(h:Heap)(hb:sysModules<h.objs.size):ObjOk P w H (h.push {cls:= .type "dict",data:= .dict #[]}) h.objs.size (.dT []):=
 ⟨lJ0 _,beq_eq_false_iff_ne.mpr (Ne.symm (lJp hb)),[],.nil,_,#[],0,lJ1 _ rfl,⟨rfl,rfl,rfl⟩,rfl,rfl,lV0⟩
def uK9:TE:=λ_ H Q=>∀p,H p=none->Q (.ref p) (upd H p (.dK []))
def uK8:TE:=λ_ H Q=>∀p,H p=none->Q (.ref p) (upd H p (.dT []))
section
variable {X:Cx}{pos:Pos}
theorem qXa:PE X (.Dict [] [] pos) uK9:=λpins s σ H Q I h=>
 wpAny_Dict_empty ⟨.ref s.heap.objs.size,_,I.laid (a:=s.heap.objs.size) (o:= .dK []) (t':=s.toks) (λ_ _ q=>lJj _ q) (lJg _) (kZw s.heap I.big),rfl,h _ (I.hok.fresh (lJg _))⟩
theorem qV9:PE X (.Dict [] [] pos) uK8:=λpins s σ H Q I h=>
 wpAny_Dict_empty ⟨.ref s.heap.objs.size,_,I.laid (a:=s.heap.objs.size) (o:= .dT []) (t':=s.toks) (λ_ _ q=>lJj _ q) (lJg _) (qYi s.heap I.big),rfl,h _ (I.hok.fresh (lJg _))⟩
end
abbrev VV:List (V×V)->List (Value×Value)->Prop:=Paired λp q=>RelV p.1 q.1/\RelV p.2 q.2
def uUd(kvs more:List (Key×V)):List (Key×V):=more.foldl (λacc kv=>putK acc kv.1 kv.2) kvs
theorem KV.merge:∀{more:List (Key×V)}{rs:List (Key×Value)}{kvs:List (Key×V)}{vs:List (Key×Value)},KV more rs->KV kvs vs->KV (uUd kvs more) (merged vs rs):=by
 intro more rs kvs vs r;unfold KV at r
 induction r generalizing kvs vs with
 | nil=>intro q;exact q
 | @cons p q ps qs h t ih=>
  intro r0
  have e:KV (putK kvs p.1 p.2) (stored vs q.1 q.2):=by
   have:=r0.put p.1 h.2;rw[<-h.1];exact this
  exact ih e
theorem kQg{P:Program}{w:World}:∀{kvs:List (Key×V)}{ws:List (Value×Value)},VV (kvs.map λkv=>(kV kv.1,kv.2)) ws->∃rs,Carries (jK8 P w) ws rs/\KV kvs rs
 | [],_,r=>by rw[List.map_nil] at r;cases r;exact⟨[],True.intro,.nil⟩
 | p::kvs,_,r=>by
  rw[lJv] at r;cases r with
  | @cons a b as bs h t=>
   obtain⟨rs,c,q⟩:=kQg (P:=P) (w:=w) t;obtain⟨b1,b2⟩:=b;exact⟨(p.1,b2)::rs,⟨kVj h.1,rfl,c⟩,.cons ⟨rfl,h.2⟩ q⟩
section
variable {X:Cx}{pins:List (Addr×Obj)}{σ:St}{H:Hp}{s:Shared}{a:Addr}{y d:V}{u r:Value}{o:Option V}{A:Around}{E:Value->Shared->Prop}
end
section
variable {X:Cx}{o e f:Expr}{apos cpos:Pos}{td ty tx:TE}
end
section
variable {X:Cx}{pins:List (Addr×Obj)}{σ:St}{H:Hp}{s:Shared}{a:Addr}{kvs:List (Key×V)}{A:Around}{E:Value->Shared->Prop}
end
section
variable {X:Cx}{pins:List (Addr×Obj)}{σ:St}{H:Hp}{s:Shared}{a:Addr}{y:V}{u:Value}{A:Around}{E:Value->Shared->Prop}
end
end L2
namespace Att
open PySem PySem.W PySem.Calls PyProof.Rows
theorem kJx{P:Params}{h:Heap}:∀(ns:List Int)(vs:List Value),WellAll P h vs (ns.map WData.int)->IntsAre vs ns:=by
 intro ns
 induction ns with
 | nil=>
  intro vs w;rw[List.map_nil] at w;cases w;exact .nil
 | cons n ns ih=>
  intro vs w;rw[lJv] at w;cases w with
  | cons a b=>
   cases a;exact .cons _ _ (ih _ b)
theorem qKt{l:OpenLaw}{n:Nat}(hn:l.most=some n){P:Params}{h:Heap}{args:List WData}{vals:List Value}
  (hpre:l.row.toRowW.claim.pre args=true) (hwl:WellAll P h vals args):
  ∃a vs ns,vals=[Value.ref a]/\args=[WData.list (ns.map WData.int)]/\h.get? a=some {cls:= .type "list",data:= .seq vs.toArray}/\IntsAre vs ns/\ns.length<=n:=by
 have hsh:WShape.hasAll [] args [.list .int]=true:=(pre_splitW hpre).1;have hc:l.pre.holds [] {args:=args}=true:=(pre_splitW hpre).2;obtain⟨d,r,rfl,h1,h2⟩:=hasAllW_cons hsh;obtain rfl:=hasAllW_nil h2;obtain⟨xs,rfl,h3⟩:=hasW_list h1;obtain⟨ns,rfl⟩:=items_int h3
 have hlen:ns.length<=n:=by
  unfold OpenLaw.pre at hc
  have h4:(WTm.not (.lt (.lit (.int (n:Int))) (.len (.arg 0)))).holds [] {args:=[.list (ns.map .int)]}=true:=by
   have h4:=(holds_andW hc).1;rw[hn] at h4;exact h4
  have h5:=condW_of h4 (w_not (w_lt w_lit (w_len_list (w_arg rfl))));rw[lJf] at h5;refine Nat.le_of_not_lt λq=> ?_
  have q':(n:Int)<((ns.length:Nat):Int):=by omega
  first
   | (rw[lKa q'] at h5;exact absurd h5 (by decide))
   | (simp at h5;omega)
 cases hwl with
 | cons w1 w2=>
  cases w2;cases w1 with
  | list ho hall=>exact⟨_,_,ns,rfl,rfl,ho,kJx ns _ hall,hlen⟩
theorem qQf(l:OpenLaw)(args:List WData):l.row.toRowW.claim.post args (.bool true) args=true:=
 postW_of (r:=l.row.toRowW) (X:=(true == true))
  (show WShape.has [] (.bool true) .bool=true by first | rfl | decide | simp[WShape.has,WShape.arms,WShape.armsAll])
  (show (WTm.eq .res (.lit (.bool true))).value [] {args:=args,res:=some (.bool true),after:=args}=some (.bool (true == true)) from w_eq_bool (w_res rfl) w_lit) rfl
theorem attach_call{l:OpenLaw}{n:Nat}{q:Program}{loose:List Str}{XP:(Str->Option Value)->Heap->Prop}{YP:World->Heap->Prop}{d:DefRec}
  (hn:l.most=some n) (hdf:d.params.defaults=[])
  (call:∀(w:World)(s₀ s₁:Shared)(mg mb:Str->Option Value)(fa:Addr)(o:Obj)(pm cd doc:Value)(a:Addr)(vs:List Value)(ns:List Int),
   Ground q loose [] XP w s₀ mg mb s₁.heap->YP w s₁.heap->
   s₁.heap.get? fa=some o->o.data= .func (docDef d.name d.params d.body d.scope pm cd doc)->s₁.heap.CodeRec cd d.name->mg d.name=some (.ref fa)->
   s₁.heap.get? a=some {cls:= .type "list",data:= .seq vs.toArray}->IntsAre vs ns->ns.length<=n->s₁.gens= #[]->
   codeAny (model l.prog w) callerA (.call (.ref fa) ⟨[.ref a],[]⟩) (λr s'=>r= .ok (.ret (.bool true))/\OldK s₁.heap s'.heap/\s'.os=s₁.os/\AllBare s'.gens) s₁):
  WalkO q loose XP YP l.row.toRowW d [] (λf vs=>PySem.call f vs):=by
 intro w s₀ s₁ mg mb G Y fa o pm cd doc dV kV ho hd hcd hD hmg hg args vals as hpre hlay hrd hwl hlo;obtain rfl:dV= .none:=Dflts.none hD hdf;obtain rfl:kV= .none:=Dflts.noKw hD;obtain⟨a,vs,ns,rfl,rfl,hobj,hints,hlen⟩:=qKt hn hpre hwl;refine enter_call (lVr (call w s₀ s₁ mg mb fa o pm cd doc a vs ns G Y ho (fd_plain hd) hcd hmg hobj hints hlen hg) λr s' hq=> ?_)
 obtain⟨rfl,h2,h3,h4⟩:=hq;exact⟨.inl ⟨.bool true,.bool true,[],rfl,λ_=>rfl,.bool true,qQf l _,λ_=>⟨List.Pairwise.nil,λ_ hm=>(nomatch hm)⟩⟩,h2,h3,h4⟩
section
variable {prog:Program}{w:World}{A:Around}{E:Value->Shared->Prop}{s:Shared}{K:Frag}
end
end Att
namespace L2
open PySem PySem.Spec PyProof.Rows
theorem kU1:∀{vs:List Value}{ns:List Int},IntsAre vs ns->Vals (ns.map V.int) vs
 | _,_,.nil=> .nil
 | _,_,.cons n t h=> .cons ⟨t,rfl⟩ (kU1 h)
def Only(H:Hp):Prop:=∀b,H b=none\/∃o xs,H b=some (.frz o (.lst xs))
theorem qXs{P:Program}{w:World}{K:PySem.W.Frag}{mg mb:Str->Option Value}{CX:CXT}{k:Nat}{fa a:Addr}{fd:FuncData}{x:Str}{sp:Sp}{s₁:Shared}{vs:List Value}{ns:List Int}
  (KX:K.In s₁.heap) (hns:s₁.heap.Ns mainGlobals mg) (hb:s₁.heap.Ns builtinsNs mb) (hbb:∀x:Str,x≠"__name__"->mb x=bootBuiltins x) (hlim:s₁.heap.NoLimit) (hg:s₁.gens= #[])
  (ha:s₁.heap.get? a=some {cls:= .type "list",data:= .seq vs.toArray}) (hi:IntsAre vs ns) (hl:ns.length<=sizeLine) (hr:Room k callerA)
  (F:∀base:Heap,K.In base->base.Ns mainGlobals mg->FnOk P w K mg base CX k fa fd [x] sp) (hbind:∀(s:Shared)(u:Value),BindsTo s fd ⟨[u],[]⟩ [(x,u)])
  (hsp:∀H:Hp,Only H->SqL K H a (ns.map V.int)->sp [.ref a] H (λv _=>v= .bl true) λ_ _ _=>False)
  (hCX:∀H e s',CX [] H s₁ (λ_ _ _=>False) e s'->False):
  codeAny (model P w) callerA (.call (.ref fa) ⟨[.ref a],[]⟩) (λr s'=>r= .ok (.ret (.bool true))/\OldK s₁.heap s'.heap/\s'.os=s₁.os/\AllBare s'.gens) s₁:=by
 have rv:=kU1 hi;have lenV:=hi.length
 have core:∀H:Hp,Only H->SqL K H a (ns.map V.int)->HOk P w H s₁.heap->(∀b,H b≠none->b=a)->(H a≠none->K.lookup a=none)->
   codeAny (model P w) callerA (.call (.ref fa) ⟨[.ref a],[]⟩) (λr s'=>r= .ok (.ret (.bool true))/\OldK s₁.heap s'.heap/\s'.os=s₁.os/\AllBare s'.gens) s₁:=by
  intro H hO hS hok hA hK;have base_of:∀{b:Addr}{o:Obj},s₁.heap.get? b=some o->H b=none->(hidT s₁.heap H).get? b=some o:=λe n=>qX6 e n
  have noA:∀{b:Addr}{o:Obj}{es:Array DictEntry}{ep:Nat},s₁.heap.get? b=some o->o.data= .dict es ep->H b=none:=λ{b o es ep} e d=>by
   cases q:H b with
   | none=>rfl
   | some u=>
    have e':b=a:=hA b (by rw[q];simp)
    subst e';rw[ha] at e;cases e;have d':Data.seq vs.toArray _=Data.dict es ep:=d;cases d'
  have nsK:∀{b:Addr}{m:Str->Option Value},s₁.heap.Ns b m->(hidT s₁.heap H).Ns b m:=λ{b m} ⟨o,es,ep,e,d,r⟩=>⟨o,es,ep,base_of e (noA e d),d,r⟩
  have hKb:K.In (hidT s₁.heap H):=λb o e=>base_of (KX b o e) (by
   cases q:H b with
   | none=>rfl
   | some u=>
    have e':b=a:=hA b (by rw[q];simp)
    subst e';rw[hK (by rw[q];simp)] at e;cases e)
  have hM:Mod K mg (hidT s₁.heap H):=⟨hKb,nsK hns,⟨mb,nsK hb,hbb⟩,let ⟨mc,h1,h2⟩:=hlim;⟨mc,nsK h1,h2⟩⟩
  have e0:Env0 P w K mg (hidT s₁.heap H) callerA [] s₁ H:=⟨rfl,hM,λb o e=>uJi e,lXg (qUa _ _),trivial,λb hb=>absurd (show b∈([]:List Addr) from hb) (by simp),hok,.of_eq hg⟩
  refine lVr ((F _ hKb (nsK hns)).run callerA [] s₁ H ⟨[.ref a],[]⟩ [.ref a] [.ref a] _ _ hr e0 (hbind s₁ (.ref a)) (.cons rfl .nil) (hsp H hO hS)) λr s' h=> ?_
  cases r with
  | error e=>exact (hCX H e s' h).elim
  | ok fl=>
   cases fl with
   | next=>exact False.elim h
   | brk=>exact False.elim h
   | cont=>exact False.elim h
   | ret u=>
    obtain⟨v,H',os,bare,un,hok',r',q⟩:=h;have q':v= .bl true:=q;subst q';obtain rfl:u=Value.bool true:=r';refine⟨rfl,OldK.of_keep λb o e=> ?_,os,bare⟩
    cases q:H b with
    | none=>exact un.keep b o e q (by intro z;exact absurd (show b∈([]:List Addr) from z) (by simp)) (by simp)
    | some u=>
     rcases hO b with z | ⟨ob,xs,z⟩
     .rw[q] at z;cases z
     .have z2:=un.frzs b ob _ z;obtain⟨e1,_⟩:=hok b _ z;obtain⟨e2,_⟩:=hok' b _ z2;rw[e] at e1;cases e1;exact e2
 cases hk:K.lookup a with
 | some o=>
  have e:=KX a o hk;rw[ha] at e;cases e;refine core (λ_=>none) (λ_=> .inl rfl) (.inr ⟨_,vs.toArray,_,hk,rfl,rfl,rfl,by rw[lJq,lenV];exact hl,by simpa using rv⟩) (λb u z=>by have z':(none:Option HO)=some u:=z;cases z') (λb z=>absurd rfl z) λz=>absurd rfl z
 | none=>
  refine core (λb=>if b=a then some (.frz {cls:= .type "list",data:= .seq vs.toArray} (.lst (ns.map V.int))) else none) (λb=> ?_) (.inl (.inr ⟨{cls:= .type "list",data:= .seq vs.toArray},lJc rfl⟩)) (λb u z=> ?_) (λb z=> ?_) λ_=>hk
  .by_cases hb:b=a
   .exact .inr ⟨_,_,lJc hb⟩
   .exact .inl (lJb hb)
  .by_cases hb:b=a
   .have z':=(lJc hb).symm.trans z;cases z';subst hb;exact⟨ha,by rw[lJf];exact hl,vs,_,rv,ha⟩
   .have z':=(lJb hb).symm.trans z;cases z'
  .by_cases hb:b=a
   .exact hb
   .exact absurd (lJb hb) z
theorem walk_of{l:PySem.W.OpenLaw}{n k:Nat}{q:Program}{loose:List Str}{XP:(Str->Option Value)->Heap->Prop}{YP:World->Heap->Prop}{d:DefRec}{K:Params->PySem.W.Frag}{CX:World->CXT}{sp:World->Sp}{x:Str}
  (hn:l.most=some n) (hn2:n<=sizeLine) (hdf:d.params.defaults=[]) (hr:Room k callerA)
  (hY:∀(w:World)(h:Heap),YP w h->(K w.params).In h)
  (F:∀(w:World)(mg:Str->Option Value)(fa:Addr)(h:Heap),(K w.params).In h->h.Ns mainGlobals mg->mg d.name=some (.ref fa)->
   ∃fd:FuncData,(∀(s:Shared)(u:Value),BindsTo s fd ⟨[u],[]⟩ [(x,u)])/\
    ∀base:Heap,(K w.params).In base->base.Ns mainGlobals mg->FnOk l.prog w (K w.params) mg base (CX w) k fa fd [x] (sp w))
  (hsp:∀(w:World)(H:Hp)(a:Addr)(ns:List Int),ns.length<=n->Only H->SqL (K w.params) H a (ns.map V.int)->sp w [.ref a] H (λv _=>v= .bl true) λ_ _ _=>False)
  (hCX:∀(w:World)(H:Hp)(s:Shared)(e:Value)(s':Shared),CX w [] H s (λ_ _ _=>False) e s'->False):
  PySem.W.WalkO q loose XP YP l.row.toRowW d [] (λf vs=>PySem.call f vs):=by
 refine Att.attach_call hn hdf λw s₀ s₁ mg mb fa o pm cd doc a vs ns G Y ho hd hcd hmg hobj hints hlen hg=> ?_
 have KX:=hY w _ Y;obtain⟨fd,hb,hF⟩:=F w mg fa _ KX G.T.g hmg;exact qXs KX G.T.g G.T.b G.T.builtins G.T.nolimit hg hobj hints (lKb hlen hn2) hr hF hb (λH hO hS=>hsp w H a ns hlen hO hS) λH e s'=>hCX w H s₁ e s'
def inClass(s:Stmt)(j:Nat):Stmt:=match s with
 | .ClassDef _ _ _ body _ _ _ _ _ _ _=>body.getD j (.Pass ⟨0,0,0,0⟩)
 | _=> .Pass ⟨0,0,0,0⟩
noncomputable def jQ0(s:Stmt):Arguments:=match s with
 | .FunctionDef _ a _ _ _ _ _ _ _ _=>a
 | _=>{posonlyargs:=[],args:=[],vararg:=none,kwonlyargs:=[],kw_defaults:=[],kwarg:=none,defaults:=[]}
def jKq(s:Stmt):List Stmt:=match s with
 | .FunctionDef _ _ b _ _ _ _ _ _ _=>b
 | _=>[]
def jJk(s:Stmt):Scope:=match s with
 | .FunctionDef _ _ _ _ _ _ sc _ _ _=>sc
 | _=>{kind:= .function,names:=[],isGenerator:=false,isCoroutine:=false}
abbrev CX0:CXT:=λ_ _ _ _ _ _=>False
abbrev E0:XK:=λ_ _ _=>False
theorem qXb{X:Cx}:qU9 CX0 X E0:=λ_ _ _ _ _ _ _ h=>h.elim
structure Fun (K:PySem.W.Frag) (x qual:Str) (st:Stmt) (f:Addr) (fd:FuncData):Prop where
 ex:∃(oc:Value)(od:Option Addr)(kV doc pm:Value)(an:Option Addr)(cdv ct:Value)(osl:Array (Option Value)),
  fd=PySem.W.fnOf x qual (jQ0 st) (jKq st) (jJk st) .none kV doc pm an cdv ct/\K.lookup f=some ⟨oc,od,.func fd,osl⟩/\PySem.W.codeIn K cdv qual=true
 kp:PySem.W.keepIn K (.ref f)=true
section
variable {P:Program}{w:World}{K:PySem.W.Frag}{mg:Str->Option Value}{base:Heap}
theorem Fun.ok{x qual:Str}{st:Stmt}{f:Addr}{fd:FuncData}{N ps:List Str}{k:Nat}{sp:Sp}(F:Fun K x qual st f fd)(S:FnScope N ps (jJk st))(len:∀vs H Q E,sp vs H Q E->vs.length=ps.length)
  (hbody:∀(cdv:Value)(A:Around)(outer:List Env)(s:Shared)(H:Hp)(vs:List V)(Q:VK)(E:XK),Room k (A.deeper (envOfC qual (jJk st) s.heap.objs.size f cdv))->sp vs H Q E->
   ∃t,PSs (cxOf CX0 P w K mg base N qual (jJk st) f cdv A outer s H E).nox (jKq st) t/\t {nx:=λ_ H'=>Q .non H',rt:=Q} (start N vs) H):FnOk P w K mg base CX0 (k+1) f fd ps sp:=by
 obtain⟨oc,od,kV,doc,pm,an,cdv,ct,osl,rfl,lk,hcd⟩:=F.ex;refine uUo lk hcd S len λA outer s H vs Q E hr hsp=> ?_
 obtain⟨t,h,q⟩:=hbody cdv A outer s H vs Q E hr hsp;exact⟨t,h.nox,q⟩
theorem Fun.binds{x qual:Str}{st:Stmt}{f:Addr}{fd:FuncData}{ps:List Str}(F:Fun K x qual st f fd)
  (h:∀(kV doc pm:Value)(an:Option Addr)(cdv ct:Value)(us:List Value),us.length=ps.length->bindArgs (PySem.W.fnOf x qual (jQ0 st) (jKq st) (jJk st) .none kV doc pm an cdv ct) ⟨us,[]⟩=pure (ps.zip us)):Binds K fd ps []:=by
 obtain⟨oc,od,kV,doc,pm,an,cdv,ct,osl,rfl,lk,hcd⟩:=F.ex;exact .all (h kV doc pm an cdv ct)
theorem kZl{x qual:Str}{st:Stmt}{f:Addr}{oc:Value}{od an:Option Addr}{osl:Array (Option Value)}{kV doc pm cdv ct:Value}(l:K.lookup f=some ⟨oc,od,.func (PySem.W.fnOf x qual (jQ0 st) (jKq st) (jJk st) .none kV doc pm an cdv ct),osl⟩)
  (c:PySem.W.codeIn K cdv qual=true) (k:PySem.W.keepIn K (.ref f)=true):Fun K x qual st f (PySem.W.fnOf x qual (jQ0 st) (jKq st) (jJk st) .none kV doc pm an cdv ct):=⟨⟨oc,od,kV,doc,pm,an,cdv,ct,osl,rfl,l,c⟩,k⟩
end
theorem qQ9{A:Around}{k:Nat}(hr:Room k A):A.units+20<cLine:=Nat.lt_of_le_of_lt (Nat.add_le_add_left (by decide:20<=64) _) hr.units
section
variable {X:Cx}
theorem pv(i:Nat){x:Str}{pos:Pos}(hN:X.N[i]? =some x:=by rfl)(hv:Vis X.env.scope x:=by first | exact Or.inl rfl | exact Or.inr (Or.inl rfl) | exact Or.inr (Or.inr rfl))(hd:(x == ("__debug__":Str))=false:=by decide)
  (hcd:(x == ("__classdict__":Str))=false:=by decide):PE X (.Name x pos) (tVar i):=kU7 hN hv hd hcd
end
end L2
set_option Elab.async false
set_option linter.all false
set_option maxRecDepth 100000
set_option maxHeartbeats 5000000
namespace L3
open PySem PySem.Spec PyProof.Rows L2
inductive T where
 | non | bl (b:Bool) | int (i:Int) | str (x:Str) | tup (xs:List T) | scr (xs:List T) | ref (a:Addr) | ty (n:String)
structure Ext (H H':Hp):Prop where
 tup:∀b xs,H b=some (.tup xs)->H' b=some (.tup xs)
 frz:∀b ob u,H b=some (.frz ob u)->H' b=some (.frz ob u)
theorem Ext.refl(H:Hp):Ext H H:=⟨λ_ _ h=>h,λ_ _ _ h=>h⟩
theorem Ext.trans{H H1 H2:Hp}(a:Ext H H1)(b:Ext H1 H2):Ext H H2:=⟨λc o h=>b.tup c o (a.tup c o h),λc o u h=>b.frz c o u (a.frz c o u h)⟩
def FrL(K:PySem.W.Frag)(H:Hp)(a:Addr)(xs:List V):Prop:=
 (∃ob,H a=some (.frz ob (.lst xs)))\/
  ∃(o:Obj)(its:Array Value)(n:Nat),K.lookup a=some o/\o.cls= .type "list"/\o.dict=none/\o.data= .seq its n/\its.size<=sizeLine/\Vals xs its.toList
theorem FrL.sq{K:PySem.W.Frag}{H:Hp}{a:Addr}{xs:List V}(h:FrL K H a xs):SqL K H a xs:=by
 rcases h with ⟨ob,h⟩ | h
 .exact .inl (.inr ⟨ob,h⟩)
 .exact .inr h
theorem FrL.mono{K:PySem.W.Frag}{H H':Hp}{a:Addr}{xs:List V}(e:Ext H H')(h:FrL K H a xs):FrL K H' a xs:=by
 rcases h with ⟨ob,h⟩ | h
 .exact .inl ⟨ob,e.frz _ _ _ h⟩
 .exact .inr h
mutual
noncomputable def Rep(K:PySem.W.Frag)(H:Hp):T->V->Prop
 | .non,v=>v= .non
 | .bl b,v=>v= .bl b
 | .int i,v=>v= .int i
 | .str x,v=>v= .str x
 | .ref a,v=>v= .ref a
 | .ty n,v=>v= .ty n
 | .tup xs,v=>∃a vs,v= .ref a/\H a=some (.tup vs)/\Reps K H xs vs
 | .scr xs,v=>∃a vs,v= .ref a/\FrL K H a vs/\Reps K H xs vs
noncomputable def Reps(K:PySem.W.Frag)(H:Hp):List T->List V->Prop
 | [],vs=>vs=[]
 | x::xs,vs=>∃v ws,vs=v::ws/\Rep K H x v/\Reps K H xs ws
end
mutual
theorem Rep.mono{K:PySem.W.Frag}{H H':Hp}(e:Ext H H'):∀(x:T){v:V},Rep K H x v->Rep K H' x v
 | .non,_,h=>h
 | .bl _,_,h=>h
 | .int _,_,h=>h
 | .str _,_,h=>h
 | .ref _,_,h=>h
 | .ty _,_,h=>h
 | .tup xs,_,⟨a,vs,r1,r2,r3⟩=>⟨a,vs,r1,e.tup _ _ r2,Reps.mono e xs r3⟩
 | .scr xs,_,⟨a,vs,r1,r2,r3⟩=>⟨a,vs,r1,r2.mono e,Reps.mono e xs r3⟩
theorem Reps.mono{K:PySem.W.Frag}{H H':Hp}(e:Ext H H'):∀(xs:List T){vs:List V},Reps K H xs vs->Reps K H' xs vs
 | [],_,h=>h
 | x::xs,_,⟨v,ws,r1,r2,r3⟩=>⟨v,ws,r1,Rep.mono e x r2,Reps.mono e xs r3⟩
end
section
variable {K:PySem.W.Frag}{H:Hp}
theorem Reps.length:∀{xs:List T}{vs:List V},Reps K H xs vs->xs.length=vs.length
 | [],_,h=>by cases h;rfl
 | _::_,_,⟨_,_,r1,_,r3⟩=>by subst r1;simp[Reps.length r3]
theorem Reps.get:∀{xs:List T}{vs:List V}{i:Nat}{x:T},Reps K H xs vs->xs[i]? =some x->∃v,vs[i]? =some v/\Rep K H x v
 | [],_,_,_,_,e=>by simp at e
 | y::ys,_,0,x,⟨v,ws,r1,r2,r3⟩,e=>by subst r1;simp at e;subst e;exact⟨v,rfl,r2⟩
 | y::ys,_,i+1,x,⟨v,ws,r1,r2,r3⟩,e=>by subst r1;simpa using Reps.get r3 (by simpa using e)
theorem Reps.get':∀{xs:List T}{vs:List V}{i:Nat}{v:V},Reps K H xs vs->vs[i]? =some v->∃x,xs[i]? =some x/\Rep K H x v
 | [],_,_,_,h,e=>by cases h;simp at e
 | y::ys,_,0,x,⟨v,ws,r1,r2,r3⟩,e=>by subst r1;simp at e;subst e;exact⟨y,rfl,r2⟩
 | y::ys,_,i+1,x,⟨v,ws,r1,r2,r3⟩,e=>by subst r1;simpa using Reps.get' r3 (by simpa using e)
theorem Reps.append:∀{xs ys:List T}{vs ws:List V},Reps K H xs vs->Reps K H ys ws->Reps K H (xs++ys) (vs++ws)
 | [],_,_,_,h,h2=>by cases h;exact h2
 | _::_,_,_,_,⟨v,ws,r1,r2,r3⟩,h2=>by subst r1;exact⟨v,_,rfl,r2,Reps.append r3 h2⟩
theorem Reps.one{x:T}{v:V}(r:Rep K H x v):Reps K H [x] [v]:=⟨v,[],rfl,r,rfl⟩
theorem Reps.set{x:T}{v:V}(r:Rep K H x v):∀{xs:List T}{vs:List V}(i:Nat),Reps K H xs vs->Reps K H (xs.set i x) (vs.set i v)
 | [],_,_,e=>by cases e;rfl
 | _::_,_,0,⟨_,ws,r1,r2,r3⟩=>by subst r1;exact⟨v,ws,rfl,r,r3⟩
 | _::_,_,i+1,⟨u,ws,r1,r2,r3⟩=>by subst r1;exact⟨u,_,rfl,r2,Reps.set r i r3⟩
theorem Reps.take:∀{xs:List T}{vs:List V}(n:Nat),Reps K H xs vs->Reps K H (xs.take n) (vs.take n)
 | _,_,0,_=>by simp[Reps]
 | [],_,_+1,h=>by cases h;simp[Reps]
 | _::_,_,n+1,⟨u,ws,r1,r2,r3⟩=>by subst r1;exact⟨u,_,rfl,r2,Reps.take n r3⟩
theorem Reps.drop:∀{xs:List T}{vs:List V}(n:Nat),Reps K H xs vs->Reps K H (xs.drop n) (vs.drop n)
 | _,_,0,h=>h
 | [],_,_+1,h=>by cases h;simp[Reps]
 | _::_,_,n+1,⟨u,ws,r1,r2,r3⟩=>by subst r1;exact Reps.drop n r3
theorem Reps.reverse:∀{xs:List T}{vs:List V},Reps K H xs vs->Reps K H xs.reverse vs.reverse
 | [],_,h=>by cases h;simp[Reps]
 | _::_,_,⟨u,ws,r1,r2,r3⟩=>by
  subst r1;rw[lXm,lXm];exact (Reps.reverse r3).append ⟨u,[],rfl,r2,rfl⟩
theorem Reps.rep{xs:List T}{vs:List V}(r:Reps K H xs vs):∀n:Nat,Reps K H (List.replicate n xs).flatten (List.replicate n vs).flatten
 | 0=>by simp[Reps]
 | n+1=>by simpa[lK8] using r.append (Reps.rep r n)
theorem Reps.atI{xs:List T}{vs:List V}{i:Int}{x:T}(r:Reps K H xs vs)(h:atI xs i=some x):∃v,atI vs i=some v/\Rep K H x v:=by
 unfold L2.atI at h ⊢;rw[<-r.length];cases e:ixN xs.length i with
 | none=>rw[e] at h;cases h
 | some j=>rw[e] at h;exact r.get h
end
inductive GO where
 | lst (xs:List T) | dct (kvs:List (TKey×T)) | dck (kvs:List (Key×T)) | fdc (kvs:List (TKey×T)) | ins (cn:Str) (fs:List (Str×T)) | exc (cn:Str)
abbrev Gp:=Addr->Option GO
def gup(G:Gp)(a:Addr)(o:GO):Gp:=λb=>if b=a then some o else G b
theorem jJg{G:Gp}{a:Addr}{o:GO}:gup G a o a=some o:=by simp[gup]
theorem jJl{G:Gp}{a b:Addr}{o:GO}(h:b≠a):gup G a o b=G b:=by simp[gup,h]
theorem jYa{G:Gp}{a:Addr}{o o':GO}:gup (gup G a o) a o'=gup G a o':=by funext b;by_cases h:b=a<;>simp[gup,h]
def asL:Option GO->Option (List T)
 | some (.lst xs)=>some xs
 | _=>none
def seqT(G:Gp):T->Option (List T)
 | .tup xs=>some xs
 | .scr xs=>some xs
 | .ref a=>asL (G a)
 | _=>none
def PKV{κ:Type}(K:PySem.W.Frag)(H:Hp):List (κ×T)->List (κ×V)->Prop:=Paired λp q=>p.1=q.1/\Rep K H p.2 q.2
def jUb(cn:Str):Option Str:=if cn="Clash:doors" then some "doors" else if cn="Clash:end" then some "end" else if cn="Clash:taken" then some "taken" else none
def nmOf(cn:Str):Str:=if (jUb cn).isSome=true then "Clash" else cn
def WhyH(H:Hp)(o:Option Str)(d:Option Addr):Prop:=∀y,o=some y->∃(dx:Addr)(od:Obj),d=some dx/\H dx=some (.frz od (.xd [("why",.str y)]))
theorem WhyH.mono{H H':Hp}{o:Option Str}{d:Option Addr}(h:WhyH H o d)(e:Ext H H'):WhyH H' o d:=λy q=>let ⟨dx,od,h1,h2⟩:=h y q;⟨dx,od,h1,e.frz _ _ _ h2⟩
noncomputable def GOk(K:PySem.W.Frag)(H:Hp)(a:Addr):GO->Prop
 | .lst xs=>∃vs,H a=some (.lst vs)/\Reps K H xs vs
 | .dct kvs=>∃ws,H a=some (.dT ws)/\PKV K H kvs ws
 | .dck kvs=>∃ws,H a=some (.dK ws)/\PKV K H kvs ws
 | .fdc kvs=>∃ob ws,H a=some (.frz ob (.dT ws))/\PKV K H kvs ws
 | .ins cn fs=>∃C dx ws,H a=some (.ins C dx ws)/\PySem.W.nsIn K mainGlobals cn=some (some (.ref C))/\PKV K H fs ws
 | .exc cn=>∃ob C u,H a=some (.frz ob u)/\ob.cls= .ref C/\PySem.W.nsIn K mainGlobals (nmOf cn)=some (some (.ref C))/\PySem.W.notCls ob=true/\WhyH H (jUb cn) ob.dict
def GRel(K:PySem.W.Frag)(H:Hp)(G:Gp):Prop:=∀a o,G a=some o->GOk K H a o
section
variable {K:PySem.W.Frag}{H H':Hp}{G:Gp}{a:Addr}
theorem PKV.mono{κ:Type}{kvs:List (κ×T)}{ws:List (κ×V)}(e:Ext H H')(h:PKV K H kvs ws):PKV K H' kvs ws:=Paired.mapP h λ_ _ z=>⟨z.1,Rep.mono e _ z.2⟩
theorem GOk.move{o:GO}(h:GOk K H a o)(e:Ext H H')(ha:H' a=H a):GOk K H' a o:=by
 cases o with
 | lst xs=>obtain⟨vs,h1,h2⟩:=h;exact⟨vs,ha.trans h1,Reps.mono e _ h2⟩
 | dct kvs=>obtain⟨vs,h1,h2⟩:=h;exact⟨vs,ha.trans h1,h2.mono e⟩
 | dck kvs=>obtain⟨vs,h1,h2⟩:=h;exact⟨vs,ha.trans h1,h2.mono e⟩
 | fdc kvs=>obtain⟨ob,vs,h1,h2⟩:=h;exact⟨ob,vs,ha.trans h1,h2.mono e⟩
 | ins cn fs=>obtain⟨C,dx,ws,h1,h2,h3⟩:=h;exact⟨C,dx,ws,ha.trans h1,h2,h3.mono e⟩
 | exc cn=>obtain⟨ob,C,u,h1,h2,h3,h4⟩:=h;exact⟨ob,C,u,ha.trans h1,h2,h3,h4.1,h4.2.mono e⟩
theorem GOk.some{o:GO}(h:GOk K H a o):H a≠none:=by
 cases o with
 | lst xs=>obtain⟨vs,h1,h2⟩:=h;rw[h1];simp
 | dct kvs=>obtain⟨vs,h1,h2⟩:=h;rw[h1];simp
 | dck kvs=>obtain⟨vs,h1,h2⟩:=h;rw[h1];simp
 | fdc kvs=>obtain⟨ob,vs,h1,h2⟩:=h;rw[h1];simp
 | ins cn fs=>obtain⟨C,dx,ws,h1,h2,h3⟩:=h;rw[h1];simp
 | exc cn=>obtain⟨ob,C,u,h1,h2,h3,h4⟩:=h;rw[h1];simp
theorem GRel.fresh(g:GRel K H G)(h:H a=none):G a=none:=by
 cases e:G a with
 | none=>rfl
 | some o=>exact absurd h (g a o e).some
def Soft(o:Option HO):Prop:=o=none\/(∃xs,o=some (.lst xs))\/(∃kvs,o=some (.dK kvs))\/(∃kvs,o=some (.dT kvs))\/∃C dx fs,o=some (.ins C dx fs)
theorem Ext.upd{o:HO}(h:Soft (H a)):Ext H (L2.upd H a o):=by
 refine⟨λb xs e=> ?_,λb ob u e=> ?_⟩
 .rw[jJt];exact e;rintro rfl;rw[e] at h;rcases h with h | ⟨_,h⟩ | ⟨_,h⟩ | ⟨_,h⟩ | ⟨_,_,_,h⟩<;>cases h
 .rw[jJt];exact e;rintro rfl;rw[e] at h;rcases h with h | ⟨_,h⟩ | ⟨_,h⟩ | ⟨_,h⟩ | ⟨_,_,_,h⟩<;>cases h
theorem GRel.upd{o:HO}{go:GO}(g:GRel K H G)(h:Soft (H a))(n:GOk K (L2.upd H a o) a go):GRel K (L2.upd H a o) (gup G a go):=by
 intro b u e
 by_cases hb:b=a
 .subst hb;rw[jJg] at e;cases e;exact n
 .rw[jJl hb] at e;exact (g b u e).move (Ext.upd h) (jJt hb)
theorem Soft.none(h:H a=none):Soft (H a):= .inl h
theorem Soft.lst{xs:List V}(h:H a=some (.lst xs)):Soft (H a):= .inr (.inl ⟨xs,h⟩)
theorem Soft.dT{xs:List (TKey×V)}(h:H a=some (.dT xs)):Soft (H a):= .inr (.inr (.inr (.inl ⟨xs,h⟩)))
theorem Soft.dK{xs:List (Key×V)}(h:H a=some (.dK xs)):Soft (H a):= .inr (.inr (.inl ⟨xs,h⟩))
theorem Soft.ins{C dx:Addr}{fs:List (Str×V)}(h:H a=some (.ins C dx fs)):Soft (H a):= .inr (.inr (.inr (.inr ⟨C,dx,fs,h⟩)))
theorem GRel.tupNew{vs:List V}(g:GRel K H G)(h:H a=Option.none):GRel K (L2.upd H a (.tup vs)) G:=by
 intro b u e;have hb:b≠a:=by rintro rfl;exact (g b u e).some h
 exact (g b u e).move (Ext.upd (.none h)) (jJt hb)
theorem Rep.tupNew{xs:List T}{vs:List V}(r:Reps K H xs vs)(h:H a=Option.none):Rep K (L2.upd H a (.tup vs)) (.tup xs) (.ref a):=
 ⟨a,vs,rfl,jJy,Reps.mono (Ext.upd (.none h)) _ r⟩
theorem GRel.lstNew{xs:List T}{vs:List V}(g:GRel K H G)(r:Reps K H xs vs)(h:Soft (H a)):GRel K (L2.upd H a (.lst vs)) (gup G a (.lst xs)):=
 g.upd h ⟨vs,jJy,Reps.mono (Ext.upd h) _ r⟩
theorem GRel.lst{xs:List T}(g:GRel K H G)(h:G a=some (.lst xs)):∃vs,H a=some (.lst vs)/\Reps K H xs vs:=g a _ h
end
abbrev St3:=List (Option T)
def SRel(K:PySem.W.Frag)(H:Hp)(σ:L2.St)(τ:St3):Prop:=σ.length=τ.length/\∀(i:Nat)(t:T),τ[i]? =some (some t)->∃v,σ[i]? =some (some v)/\Rep K H t v
theorem SRel.mono{K:PySem.W.Frag}{H H':Hp}{σ:L2.St}{τ:St3}(e:Ext H H')(h:SRel K H σ τ):SRel K H' σ τ:=
 ⟨h.1,λi t q=>let ⟨v,h1,h2⟩:=h.2 i t q;⟨v,h1,Rep.mono e _ h2⟩⟩
theorem SRel.set{K:PySem.W.Frag}{H:Hp}{σ:L2.St}{τ:St3}{t:T}{v:V}(h:SRel K H σ τ)(i:Nat)(r:Rep K H t v):SRel K H (σ.set i (some v)) (τ.set i (some t)):=by
 refine⟨by simp[h.1],λj u q=> ?_⟩
 by_cases hj:i=j
 .subst hj
  have hl:i<τ.length:=by
   rcases lKd i τ.length with z | z
   .exact z
   .rw[lJz (by simpa using z)] at q;cases q
  rw[lKi hl] at q;cases q;exact⟨v,by rw[lKi (by rw[h.1];exact hl)],r⟩
 .rw[lKh hj] at q ⊢;exact h.2 j u q
def Inv3(X:Cx)(pins:List (Addr×Obj))(τ:St3)(G:Gp)(H:Hp)(s:Shared):Prop:=∃ σ,Inv X pins σ H s/\SRel X.K H σ τ/\GRel X.K H G
abbrev VK3:=T->Gp->Prop
abbrev TE3:=St3->Gp->VK3->Prop
abbrev TT3:=St3->Gp->(Bool->Gp->Prop)->Prop
abbrev TA3:=St3->Gp->(List T->Gp->Prop)->Prop
structure Ends3 where
 nx:St3->Gp->Prop
 rt:VK3
 bk:St3->Gp->Prop:=λ_ _=>False
 ct:St3->Gp->Prop:=λ_ _=>False
abbrev TS3:=Ends3->St3->Gp->Prop
def RU(K:PySem.W.Frag)(H:Hp)(t:T)(u:Value):Prop:=∃v,Rep K H t v/\RelV v u
def RUs(K:PySem.W.Frag)(H:Hp)(ts:List T)(us:List Value):Prop:=∃vs,Reps K H ts vs/\Vals vs us
theorem RU.mono{K:PySem.W.Frag}{H H':Hp}{t:T}{u:Value}(e:Ext H H')(h:RU K H t u):RU K H' t u:=let ⟨v,h1,h2⟩:=h;⟨v,Rep.mono e _ h1,h2⟩
def EP3(X:Cx)(pins:List (Addr×Obj))(τ:St3)(H:Hp)(Q:VK3)(u:Value)(s':Shared):Prop:=∃t G' H',Ext H H'/\Inv3 X pins τ G' H' s'/\RU X.K H' t u/\Q t G'
def TP3(X:Cx)(pins:List (Addr×Obj))(τ:St3)(H:Hp)(Q:Bool->Gp->Prop)(b:Bool)(s':Shared):Prop:=∃G' H',Ext H H'/\Inv3 X pins τ G' H' s'/\Q b G'
def AP3(X:Cx)(pins:List (Addr×Obj))(τ:St3)(H:Hp)(Q:List T->Gp->Prop)(us:List Value)(s':Shared):Prop:=∃ts G' H',Ext H H'/\Inv3 X pins τ G' H' s'/\RUs X.K H' ts us/\Q ts G'
def SP3(X:Cx)(pins:List (Addr×Obj))(H:Hp)(D:Ends3)(f:Flow)(s':Shared):Prop:=
 match f with
 | .next=>∃ τ' G' H',Ext H H'/\Inv3 X pins τ' G' H' s'/\D.nx τ' G'
 | .brk=>∃ τ' G' H',Ext H H'/\Inv3 X pins τ' G' H' s'/\D.bk τ' G'
 | .cont=>∃ τ' G' H',Ext H H'/\Inv3 X pins τ' G' H' s'/\D.ct τ' G'
 | .ret u=>∃t τ' G' H',Ext H H'/\Inv3 X pins τ' G' H' s'/\RU X.K H' t u/\D.rt t G'
def PE3(X:Cx)(e:Expr)(t:TE3):Prop:=∀(pins:List (Addr×Obj))(s:Shared)(τ:St3)(G:Gp)(H:Hp)(Q:VK3),Inv3 X pins τ G H s->t τ G Q->wpAny (model X.prog X.w) X.A (eval e X.env) (EP3 X pins τ H Q) X.xe s
def PT3(X:Cx)(e:Expr)(t:TT3):Prop:=∀(pins:List (Addr×Obj))(s:Shared)(τ:St3)(G:Gp)(H:Hp)(Q:Bool->Gp->Prop),Inv3 X pins τ G H s->t τ G Q->wpAny (model X.prog X.w) X.A (isTrue e X.env (eval e X.env)) (TP3 X pins τ H Q) X.xe s
def PW3(X:Cx)(e:Expr)(t:TT3):Prop:=∀(whole:Sem Value)(pins:List (Addr×Obj))(s:Shared)(τ:St3)(G:Gp)(H:Hp)(Q:Bool->Gp->Prop),Inv3 X pins τ G H s->t τ G Q->wpAny (model X.prog X.w) X.A (isTrue e X.env whole) (TP3 X pins τ H Q) X.xe s
theorem PW3.pt{X:Cx}{e:Expr}{t:TT3}(h:PW3 X e t):PT3 X e t:=h _
def PA3(X:Cx)(es:List Expr)(t:TA3):Prop:=∀(pos:Pos)(pins:List (Addr×Obj))(s:Shared)(τ:St3)(G:Gp)(H:Hp)(Q:List T->Gp->Prop),Inv3 X pins τ G H s->t τ G Q->wpAny (model X.prog X.w) X.A (spliced (backTo pos (starEach es X.env))) (AP3 X pins τ H Q) X.xe s
def PS3(X:Cx)(st:Stmt)(t:TS3):Prop:=∀(pins:List (Addr×Obj))(s:Shared)(τ:St3)(G:Gp)(H:Hp)(D:Ends3),Inv3 X pins τ G H s->t D τ G->wpAny (model X.prog X.w) X.A (exec st X.env) (SP3 X pins H D) X.xe s
def PSs3(X:Cx)(st:List Stmt)(t:TS3):Prop:=∀(pins:List (Addr×Obj))(s:Shared)(τ:St3)(G:Gp)(H:Hp)(D:Ends3),Inv3 X pins τ G H s->t D τ G->wpAny (model X.prog X.w) X.A (execs st X.env) (SP3 X pins H D) X.xe s
section
variable {X:Cx}{pins:List (Addr×Obj)}{τ:St3}{G:Gp}{H H1:Hp}{s:Shared}{C:Prop}
theorem EP3.el{Q:VK3}{u:Value}(h:EP3 X pins τ H Q u s)(k:∀t G' H',Ext H H'->Inv3 X pins τ G' H' s->RU X.K H' t u->Q t G'->C):C:=let ⟨t,G',H',a,b,c,d⟩:=h;k t G' H' a b c d
theorem AP3.el{Q:List T->Gp->Prop}{u:List Value}(h:AP3 X pins τ H Q u s)(k:∀t G' H',Ext H H'->Inv3 X pins τ G' H' s->RUs X.K H' t u->Q t G'->C):C:=let ⟨t,G',H',a,b,c,d⟩:=h;k t G' H' a b c d
theorem TP3.el{Q:Bool->Gp->Prop}{u:Bool}(h:TP3 X pins τ H Q u s)(k:∀G' H',Ext H H'->Inv3 X pins τ G' H' s->Q u G'->C):C:=let ⟨G',H',a,b,c⟩:=h;k G' H' a b c
theorem Inv3.el(h:Inv3 X pins τ G H s)(k:∀ σ,Inv X pins σ H s->SRel X.K H σ τ->GRel X.K H G->C):C:=let ⟨σ,a,b,c⟩:=h;k σ a b c
theorem RU.el{K:PySem.W.Frag}{t:T}{u:Value}(h:RU K H t u)(k:∀v,Rep K H t v->RelV v u->C):C:=let ⟨v,a,b⟩:=h;k v a b
theorem RUs.el{K:PySem.W.Frag}{t:List T}{u:List Value}(h:RUs K H t u)(k:∀v,Reps K H t v->Vals v u->C):C:=let ⟨v,a,b⟩:=h;k v a b
end
section
variable {X:Cx}{pins:List (Addr×Obj)}{τ:St3}{G:Gp}{H H1:Hp}{s:Shared}
theorem EP3.ext{Q:VK3}{u:Value}(e:Ext H H1)(h:EP3 X pins τ H1 Q u s):EP3 X pins τ H Q u s:=let ⟨t,G',H',a,b⟩:=h;⟨t,G',H',e.trans a,b⟩
theorem TP3.ext{Q:Bool->Gp->Prop}{u:Bool}(e:Ext H H1)(h:TP3 X pins τ H1 Q u s):TP3 X pins τ H Q u s:=let ⟨G',H',a,b⟩:=h;⟨G',H',e.trans a,b⟩
theorem SP3.ext{D:Ends3}{f:Flow}(e:Ext H H1)(h:SP3 X pins H1 D f s):SP3 X pins H D f s:=by
 cases f with
 | next=>obtain⟨τ',G',H',a,b⟩:=h;exact⟨τ',G',H',e.trans a,b⟩
 | brk=>obtain⟨τ',G',H',a,b⟩:=h;exact⟨τ',G',H',e.trans a,b⟩
 | cont=>obtain⟨τ',G',H',a,b⟩:=h;exact⟨τ',G',H',e.trans a,b⟩
 | ret u=>obtain⟨t,τ',G',H',a,b⟩:=h;exact⟨t,τ',G',H',e.trans a,b⟩
theorem bin3{a b:Expr}{ta tb:TE3}(ha:PE3 X a ta)(hb:PE3 X b tb){R:T->T->Gp->Prop}(I:Inv3 X pins τ G H s)(h:ta τ G λx G1=>tb τ G1 λy G2=>R x y G2)
  {α:Type} {Q:α->Shared->Prop} {f:Value->Value->Sem α}
  (hf:∀v u s2 x y G2 H2,Ext H H2->Inv3 X pins τ G2 H2 s2->RU X.K H2 x v->RU X.K H2 y u->R x y G2->wpAny (model X.prog X.w) X.A (f v u) Q X.xe s2):
  wpAny (model X.prog X.w) X.A (eval a X.env) (λv s₁=>wpAny (model X.prog X.w) X.A (eval b X.env) (λu s₂=>wpAny (model X.prog X.w) X.A (f v u) Q X.xe s₂) X.xe s₁) X.xe s:=by
 refine thn (ha pins s τ G H _ I h) λv s1 w_=>w_.el λx G1 H1 e1 I1 r1 q1=> ?_
 refine thn (hb pins s1 τ G1 H1 _ I1 q1) λu s2 w_=>w_.el λy G2 H2 e2 I2 r2 q2=> ?_
 exact hf v u s2 x y G2 H2 (e1.trans e2) I2 (r1.mono e2) r2 q2
def up(K:PySem.W.Frag)(H:Hp)(Q:VK3):VK:=λv H'=>∃t G',Ext H H'/\GRel K H' G'/\Rep K H' t v/\Q t G'
theorem jVq{σ:L2.St}{Q:VK3}{u:Value}(hs:SRel X.K H σ τ)(h:EP X pins σ (up X.K H Q) u s):EP3 X pins τ H Q u s:=
 let ⟨v,H',I',r',t,G',e,g',rt,q⟩:=h
 ⟨t,G',H',e,⟨σ,I',hs.mono e,g'⟩,⟨v,rt,r'⟩,q⟩
end
section
variable {X:Cx}{pos:Pos}
def tVar(i:Nat):TE3:=λτ G Q=>∃t,τ[i]? =some (some t)/\Q t G
def tC(t:T):TE3:=λ_ G Q=>Q t G
theorem jJb(i:Nat){x:Str}(hN:X.N[i]? =some x:=by rfl)(hv:Vis X.env.scope x:=by first | exact Or.inl rfl | exact Or.inr (Or.inl rfl) | exact Or.inr (Or.inr rfl))
  (hd:(x == ("__debug__":Str))=false:=by decide) (hcd:(x == ("__classdict__":Str))=false:=by decide):PE3 X (.Name x pos) (tVar i):=by
 rintro pins s τ G H Q ⟨σ,I,hs,hg⟩ ⟨t,e,q⟩;obtain⟨v,ev,rv⟩:=hs.2 i t e;exact thn (kU7 hN hv hd hcd pins s σ H (up X.K H Q) I ⟨v,ev,t,G,.refl H,hg,rv,q⟩) λu s' h=>jVq hs h
theorem jJi {i j}:PE3 X (.Constant (.int i) j pos) (tC (.int i)):=λpins s τ G H Q ⟨σ,I,hs,hg⟩ q=>
 thn (uQp pins s σ H (up X.K H Q) I ⟨.int i,G,.refl H,hg,rfl,q⟩) λu s' h=>jVq hs h
theorem e_bl {b j}:PE3 X (.Constant (.bool b) j pos) (tC (.bl b)):=λpins s τ G H Q ⟨σ,I,hs,hg⟩ q=>
 thn (uVm pins s σ H (up X.K H Q) I ⟨.bl b,G,.refl H,hg,rfl,q⟩) λu s' h=>jVq hs h
theorem jYb {j}:PE3 X (.Constant .none j pos) (tC .non):=λpins s τ G H Q ⟨σ,I,hs,hg⟩ q=>
 thn (uQo pins s σ H (up X.K H Q) I ⟨.non,G,.refl H,hg,rfl,q⟩) λu s' h=>jVq hs h
theorem kKx {x j}:PE3 X (.Constant (.str x) j pos) (tC (.str x)):=λpins s τ G H Q ⟨σ,I,hs,hg⟩ q=>
 thn (uQn pins s σ H (up X.K H Q) I ⟨.str x,G,.refl H,hg,rfl,q⟩) λu s' h=>jVq hs h
end
abbrev R3:=T->T->Gp->VK3->Prop
def Op3(X:Cx)(f:Value->Value->Sem Value)(r:R3):Prop:=
 ∀(pins:List (Addr×Obj))(s:Shared)(τ:St3)(G:Gp)(H:Hp)(x y:T)(v u:Value)(Q:VK3),Inv3 X pins τ G H s->RU X.K H x v->RU X.K H y u->r x y G Q->wpAny (model X.prog X.w) X.A (f v u) (EP3 X pins τ H Q) X.xe s
def Un3(X:Cx)(f:Value->Sem Value)(r:T->Gp->VK3->Prop):Prop:=
 ∀(pins:List (Addr×Obj))(s:Shared)(τ:St3)(G:Gp)(H:Hp)(x:T)(v:Value)(Q:VK3),Inv3 X pins τ G H s->RU X.K H x v->r x G Q->wpAny (model X.prog X.w) X.A (f v) (EP3 X pins τ H Q) X.xe s
def Call3(X:Cx)(f:Value)(r:List T->Gp->VK3->Prop):Prop:=
 ∀(pins:List (Addr×Obj))(s:Shared)(τ:St3)(G:Gp)(H:Hp)(xs:List T)(us:List Value)(Q:VK3),Inv3 X pins τ G H s->RUs X.K H xs us->r xs G Q->wpAny (model X.prog X.w) X.A (call f us) (EP3 X pins τ H Q) X.xe s
def Mt3(X:Cx)(id:String)(r:T->List T->Gp->VK3->Prop):Prop:=
 ∀(pins:List (Addr×Obj))(s:Shared)(τ:St3)(G:Gp)(H:Hp)(x:T)(xs:List T)(v:Value)(us:List Value)(Q:VK3),Inv3 X pins τ G H s->RU X.K H x v->RUs X.K H xs us->r x xs G Q->
  wpAny (model X.prog X.w) X.A (call (.builtin id) (v::us)) (EP3 X pins τ H Q) X.xe s
def Ix3(X:Cx)(r:R3):Prop:=
 ∀(value slice:Expr)(pins:List (Addr×Obj))(s:Shared)(τ:St3)(G:Gp)(H:Hp)(x y:T)(v u:Value)(Q:VK3),Inv3 X pins τ G H s->RU X.K H x v->RU X.K H y u->r x y G Q->
  subscripted slice false v u=operate [v,u] (getItem v u)->wpAny (model X.prog X.w) X.A (subscriptTail value slice v u) (EP3 X pins τ H Q) X.xe s
def Set3(X:Cx)(r:T->T->T->Gp->(Gp->Prop)->Prop):Prop:=
 ∀(pins:List (Addr×Obj))(s:Shared)(τ:St3)(G:Gp)(H:Hp)(o i v:T)(ov iv u:Value)(Q:Gp->Prop),Inv3 X pins τ G H s->RU X.K H o ov->RU X.K H i iv->RU X.K H v u->r o i v G Q->
  wpAny (model X.prog X.w) X.A (setItem ov iv u) (λ_ s'=>∃G' H',Ext H H'/\Inv3 X pins τ G' H' s'/\Q G') X.xe s
def Tru3(X:Cx)(r:T->Gp->(Bool->Gp->Prop)->Prop):Prop:=
 ∀(pins:List (Addr×Obj))(s:Shared)(τ:St3)(G:Gp)(H:Hp)(x:T)(v:Value)(Q:Bool->Gp->Prop),Inv3 X pins τ G H s->RU X.K H x v->r x G Q->wpAny (model X.prog X.w) X.A (truthy v) (TP3 X pins τ H Q) X.xe s
section
variable {X:Cx}
theorem Op3.of{f:Value->Value->Sem Value}{r:R2}{r3:R3}(h:OpR X f r)
  (hr:∀H G x y a b Q,GRel X.K H G->Rep X.K H x a->Rep X.K H y b->r3 x y G Q->r a b H (up X.K H Q)):Op3 X f r3:=by
 rintro pins s τ G H x y v u Q ⟨σ,I,hs,hg⟩ ⟨a,ra,rv⟩ ⟨b,rb,ru⟩ q;exact thn (h pins s σ H a b v u _ I rv ru (hr H G x y a b Q hg ra rb q)) λu s' h=>jVq hs h
theorem Un3.of{f:Value->Sem Value}{r:V->Hp->VK->Prop}{r3:T->Gp->VK3->Prop}(h:UnR X f r)
  (hr:∀H G x a Q,GRel X.K H G->Rep X.K H x a->r3 x G Q->r a H (up X.K H Q)):Un3 X f r3:=by
 rintro pins s τ G H x v Q ⟨σ,I,hs,hg⟩ ⟨a,ra,rv⟩ q;exact thn (h pins s σ H a v _ I rv (hr H G x a Q hg ra q)) λu s' h=>jVq hs h
theorem Call3.of{f:Value}{r:List V->Hp->VK->Prop}{r3:List T->Gp->VK3->Prop}(h:kXd X f r)
  (hr:∀H G xs as Q,GRel X.K H G->Reps X.K H xs as->r3 xs G Q->r as H (up X.K H Q)):Call3 X f r3:=by
 rintro pins s τ G H xs us Q ⟨σ,I,hs,hg⟩ ⟨as,ra,rv⟩ q;exact thn (h pins s σ H as us _ I rv (hr H G xs as Q hg ra q)) λu s' h=>jVq hs h
theorem Mt3.of{id:String}{r:V->List V->Hp->VK->Prop}{r3:T->List T->Gp->VK3->Prop}(h:MtR X id r)
  (hr:∀H G x xs a as Q,GRel X.K H G->Rep X.K H x a->Reps X.K H xs as->r3 x xs G Q->r a as H (up X.K H Q)):Mt3 X id r3:=by
 rintro pins s τ G H x xs v us Q ⟨σ,I,hs,hg⟩ ⟨a,ra,rv⟩ ⟨as,ras,rvs⟩ q;exact thn (h pins s σ H a as v us _ I rv rvs (hr H G x xs a as Q hg ra ras q)) λu s' h=>jVq hs h
theorem Ix3.of{r:R2}{r3:R3}(h:IxR X r)
  (hr:∀H G x y a b Q,GRel X.K H G->Rep X.K H x a->Rep X.K H y b->r3 x y G Q->r a b H (up X.K H Q)):Ix3 X r3:=by
 rintro value slice pins s τ G H x y v u Q ⟨σ,I,hs,hg⟩ ⟨a,ra,rv⟩ ⟨b,rb,ru⟩ q hh;exact thn (h value slice pins s σ H a b v u _ I rv ru (hr H G x y a b Q hg ra rb q) hh) λu s' h=>jVq hs h
theorem Set3.of{t:TSet}{r3:T->T->T->Gp->(Gp->Prop)->Prop}(h:PSet X t)
  (hr:∀H G o i v a b c Q,GRel X.K H G->Rep X.K H o a->Rep X.K H i b->Rep X.K H v c->r3 o i v G Q->t a b c H (λH'=>∃G',Ext H H'/\GRel X.K H' G'/\Q G')):Set3 X r3:=by
 rintro pins s τ G H o i v ov iv u Q ⟨σ,I,hs,hg⟩ ⟨a,ra,rv⟩ ⟨b,rb,ru⟩ ⟨c,rc,rw'⟩ q;exact thn (h pins s σ H a b c ov iv u _ I rv ru rw' (hr H G o i v a b c Q hg ra rb rc q)) λ_ s' ⟨H',I',G',e,g',q'⟩=>⟨G',H',e,⟨σ,I',hs.mono e,g'⟩,q'⟩
theorem Tru3.of{r:V->Hp->(Bool->Hp->Prop)->Prop}{r3:T->Gp->(Bool->Gp->Prop)->Prop}(h:TruR X r)
  (hr:∀H G x a Q,GRel X.K H G->Rep X.K H x a->r3 x G Q->r a H (λb H'=>H'=H/\Q b G)):Tru3 X r3:=by
 rintro pins s τ G H x v Q ⟨σ,I,hs,hg⟩ ⟨a,ra,rv⟩ q
 exact thn (h pins s σ H a v _ I rv (hr H G x a Q hg ra q)) λb s' ⟨H',I',e,q'⟩=>by
  subst e;exact⟨G,H',.refl _,⟨σ,I',hs,hg⟩,q'⟩
theorem Op3.or{f:Value->Value->Sem Value}{r r':R3}(h:Op3 X f r)(h':Op3 X f r'):Op3 X f (λx y G Q=>r x y G Q\/r' x y G Q):=by
 intro pins s τ G H x y v u Q I rx ry q
 rcases q with q | q
 .exact h pins s τ G H x y v u Q I rx ry q
 .exact h' pins s τ G H x y v u Q I rx ry q
def rI(C:Int->Int->Prop)(g:Int->Int->T):R3:=λx y G Q=>∃i j,x= .int i/\y= .int j/\C i j/\Q (g i j) G
def rI0(g:Int->Int->T):R3:=λx y G Q=>∃i j,x= .int i/\y= .int j/\Q (g i j) G
theorem o_I{f:Value->Value->Sem Value}{C:Int->Int->Prop}{g:Int->Int->V}{g':Int->Int->T}(h:OpR X f (L2.rI C g))(hg':∀K H i j,Rep K H (g' i j) (g i j)):Op3 X f (rI C g'):=
 Op3.of h λH G x y a b Q hg ra rb ⟨i,j,ex,ey,c,q⟩=>by
  subst ex;subst ey;cases (show a= .int i from ra);cases (show b= .int j from rb)
  exact⟨i,j,rfl,rfl,c,g' i j,G,.refl H,hg,hg' _ _ i j,q⟩
theorem o_I0{f:Value->Value->Sem Value}{g:Int->Int->V}{g':Int->Int->T}(h:OpR X f (L2.rI0 g))(hg':∀K H i j,Rep K H (g' i j) (g i j)):Op3 X f (rI0 g'):=
 Op3.of h λH G x y a b Q hg ra rb ⟨i,j,ex,ey,q⟩=>by
  subst ex;subst ey;cases (show a= .int i from ra);cases (show b= .int j from rb)
  exact⟨i,j,rfl,rfl,g' i j,G,.refl H,hg,hg' _ _ i j,q⟩
theorem o_add:Op3 X (binaryOp .Add) (rI0 λi j=> .int (i+j)):=o_I0 uQy λ_ _ _ _=>rfl
theorem uJj:Op3 X (binaryOp .Sub) (rI0 λi j=> .int (i-j)):=o_I0 uQr λ_ _ _ _=>rfl
theorem o_mul:Op3 X (binaryOp .Mult) (rI CMul λi j=> .int (i*j)):=o_I uQu λ_ _ _ _=>rfl
theorem uQ4:Op3 X (binaryOp .FloorDiv) (rI CDiv λi j=> .int (i / j)):=o_I uJc λ_ _ _ _=>rfl
theorem jX7:Op3 X (binaryOp .Mod) (rI (λ_ j=>0<j) λi j=> .int (i%j)):=o_I uQv λ_ _ _ _=>rfl
theorem uVs:Op3 X (binaryOp .Pow) (rI CPow λi j=> .int (i^j.toNat)):=o_I uQt λ_ _ _ _=>rfl
theorem o_lt:Op3 X (compareOp .Lt) (rI0 λi j=> .bl (decide (i<j))):=o_I0 uVn λ_ _ _ _=>rfl
theorem o_le:Op3 X (compareOp .LtE) (rI0 λi j=> .bl (decide (i<=j))):=o_I0 uVo λ_ _ _ _=>rfl
theorem o_gt:Op3 X (compareOp .Gt) (rI0 λi j=> .bl (decide (j<i))):=o_I0 uVp λ_ _ _ _=>rfl
theorem o_ge:Op3 X (compareOp .GtE) (rI0 λi j=> .bl (decide (j<=i))):=o_I0 uVq λ_ _ _ _=>rfl
def kKv:T->Bool
 | .non=>true
 | _=>false
theorem Rep.non_iff{K:PySem.W.Frag}{H:Hp}{x:T}{a:V}(r:Rep K H x a):decide (a= .non)=kKv x:=by
 cases x with
 | non=>cases (show a= .non from r);rfl
 | bl b=>cases (show a= .bl b from r);rfl
 | int b=>cases (show a= .int b from r);rfl
 | str b=>cases (show a= .str b from r);rfl
 | ref b=>cases (show a= .ref b from r);rfl
 | ty b=>cases (show a= .ty b from r);rfl
 | tup b=>obtain⟨_,_,e,_⟩:=(show ∃c vs,a= .ref c/\_ from r);subst e;rfl
 | scr b=>obtain⟨_,_,e,_⟩:=(show ∃c vs,a= .ref c/\_ from r);subst e;rfl
theorem uJl:Op3 X (compareOp .Is) (λx y G Q=>y= .non/\Q (.bl (kKv x)) G):=
 Op3.of uQw λH G x y a b Q hg ra rb ⟨ey,q⟩=>by
  subst ey;cases (show b= .non from rb)
  exact⟨rfl,.bl (kKv x),G,.refl H,hg,by rw[ra.non_iff];rfl,q⟩
theorem kZb:Op3 X (compareOp .IsNot) (λx y G Q=>y= .non/\Q (.bl (!kKv x)) G):=
 Op3.of uJb λH G x y a b Q hg ra rb ⟨ey,q⟩=>by
  subst ey;cases (show b= .non from rb)
  exact⟨rfl,.bl (!kKv x),G,.refl H,hg,by rw[ra.non_iff];rfl,q⟩
end
def tOp(r:R3)(ta tb:TE3):TE3:=λτ G Q=>ta τ G λx G1=>tb τ G1 λy G2=>r x y G2 Q
def tUn(r:T->Gp->VK3->Prop)(ta:TE3):TE3:=λτ G Q=>ta τ G λx G1=>r x G1 Q
def jJv(t:TE3):TT3:=λτ G Q=>t τ G λx G1=>∃c,x= .bl c/\Q c G1
def tAnd(t u:TT3):TT3:=λτ G Q=>t τ G λc G1=>if c=true then u τ G1 Q else Q false G1
def tOr(t u:TT3):TT3:=λτ G Q=>t τ G λc G1=>if c=true then Q true G1 else u τ G1 Q
def tNot(t:TT3):TT3:=λτ G Q=>t τ G λc G1=>Q (!c) G1
def qZt(ta tb:TE3):TE3:=λτ G Q=>ta τ G λx G1=>∃c,x= .bl c/\if c=true then tb τ G1 Q else Q (.bl false) G1
def tOrV(ta tb:TE3):TE3:=λτ G Q=>ta τ G λx G1=>∃c,x= .bl c/\if c=true then Q (.bl true) G1 else tb τ G1 Q
def uK7(ta:TE3):TE3:=λτ G Q=>ta τ G λx G1=>∃c,x= .bl c/\Q (.bl (!c)) G1
def tIf(t:TT3)(ta tb:TE3):TE3:=λτ G Q=>t τ G λc G1=>if c=true then ta τ G1 Q else tb τ G1 Q
noncomputable def kK2(r r':R3)(ta tb tc:TE3):TE3:=λτ G Q=>ta τ G λx G1=>tb τ G1 λy G2=>r x y G2 λz G3=>∃k,z= .bl k/\if k=true then tc τ G3 (λw G4=>r' y w G4 Q) else Q (.bl false) G3
def tNil:TA3:=λ_ G Q=>Q [] G
def jJc(ta:TE3)(tr:TA3):TA3:=λτ G Q=>ta τ G λx G1=>tr τ G1 λxs G2=>Q (x::xs) G2
def tTup(t:TA3):TE3:=λτ G Q=>t τ G λxs G1=>xs.length<=sizeLine/\Q (.tup xs) G1
def tLst(t:TA3):TE3:=λτ G Q=>t τ G λxs G1=>xs.length<=sizeLine/\∀p,G1 p=none->Q (.ref p) (gup G1 p (.lst xs))
def tCB(r:List T->Gp->VK3->Prop)(t:TA3):TE3:=λτ G Q=>t τ G λxs G1=>r xs G1 Q
section
variable {X:Cx}{a b c:Expr}{ta tb tc:TE3}{tA tB:TT3}{pos:Pos}{rest es:List Expr}{t:TA3}
theorem e_op{op:Operator}{r:R3}(ho:Op3 X (binaryOp op) r)(ha:PE3 X a ta)(hb:PE3 X b tb):PE3 X (.BinOp a op b pos) (tOp r ta tb):=by
 intro pins s τ G H Q I h;exact wpAny_BinOp (bin3 ha hb I h λv u s2 x y G2 H2 e I2 rx ry q=>thn (ho pins s2 τ G2 H2 x y v u Q I2 rx ry q) λ_ _ z=>z.ext e)
theorem e_un{op:UnaryOp}{r:T->Gp->VK3->Prop}(ho:Un3 X (unaryOp op) r)(ha:PE3 X a ta):PE3 X (.UnaryOp op a pos) (tUn r ta):=by
 intro pins s τ G H Q I h;exact UnaryOp_ (thn (ha pins s τ G H _ I h) λv s1 w_=>w_.el λx G1 H1 e I1 r1 q1=>thn (ho pins s1 τ G1 H1 x v Q I1 r1 q1) λ_ _ z=>z.ext e)
theorem qJw{op:CmpOp}{r:R3}(ho:Op3 X (compareOp op) r)(ha:PE3 X a ta)(hb:PE3 X b tb)(hm:behindInMarks op b=false):PE3 X (.Compare a [op] [b] pos) (tOp r ta tb):=by
 intro pins s τ G H Q I h;exact wpAny_Compare1 (bin3 ha hb I h λv u s2 x y G2 H2 e I2 rx ry q=>thn (ho pins s2 τ G2 H2 x y v u Q I2 rx ry q) λ_ _ z=>z.ext e) hm
theorem jKo{op:CmpOp}{r:R3}(ho:Op3 X (compareOp op) r)(ha:PE3 X a ta)(hb:PE3 X b tb)(hm:behindInMarks op b=false):PT3 X (.Compare a [op] [b] pos) (jJv (tOp r ta tb)):=by
 intro pins s τ G H Q I h;refine wpAny_isTrue_Compare1 (bin3 ha hb I h λv u s2 x y G2 H2 e I2 rx ry q=>thn (ho pins s2 τ G2 H2 x y v u _ I2 rx ry q) λw' s3 w_=>w_.el λz G3 H3 e3 I3 r3 ⟨k,ez,q3⟩=> ?_) hm
 subst ez;obtain⟨v',rv',ru'⟩:=r3;cases (show v'= .bl k from rv');cases ru'
 exact lQ7 ⟨G3,H3,e.trans e3,I3,q3⟩
theorem qVk{e:Expr}{t:TE3}(h:PE3 X e t)(he:∀whole,isTrue e X.env whole=(do let v <-whole;standAt e.pos;holding [v] (truthy v)):=by intro _;rfl):PT3 X e (jJv t):=by
 intro pins s τ G H Q I hw;refine isTrue_plain (thn (h pins s τ G H _ I hw) λv s1 w_=>w_.el λx G1 H1 e1 I1 r1 ⟨k,ez,q1⟩=> ?_) (he _)
 subst ez;obtain⟨v',rv',ru'⟩:=r1;cases (show v'= .bl k from rv');cases ru'
 exact lQ7 ⟨G1,H1,e1,I1,q1⟩
def tTru(r:T->Gp->(Bool->Gp->Prop)->Prop)(t:TE3):TT3:=λτ G Q=>t τ G λx G1=>r x G1 Q
theorem qVl{e:Expr}{t:TE3}{r:T->Gp->(Bool->Gp->Prop)->Prop}(hr:Tru3 X r)(h:PE3 X e t)(he:∀whole,isTrue e X.env whole=(do let v <-whole;standAt e.pos;holding [v] (truthy v)):=by intro _;rfl):PT3 X e (tTru r t):=by
 intro pins s τ G H Q I hw;exact isTrue_plain (thn (h pins s τ G H _ I hw) λv s1 w_=>w_.el λx G1 H1 e1 I1 r1 q1=>thn (hr pins s1 τ G1 H1 x v Q I1 r1 q1) λ_ _ z=>z.ext e1) (he _)
theorem qKa(ha:PT3 X a tA):PW3 X (.BoolOp .And [a] pos) tA:=by
 intro wh pins s τ G H Q I h;refine isTrue_and (thn (ha pins s τ G H Q I h) λc s1 e=> ?_)
 cases c with
 | true=>exact isTrue_and_nil e
 | false=>exact e
theorem uKz(ha:PT3 X a tA):PW3 X (.BoolOp .Or [a] pos) tA:=by
 intro wh pins s τ G H Q I h;refine isTrue_or (thn (ha pins s τ G H Q I h) λc s1 e=> ?_)
 cases c with
 | false=>exact isTrue_or_nil e
 | true=>exact e
theorem qZm(ha:PT3 X a tA)(hb:PW3 X (.BoolOp .And (b::rest) pos) tB):PW3 X (.BoolOp .And (a::b::rest) pos) (tAnd tA tB):=by
 intro wh pins s τ G H Q I h;refine isTrue_and (thn (ha pins s τ G H _ I h) λc s1 w_=>w_.el λG1 H1 e1 I1 q1=> ?_)
 cases c with
 | true=>exact thn (hb wh pins s1 τ G1 H1 Q I1 q1) λ_ _ z=>z.ext e1
 | false=>exact⟨G1,H1,e1,I1,q1⟩
theorem w_or(ha:PT3 X a tA)(hb:PW3 X (.BoolOp .Or (b::rest) pos) tB):PW3 X (.BoolOp .Or (a::b::rest) pos) (tOr tA tB):=by
 intro wh pins s τ G H Q I h;refine isTrue_or (thn (ha pins s τ G H _ I h) λc s1 w_=>w_.el λG1 H1 e1 I1 q1=> ?_)
 cases c with
 | true=>exact⟨G1,H1,e1,I1,q1⟩
 | false=>exact thn (hb wh pins s1 τ G1 H1 Q I1 q1) λ_ _ z=>z.ext e1
theorem kXh(ha:PT3 X a tA):PT3 X (.UnaryOp .Not a pos) (tNot tA):=by
 intro pins s τ G H Q I h;exact isTrue_not (thn (ha pins s τ G H (λc G1=>Q (!c) G1) I h) λc s1 w_=>w_.el λG1 H1 e1 I1 q1=>⟨G1,H1,e1,I1,q1⟩)
theorem uV7 {op} {t:TE3} (h:PE3 X a t):PE3 X (.BoolOp op [a] pos) t:=λpins s τ G H Q I hw=>BoolOp_one (h pins s τ G H Q I hw)
theorem uV8(ha:PE3 X a ta)(hb:PE3 X (.BoolOp .And (b::rest) pos) tb):PE3 X (.BoolOp .And (a::b::rest) pos) (qZt ta tb):=by
 intro pins s τ G H Q I h;refine BoolOp_and (thn (ha pins s τ G H _ I h) λv s1 w_=>w_.el λx G1 H1 e1 I1 r1 ⟨k,ez,q1⟩=> ?_)
 subst ez;obtain⟨v',rv',ru'⟩:=r1;cases (show v'= .bl k from rv');cases ru'
 refine lQ7 ?_;cases k with
 | true=>exact thn (hb pins s1 τ G1 H1 Q I1 q1) λ_ _ z=>z.ext e1
 | false=>exact⟨.bl false,G1,H1,e1,I1,⟨.bl false,rfl,rfl⟩,q1⟩
theorem kUi(hc:PT3 X c tA)(ha:PE3 X a ta)(hb:PE3 X b tb):PE3 X (.IfExp c a b pos) (tIf tA ta tb):=by
 intro pins s τ G H Q I h;refine IfExp_ (thn (hc pins s τ G H _ I h) λk s1 w_=>w_.el λG1 H1 e1 I1 q1=> ?_)
 cases k with
 | true=>exact thn (ha pins s1 τ G1 H1 Q I1 q1) λ_ _ z=>z.ext e1
 | false=>exact thn (hb pins s1 τ G1 H1 Q I1 q1) λ_ _ z=>z.ext e1
theorem jJe:PA3 X [] tNil:=λ_ _ _ _ G H Q I h=>Calls.spliced_nil ⟨[],G,H,.refl H,I,⟨[],rfl,.nil⟩,h⟩
theorem jJa{e:Expr}{te:TE3}(ha:PE3 X e te)(hr:PA3 X es t)(hs:starEach (e::es) X.env=(false,eval e X.env)::starEach es X.env:=by rfl):PA3 X (e::es) (jJc te t):=by
 intro pos pins s τ G H Q I h;rw[hs];show wpAny _ _ (spliced ((false,eval e X.env)::backTo pos (starEach es X.env))) _ _ s
 refine Calls.spliced_cons (thn (ha pins s τ G H _ I h) λu s1 w_=>w_.el λx G1 H1 e1 I1 r1 q1=> ?_)
 refine thn (hr pos pins s1 τ G1 H1 _ I1 q1) λus s2 w_=>w_.el λxs G2 H2 e2 I2 r_ q2=>r_.el λvs rs rv=> ?_
 obtain⟨v,rr,rvv⟩:=r1.mono e2;exact⟨x::xs,G2,H2,e1.trans e2,I2,⟨v::vs,⟨v,vs,rfl,rr,rs⟩,.cons rvv rv⟩,q2⟩
theorem jQ6 {x1} (h:PA3 X es t):PE3 X (.Tuple es x1 pos) (tTup t):=by
 intro pins s τ G H Q I hq;refine wpAny_Tuple_spliced (thn (h pos pins s τ G H _ I hq) λus s1 w_=>w_.el λxs G1 H1 e1 i_ r_ ⟨z,q⟩=>i_.el λσ I1 hs1 hg1=>r_.el λvs rs rv=>⟨by rw[<-rv.length,<-rs.length];exact z,?_⟩)
 have hf:H1 s1.heap.objs.size=none:=I1.hok.fresh (lJg _);have e2:Ext H1 (upd H1 s1.heap.objs.size (.tup vs)):= .upd (.none hf);refine⟨.tup xs,G1,upd H1 s1.heap.objs.size (.tup vs),e1.trans e2,⟨σ,I1.laid (t':=s1.toks) (λb u e=>lJj _ e) (lJg _) ?_,hs1.mono e2,hg1.tupNew hf⟩,⟨.ref s1.heap.objs.size,Rep.tupNew rs hf,rfl⟩,q⟩
 exact⟨by rw[<-rs.length];exact z,us,rv,⟨_,lJ1 _ rfl,rfl,_,rfl,rfl⟩⟩
theorem jUg(h:PA3 X es t):PE3 X (.List es pos) (tLst t):=by
 intro pins s τ G H Q I hq;refine wpAny_List_spliced (thn (h pos pins s τ G H _ I hq) λus s1 w_=>w_.el λxs G1 H1 e1 i_ r_ ⟨z,q⟩=>i_.el λσ I1 hs1 hg1=>r_.el λvs rs rv=>⟨by rw[<-rv.length,<-rs.length];exact z,?_⟩)
 have hf:H1 s1.heap.objs.size=none:=I1.hok.fresh (lJg _);have e2:Ext H1 (upd H1 s1.heap.objs.size (.lst vs)):= .upd (.none hf);refine⟨.ref s1.heap.objs.size,gup G1 s1.heap.objs.size (.lst xs),upd H1 s1.heap.objs.size (.lst vs),e1.trans e2,⟨σ,I1.laid (t':=s1.toks) (λb u e=>lJj _ e) (lJg _) ?_,hs1.mono e2,hg1.lstNew rs (.none hf)⟩,⟨.ref s1.heap.objs.size,rfl,rfl⟩,q _ (hg1.fresh hf)⟩
 exact⟨by rw[<-rs.length];exact z,us,0,rv,lJ1 _ rfl⟩
theorem e_ix{r:R3}(hr:Ix3 X r)(ha:PE3 X a ta)(hb:PE3 X b tb)(hs:uKq b):PE3 X (.Subscript a b pos) (tOp r ta tb):=by
 intro pins s τ G H Q I h;exact Subscript_ (bin3 ha hb I h λv u s2 x y G2 H2 e I2 rx ry q=>thn (hr a b pins s2 τ G2 H2 x y v u Q I2 rx ry q (hs _ _)) λ_ _ z=>z.ext e)
def rIx:R3:=λx y G Q=>∃xs i t,seqT G x=some xs/\y= .int i/\atI xs i=some t/\Q t G
theorem jYt{o:Option GO}{xs:List T}(h:asL o=some xs):o=some (.lst xs):=by
 cases o with
 | none=>cases h
 | some g=>cases g with
  | lst ys=>cases h;rfl
  | dct _=>cases h
  | dck _=>cases h
  | fdc _=>cases h
  | ins _ _=>cases h
  | exc _=>cases h
theorem jU6{K:PySem.W.Frag}{H:Hp}{G:Gp}{x:T}{a:V}{xs:List T}(hg:GRel K H G)(r:Rep K H x a)(h:seqT G x=some xs):
  ∃p vs,a= .ref p/\(SqL K H p vs\/SqT K H p vs)/\Reps K H xs vs:=by
 cases x with
 | tup ys=>cases h;obtain⟨p,vs,e,h1,h2⟩:=(show ∃p vs,a= .ref p/\H p=some (.tup vs)/\Reps K H xs vs from r);exact⟨p,vs,e,.inr (.of h1),h2⟩
 | scr ys=>cases h;obtain⟨p,vs,e,h1,h2⟩:=(show ∃p vs,a= .ref p/\FrL K H p vs/\Reps K H xs vs from r);exact⟨p,vs,e,.inl h1.sq,h2⟩
 | ref p=>
  obtain⟨vs,h1,h2⟩:=hg.lst (jYt h);exact⟨p,vs,r,.inl (.of h1),h2⟩
 | non=>cases h
 | bl _=>cases h
 | int _=>cases h
 | str _=>cases h
 | ty _=>cases h
theorem ix_any:Ix3 X rIx:=
 Ix3.of (ix_list.or uUj) λH G x y a b Q hg ra rb ⟨xs,i,t,hx,ey,ht,q⟩=>by
  subst ey;cases (show b= .int i from rb)
  obtain⟨p,vs,e,hq,r⟩:=jU6 hg ra hx;subst e;obtain⟨v,hv,rv⟩:=r.atI ht
  rcases hq with hq | hq
  .exact .inl ⟨p,vs,i,v,rfl,rfl,hq,hv,t,G,.refl H,hg,rv,q⟩
  .exact .inr ⟨p,vs,i,v,rfl,rfl,hq,hv,t,G,.refl H,hg,rv,q⟩
theorem jJw{id:String}{r:List T->Gp->VK3->Prop}{x:Str}{p:Pos}{e:Expr}(hc:Call3 X (.builtin id) r)(hg:Gl X x)(hm:X.mg x=none)(hv:bootBuiltins x=some (.builtin id))(ha:PA3 X (e::es) t)(hn:x≠"__name__":=by decide)(hdb:(x == ("__debug__":Str))=false:=by decide)
  (he:starEach (e::es) X.env=(false,eval e X.env)::starEach es X.env:=by rfl) (hpl:(backTo pos (starEach es X.env)).any (·.1)=false:=by rfl):PE3 X (.Call (.Name x p) (e::es) [] pos) (tCB r t):=by
 intro pins s τ G H Q I h;obtain⟨σ,I0,hs0,hg0⟩:=_root_.id I;refine lXd (jU9 I0 hg hm hv ?_ hn hdb);exact lZd (thn (ha pos pins s τ G H _ I h) λus s1 w_=>w_.el λxs G1 H1 e1 I1 r1 q1=>thn (hc pins s1 τ G1 H1 xs us Q I1 r1 q1) λ_ _ z=>z.ext e1) he hpl
theorem jKu{T0:String}{r:List T->Gp->VK3->Prop}{x:Str}{p:Pos}{e:Expr}(hc:Call3 X (.type T0) r)(hg:Gl X x)(hm:X.mg x=none)(hv:bootBuiltins x=some (.type T0))(ha:PA3 X (e::es) t)(hn:x≠"__name__":=by decide)(hdb:(x == ("__debug__":Str))=false:=by decide)
  (he:starEach (e::es) X.env=(false,eval e X.env)::starEach es X.env:=by rfl) (hpl:(backTo pos (starEach es X.env)).any (·.1)=false:=by rfl):PE3 X (.Call (.Name x p) (e::es) [] pos) (tCB r t):=by
 intro pins s τ G H Q I h;obtain⟨σ,I0,hs0,hg0⟩:=_root_.id I;refine lXd (jU9 I0 hg hm hv ?_ hn hdb);exact lKy (thn (ha pos pins s τ G H _ I h) λus s1 w_=>w_.el λxs G1 H1 e1 I1 r1 q1=>thn (hc pins s1 τ G1 H1 xs us Q I1 r1 q1) λ_ _ z=>z.ext e1) he hpl
theorem jU7{K:PySem.W.Frag}{H:Hp}{x:T}{vs:List V}(h:Reps K H [x] vs):∃v,vs=[v]/\Rep K H x v:=by
 obtain⟨v,ws,rfl,r,e⟩:=h;cases e;exact⟨v,rfl,r⟩
theorem kQ0{K:PySem.W.Frag}{H:Hp}{x y:T}{vs:List V}(h:Reps K H [x,y] vs):∃v w,vs=[v,w]/\Rep K H x v/\Rep K H y w:=by
 obtain⟨v,ws,rfl,r,w,ws2,rfl,r2,e⟩:=h;cases e;exact⟨v,w,rfl,r,r2⟩
def rLen:List T->Gp->VK3->Prop:=λxs G Q=>∃x ys,xs=[x]/\seqT G x=some ys/\Q (.int ys.length) G
theorem jQq:Call3 X (.builtin "len") rLen:=
 Call3.of kV1 λH G xs as Q hg ra ⟨x,ys,e,hx,q⟩=>by
  subst e;obtain⟨v,rfl,rv⟩:=jU7 ra;obtain⟨p,vs,rfl,hq,r⟩:=jU6 hg rv hx;exact⟨p,vs,rfl,hq,.int ys.length,G,.refl H,hg,by rw[r.length];rfl,q⟩
def rAbs:List T->Gp->VK3->Prop:=λxs G Q=>∃i,xs=[.int i]/\Q (.int (if i<0 then -i else i)) G
theorem uU3:Call3 X (.builtin "abs") rAbs:=
 Call3.of qYl λH G xs as Q hg ra ⟨i,e,q⟩=>by
  subst e;obtain⟨v,rfl,rv⟩:=jU7 ra;cases (show v= .int i from rv)
  exact⟨i,rfl,.int _,G,.refl H,hg,rfl,q⟩
def rMax:List T->Gp->VK3->Prop:=λxs G Q=>∃i j,xs=[.int i,.int j]/\Q (.int (if j>i then j else i)) G
theorem uXc(hc:X.calm=true):Call3 X (.builtin "max") rMax:=
 Call3.of (qU1 hc) λH G xs as Q hg ra ⟨i,j,e,q⟩=>by
  subst e;obtain⟨v,w,rfl,rv,rw'⟩:=kQ0 ra;cases (show v= .int i from rv);cases (show w= .int j from rw')
  exact⟨i,j,rfl,.int _,G,.refl H,hg,rfl,q⟩
def qK9:List T->Gp->VK3->Prop:=λxs G Q=>∃k,xs=[.bl k]/\Q (.int (if k then 1 else 0)) G
theorem uXd:Call3 X (.type "int") qK9:=
 Call3.of qU2 λH G xs as Q hg ra ⟨k,e,q⟩=>by
  subst e;obtain⟨v,rfl,rv⟩:=jU7 ra;cases (show v= .bl k from rv)
  exact .inr ⟨k,rfl,.int _,G,.refl H,hg,rfl,q⟩
def kXx:List T->Gp->VK3->Prop:=λxs G Q=>∃i j,xs=[.int i,.int j]/\CDiv i j/\Q (.tup [.int (i / j),.int (i%j)]) G
theorem qYm:Call3 X (.builtin "divmod") kXx:=
 Call3.of kYm λH G xs as Q hg ra ⟨i,j,e,c,q⟩=>by
  subst e;obtain⟨v,w,rfl,rv,rw'⟩:=kQ0 ra;cases (show v= .int i from rv);cases (show w= .int j from rw')
  exact⟨i,j,rfl,c,λp hp=>⟨.tup [.int (i / j),.int (i%j)],G,.upd (.none hp),hg.tupNew hp,Rep.tupNew ⟨_,_,rfl,rfl,_,_,rfl,rfl,rfl⟩ hp,q⟩⟩
def kXw:List T->Gp->VK3->Prop:=λxs G Q=>∃x ys,xs=[x]/\seqT G x=some ys/\∀p,G p=none->Q (.ref p) (gup G p (.lst ys))
theorem uU2:Call3 X (.type "list") kXw:=
 Call3.of kV0 λH G xs as Q hg ra ⟨x,ys,e,hx,q⟩=>by
  subst e;obtain⟨v,rfl,rv⟩:=jU7 ra;obtain⟨p,vs,rfl,hq,r⟩:=jU6 hg rv hx;exact⟨p,vs,rfl,hq,λl hl=>⟨.ref l,_,.upd (.none hl),hg.lstNew r (.none hl),rfl,q l (hg.fresh hl)⟩⟩
def jK3:List T->Gp->VK3->Prop:=λxs G Q=>∃x ys,xs=[x]/\seqT G x=some ys/\Q (.tup ys) G
theorem jQ1:Call3 X (.type "tuple") jK3:=
 Call3.of kUp λH G xs as Q hg ra ⟨x,ys,e,hx,q⟩=>by
  subst e;obtain⟨v,rfl,rv⟩:=jU7 ra;obtain⟨p,vs,rfl,hq,r⟩:=jU6 hg rv hx;cases x with
  | tup zs=>
   cases hx;obtain⟨p',vs',e',h1,h2⟩:=(show ∃p' vs',V.ref p= .ref p'/\H p'=some (.tup vs')/\Reps X.K H ys vs' from rv)
   cases e';exact⟨p,vs',rfl,.inr ⟨.of h1,.tup ys,G,.refl H,hg,⟨p,vs',rfl,h1,h2⟩,q⟩⟩
  | scr zs=>
   cases hx;obtain⟨p',vs',e',h1,h2⟩:=(show ∃p' vs',V.ref p= .ref p'/\FrL X.K H p' vs'/\Reps X.K H ys vs' from rv)
   cases e';exact⟨p,vs',rfl,.inl ⟨h1.sq,λl hl=>⟨.tup ys,G,.upd (.none hl),hg.tupNew hl,Rep.tupNew h2 hl,q⟩⟩⟩
  | ref p'=>
   cases (show V.ref p= .ref p' from rv)
   obtain⟨vs',h1,h2⟩:=hg.lst (jYt hx);exact⟨p,vs',rfl,.inl ⟨.of h1,λl hl=>⟨.tup ys,G,.upd (.none hl),hg.tupNew hl,Rep.tupNew h2 hl,q⟩⟩⟩
  | non=>cases hx
  | bl _=>cases hx
  | int _=>cases hx
  | str _=>cases hx
  | ty _=>cases hx
noncomputable def rCat:R3:=λx y G Q=>∃p q xs ys,x= .ref p/\y= .ref q/\G p=some (.lst xs)/\G q=some (.lst ys)/\xs.length+ys.length<=sizeLine/\∀l,G l=none->Q (.ref l) (gup G l (.lst (xs++ys)))
noncomputable def rRep:R3:=λx y G Q=>∃p xs n,x= .ref p/\y= .int n/\G p=some (.lst xs)/\n.toNat * xs.length<=sizeLine/\n<2^62/\ -(2^62)<n/\∀l,G l=none->Q (.ref l) (gup G l (.lst (List.replicate n.toNat xs).flatten))
def tyT(G:Gp)(T0:String)(x:T):Prop:=match x with
 | .str _=>T0="str"
 | .int _=>T0="int"
 | .ref p=>(T0="list"/\∃xs,G p=some (.lst xs))\/(T0="dict"/\((∃kvs,G p=some (.dck kvs))\/∃kvs,G p=some (.dct kvs)))
 | _=>False
theorem tyT.of{K:PySem.W.Frag}{H:Hp}{G:Gp}{T0:String}{x:T}{a:V}(hg:GRel K H G)(r:Rep K H x a)(h:tyT G T0 x):tyV K T0 a H:=by
 cases x with
 | str z=>cases (show a= .str z from r);exact h
 | int z=>cases (show a= .int z from r);exact h
 | ref p=>
  cases (show a= .ref p from r)
  rcases h with ⟨e,xs,h⟩ | ⟨e,h⟩
  .obtain⟨vs,h1,_⟩:=hg.lst h;exact .inl ⟨e,vs,.of h1⟩
  .refine .inr (.inr (.inl ⟨e,?_⟩))
   rcases h with ⟨kvs,h⟩ | ⟨kvs,h⟩
   .obtain⟨ws,h1,_⟩:=hg p _ h;exact .inl ⟨ws,h1⟩
   .obtain⟨ws,h1,_⟩:=hg p _ h;exact .inr ⟨ws,h1⟩
 | non=>exact False.elim h
 | bl _=>exact False.elim h
 | ty _=>exact False.elim h
 | tup _=>exact False.elim h
 | scr _=>exact False.elim h
def tBM(T0:String)(r:T->List T->Gp->VK3->Prop)(to:TE3)(t:TA3):TE3:=λτ G Q=>to τ G λx G1=>tyT G1 T0 x/\t τ G1 λxs G2=>r x xs G2 Q
theorem e_bm{T0 id:String}{r:T->List T->Gp->VK3->Prop}{o e:Expr}{name:Str}{apos cpos:Pos}{to:TE3}(pa:PlainAttrs T0)(slot:Slot T0 name id)(hty:typeOf (.builtin id)=pure (.type "method_descriptor"))(hm:Mt3 X id r)(ho:PE3 X o to)(ha:PA3 X (e::es) t)
  (hbase:attributeBase o name X.env (eval o X.env)=eval o X.env:=by rfl)
  (hfew:((backTo cpos (starEach (e::es) X.env)).all (λx=> !x.1)&&(backToKw cpos (keywordEach [] X.env)).all (λx=>x.1.isSome)
   &&decide ((e::es).length+([]:List Keyword).length+(if ([]:List Keyword).isEmpty then 0 else 1)<30))=true:=by rfl)
  (hline:(apos.endLine == cpos.line)=true:=by rfl) (hs:starEach (e::es) X.env=(false,eval e X.env)::starEach es X.env:=by rfl) (hplain:(backTo cpos (starEach es X.env)).any (·.1)=false:=by rfl):
  PE3 X (.Call (.Attribute o name apos) (e::es) [] cpos) (tBM T0 r to t):=by
 intro pins s τ G H Q I h;refine wpAny_Call_method_late hbase hfew hline rfl (thn (ho pins s τ G H _ I h) λv s1 w_=>w_.el λx G1 H1 e1 I1 r1 ⟨ty,q1⟩=> ?_)
 obtain⟨σ,I0,hs0,hg0⟩:=_root_.id I1;obtain⟨a0,ra0,rv0⟩:=_root_.id r1;obtain⟨h1,h2⟩:=uK3 I0 rv0 (tyT.of hg0 ra0 ty);refine⟨T0,id,pa,slot,hty,h1,h2,?_⟩;have hA:=ha cpos pins s1 τ G1 H1 _ I1 q1;rw[hs] at hA ⊢;refine Calls.callWith_builtin (by show (false||(backTo cpos (starEach es X.env)).any (·.1))=false;rw[hplain]<;>rfl) (Calls.evalArgs_plain ?_)
 exact thn hA λus s2 w_=>w_.el λvs G2 H2 e2 I2 r2 q2=>thn (hm pins s2 τ G2 H2 x vs v us Q I2 (r1.mono e2) r2 q2) λ_ _ z=>(z.ext e2).ext e1
def jQo:T->List T->Gp->VK3->Prop:=λx xs G Q=>∃p ys y,x= .ref p/\xs=[y]/\G p=some (.lst ys)/\ys.length<sizeLine/\Q .non (gup G p (.lst (ys++[y])))
def qV3:T->T->T->Gp->(Gp->Prop)->Prop:=λo i v G Q=>∃p xs k j,o= .ref p/\i= .int k/\G p=some (.lst xs)/\ixN xs.length k=some j/\Q (gup G p (.lst (xs.set j v)))
theorem s_list:Set3 X qV3:=
 Set3.of qVs λH G o i v a b c Q hg ra rb rc ⟨p,xs,k,j,eo,ei,hp,hj,q⟩=>by
  subst eo;subst ei;cases (show a= .ref p from ra);cases (show b= .int k from rb)
  obtain⟨vs,h1,h2⟩:=hg.lst hp;exact⟨p,vs,k,j,rfl,rfl,h1,by rw[<-h2.length];exact hj,_,.upd (.lst h1),hg.lstNew (h2.set rc j) (.lst h1),q⟩
end
section
variable {X:Cx}
theorem o_cat:Op3 X (binaryOp .Add) rCat:=
 Op3.of uQx λH G x y a b Q hg ra rb ⟨p,q,xs,ys,ex,ey,hp,hq,hz,h⟩=>by
  subst ex;subst ey;cases (show a= .ref p from ra);cases (show b= .ref q from rb)
  obtain⟨vs,h1,h2⟩:=hg.lst hp;obtain⟨ws,h3,h4⟩:=hg.lst hq;exact⟨p,q,vs,ws,rfl,rfl,h1,h3,by rw[<-h2.length,<-h4.length];exact hz,λl hl=>⟨.ref l,_,.upd (.none hl),hg.lstNew (h2.append h4) (.none hl),rfl,h l (hg.fresh hl)⟩⟩
theorem uVr:Op3 X (binaryOp .Mult) rRep:=
 Op3.of uQs λH G x y a b Q hg ra rb ⟨p,xs,n,ex,ey,hp,hz,h1,h2,h⟩=>by
  subst ex;subst ey;cases (show a= .ref p from ra);cases (show b= .int n from rb)
  obtain⟨vs,h3,h4⟩:=hg.lst hp;refine⟨p,n,vs,rfl,rfl,h3,by omega,by omega,by rw[<-h4.length,lXo];exact hz,λl hl=>⟨.ref l,_,.upd (.none hl),hg.lstNew (h4.rep _) (.none hl),rfl,h l (hg.fresh hl)⟩⟩
theorem jQl:Mt3 X "list.append" jQo:=
 Mt3.of qQq λH G x xs a as Q hg ra ras ⟨p,ys,y,ex,exs,hp,hz,q⟩=>by
  subst ex;subst exs;cases (show a= .ref p from ra)
  obtain⟨v,rfl,rv⟩:=jU7 ras;obtain⟨vs,h1,h2⟩:=hg.lst hp;exact⟨p,vs,v,rfl,rfl,h1,by rw[<-h2.length];exact hz,.non,_,.upd (.lst h1),hg.lstNew (h2.append (.one rv)) (.lst h1),rfl,q⟩
end
def jJ5:TS3:=λD τ G=>D.nx τ G
def tSeq(t u:TS3):TS3:=λD τ G=>t {D with nx:=u D} τ G
def jQm(te:TE3):TS3:=λD τ G=>te τ G λ_ G1=>D.nx τ G1
def tRet(te:TE3):TS3:=λD τ G=>te τ G D.rt
def uK6:TS3:=λD _ G=>D.rt .non G
def tIfS(c:TT3)(t u:TS3):TS3:=λD τ G=>c τ G λb G1=>if b=true then t D τ G1 else u D τ G1
section
variable {X:Cx}{st:Stmt}{rest:List Stmt}{t u:TS3}{e:Expr}{te:TE3}{pos:Pos}
theorem jJ9:PSs3 X [] jJ5:=λ_ _ τ G H _ I h=>lVa ⟨τ,G,H,.refl H,I,h⟩
theorem jJd(h1:PS3 X st t)(h2:PSs3 X rest u):PSs3 X (st::rest) (tSeq t u):=by
 intro pins s τ G H D I h;refine lXe (thn (h1 pins s τ G H {D with nx:=u D} I h) λf s1 q=> ?_)
 cases f with
 | next=>
  obtain⟨τ',G',H',e',I',q⟩:=q;exact thn (h2 pins s1 τ' G' H' D I' q) λ_ _ z=>z.ext e'
 | ret v=>exact q
 | brk=>exact q
 | cont=>exact q
theorem jJj(h1:PS3 X st t):PSs3 X [st] t:=by
 intro pins s τ G H D I h;refine lXe (thn (h1 pins s τ G H D I h) λf s1 q=> ?_)
 cases f with
 | next=>exact lVa q
 | ret v=>exact q
 | brk=>exact q
 | cont=>exact q
theorem jQk(he:PE3 X e te)(hs:swapsWith e none pos.line X.env=pure false:=by rfl):PS3 X (.Expr e pos) (jQm te):=by
 intro pins s τ G H D I h;obtain⟨σ,I0,hs0,hg0⟩:=id I;exact wpAny_Expr_any (thn (he pins s τ G H _ I h) λv s1 w_=>w_.el λx G1 H1 e1 I1 r1 q1=>⟨τ,G1,H1,e1,I1,q1⟩) I0.quiet hs
theorem jKb(he:PE3 X e te):PS3 X (.Return (some e) pos) (tRet te):=by
 intro pins s τ G H D I h;exact wpAny_Return_some (thn (he pins s τ G H _ I h) λv s1 w_=>w_.el λx G1 H1 e1 I1 r1 q1=>⟨x,τ,G1,H1,e1,I1,r1,q1⟩)
theorem s_if{c:Expr}{a b:List Stmt}{tc:TT3}(hc:PT3 X c tc)(ha:PSs3 X a t)(hb:PSs3 X b u):PS3 X (.If c a b pos) (tIfS tc t u):=by
 intro pins s τ G H D I h;refine wpAny_If (thn (hc pins s τ G H _ I h) λd s1 w_=>w_.el λG1 H1 e1 I1 q1=> ?_)
 cases d with
 | true=>exact thn (ha pins s1 τ G1 H1 D I1 q1) λ_ _ z=>z.ext e1
 | false=>exact thn (hb pins s1 τ G1 H1 D I1 q1) λ_ _ z=>z.ext e1
end
abbrev TG3:=T->St3->Gp->(St3->Gp->Prop)->Prop
abbrev TGs3:=List T->St3->Gp->(St3->Gp->Prop)->Prop
def GP3(X:Cx)(pins:List (Addr×Obj))(H:Hp)(Q:St3->Gp->Prop)(s':Shared):Prop:=∃ τ' G' H',Ext H H'/\Inv3 X pins τ' G' H' s'/\Q τ' G'
def PG3(X:Cx)(target:Expr)(t:TG3):Prop:=
 ∀(pins:List (Addr×Obj))(s:Shared)(τ:St3)(G:Gp)(H:Hp)(v:T)(u:Value)(Q:St3->Gp->Prop),Inv3 X pins τ G H s->RU X.K H v u->t v τ G Q->
  wpAny (model X.prog X.w) X.A (assign target X.env u) (λ_ s'=>GP3 X pins H Q s') X.xe s
def PGs3(X:Cx)(ts:List Expr)(t:TGs3):Prop:=
 ∀(pins:List (Addr×Obj))(s:Shared)(τ:St3)(G:Gp)(H:Hp)(vs:List T)(us:List Value)(Q:St3->Gp->Prop),Inv3 X pins τ G H s->RUs X.K H vs us->t vs τ G Q->
  wpAny (model X.prog X.w) X.A (assignInOrder ((assignEach ts X.env).map (·.2)) us) (λ_ s'=>GP3 X pins H Q s') X.xe s
def jJh(i:Nat):TG3:=λv τ G Q=>Q (τ.set i (some v)) G
def gNil:TGs3:=λvs τ G Q=>vs=[]/\Q τ G
def jKd(t:TG3)(u:TGs3):TGs3:=λvs τ G Q=>∃v r,vs=v::r/\t v τ G λτ' G'=>u r τ' G' Q
def gTup(n:Nat)(t:TGs3):TG3:=λv τ G Q=>∃xs,v= .tup xs/\xs.length=n/\t xs τ G Q
def gSub(to ti:TE3)(t:T->T->T->Gp->(Gp->Prop)->Prop):TG3:=λv τ G Q=>to τ G λo G1=>ti τ G1 λi G2=>t o i v G2 λG3=>Q τ G3
def tAsg(te:TE3)(g:TG3):TS3:=λD τ G=>te τ G λx G1=>g x τ G1 D.nx
section
variable {X:Cx}{pos:Pos}
theorem jJn{i:Nat}{x:Str}(hN:X.N.Nodup)(hi:X.N[i]? =some x:=by rfl)(hx:Loc X.env.scope x:=by first | exact Or.inl rfl | exact Or.inr rfl)(hf:X.fn x=true\/X.env.scope.names.lookup x=some .local:=by first | exact .inl rfl | exact .inr rfl):PG3 X (.Name x pos) (jJh i):=by
 rintro pins s τ G H v u Q ⟨σ,I,hs,hg⟩ ⟨a,ra,rv⟩ h;exact wpAny_assign_Name (jVg I hN hi hx rv (λs' I'=>⟨_,G,H,.refl H,⟨_,I',hs.set i ra,hg⟩,h⟩) hf)
theorem jQj:PGs3 X [] gNil:=by
 rintro pins s τ G H vs us Q I ⟨as,r,rv⟩ ⟨e,h⟩;subst e;cases (show as=[] from r)
 cases rv;exact assignInOrder_nil ⟨τ,G,H,.refl H,I,h⟩
theorem jJs{e:Expr}{es:List Expr}{t:TG3}{u:TGs3}(h1:PG3 X e t)(h2:PGs3 X es u)
  (hs:(assignEach (e::es) X.env).map (·.2)=assign e X.env::(assignEach es X.env).map (·.2):=by rfl):PGs3 X (e::es) (jKd t u):=by
 rintro pins s τ G H vs us Q I ⟨as,r,rv⟩ ⟨v,vr,e1,h⟩;subst e1;obtain⟨a,ar,rfl,ra,rar⟩:=r;cases rv with
 | cons q qq=>
  rw[hs];refine lY5 (thn (h1 pins s τ G H v _ _ I ⟨a,ra,q⟩ h) λ_ s1 ⟨τ1,G1,H1,e1,I1,q1⟩=> ?_)
  exact thn (h2 pins s1 τ1 G1 H1 vr _ Q I1 ⟨ar,Reps.mono e1 _ rar,qq⟩ q1) λ_ s2 ⟨τ2,G2,H2,e2,z⟩=>⟨τ2,G2,H2,e1.trans e2,z⟩
theorem jUp{es:List Expr}{k:Nat}{t:TGs3}{n:Nat}(hc:X.calm=true)(h:PGs3 X es t)
  (hn:(assignEach es X.env).length=n:=by rfl) (hst:(assignEach es X.env).findIdx? (·.1)=none:=by rfl):PG3 X (.Tuple es k pos) (gTup n t):=by
 rintro pins s τ G H v u Q ⟨σ,I,hs,hg⟩ ⟨a,ra,rv⟩ ⟨xs,ev,hl,hw⟩;subst ev;obtain⟨p,vs,e1,h1,r1⟩:=(show ∃p vs,a= .ref p/\H p=some (.tup vs)/\Reps X.K H xs vs from ra)
 subst e1;cases rv;obtain⟨its,rv,ht,hz⟩:=I.tuple (.of h1);refine assign_Tuple_tuple (I.ok.hd hc) ht (by simp[hn,<-hl,r1.length,rv.length]) hst λh' hx=> ?_
 have I1:Inv X pins σ H {s with heap:=h'}:=I.kept (t':=s.toks) λb o e=>hx b o (lJp (lJi e)) e
 exact h pins _ τ G H xs _ Q ⟨σ,I1,hs,hg⟩ ⟨vs,r1,by simpa using rv⟩ hw
theorem jYs{o i:Expr}{to ti:TE3}{t:T->T->T->Gp->(Gp->Prop)->Prop}(ho:PE3 X o to)(hi:PE3 X i ti)(hs:Set3 X t)
  (ha:∀v,assign (.Subscript o i pos) X.env v=(do
   let ov <-holding [v] (eval o X.env)
   let iv <-holding [v,ov] (eval i X.env)
   standAt pos
   holding [v,ov,iv] (setItem ov iv v)
   release [v,ov,iv] []):=by intro _;rfl):PG3 X (.Subscript o i pos) (gSub to ti t):=by
 intro pins s τ G H v u Q I r h;rw[ha];refine lJa (lKo (thn (ho pins s τ G H _ I h) λov s1 w_=>w_.el λx G1 H1 e1 I1 r1 q1=> ?_))
 refine lJa (lKo (thn (hi pins s1 τ G1 H1 _ I1 q1) λiv s2 w_=>w_.el λy G2 H2 e2 I2 r2 q2=> ?_))
 refine lJa (lVb (lJa (lKo (thn (hs pins s2 τ G2 H2 x y v ov iv u _ I2 (r1.mono e2) r2 (r.mono (e1.trans e2)) q2) λ_ s3 ⟨G3,H3,e3,I3,q3⟩=> ?_))))
 exact wpAny_release ⟨τ,G3,H3,(e1.trans e2).trans e3,I3,q3⟩
theorem jVz{tg e:Expr}{te:TE3}{g:TG3}(he:PE3 X e te)(hg:PG3 X tg g)(hs:swapsWithSole [tg] e pos.line X.env=pure false:=by rfl)(hw:swappedStores [tg] e X.env=pure none:=by rfl)
  (h1:(assignEach [tg] X.env).map (·.2)=[assign tg X.env]:=by rfl):PS3 X (.Assign [tg] e pos) (tAsg te g):=by
 intro pins s τ G H D I h;refine wpAny_Assign_stores (thn (he pins s τ G H _ I h) λv s1 w_=>w_.el λx G1 H1 e1 I1 r1 q1=> ?_) hs hw
 rw[h1];exact thn (hg pins s1 τ G1 H1 x v _ I1 r1 q1) λ_ s2 ⟨τ2,G2,H2,e2,q⟩=>⟨τ2,G2,H2,e1.trans e2,q⟩
theorem jJ2{i:Nat}{x:Str}{e:Expr}{te:TE3}{pos':Pos}(hN:X.N.Nodup)(he:PE3 X e te)(hi:X.N[i]? =some x:=by rfl)(hx:Loc X.env.scope x:=by first | exact Or.inl rfl | exact Or.inr rfl)
  (hs:swapsWith e (some (.Name x pos')) pos.line X.env=pure false:=by rfl) (hf:X.fn x=true\/X.env.scope.names.lookup x=some .local:=by first | exact .inl rfl | exact .inr rfl):
  PS3 X (.Assign [.Name x pos'] e pos) (tAsg te (jJh i)):=by
 intro pins s τ G H D I h;refine wpAny_Assign_Name (thn (he pins s τ G H _ I h) λv s1 w_=>w_.el λy G1 H1 e1 i_ r_ q1=>i_.el λσ I1 hs1 hg1=>r_.el λa ra rv=> ?_) hs
 exact jVg I1 hN hi hx rv (λs2 I2=>⟨_,G1,H1,e1,⟨_,I2,hs1.set i ra,hg1⟩,q1⟩) hf
def tPar(i j:Nat)(ta:TA3):TS3:=λD τ G=>ta τ G λvs G1=>∃v w,vs=[v,w]/\D.nx ((τ.set i (some v)).set j (some w)) G1
theorem uQd{i j:Nat}{x y:Str}{a b:Expr}{ta:TA3}{px py pt:Pos}{kt k2 pt2} (hc:X.calm=true) (hN:X.N.Nodup) (hij:i≠j) (ha:PA3 X [a,b] ta) (hi:X.N[i]? =some x:=by rfl) (hj:X.N[j]? =some y:=by rfl)
  (hx:X.env.scope.names.lookup x=some .local:=by rfl) (hy:X.env.scope.names.lookup y=some .local:=by rfl)
  (hw:swappedStores [.Tuple [.Name x px,.Name y py] kt pt] (.Tuple [a,b] k2 pt2) X.env=pure (some [x,y]):=by rfl)
  (hs:swapsWithSole [.Tuple [.Name x px,.Name y py] kt pt] (.Tuple [a,b] k2 pt2) pos.line X.env=pure false:=by rfl):
  PS3 X (.Assign [.Tuple [.Name x px,.Name y py] kt pt] (.Tuple [a,b] k2 pt2) pos) (tPar i j ta):=by
 intro pins s τ G H D I h;rw[exec_Assign_arm];refine lJa (lVb ?_);rw[hs];refine lJa (lJd ?_);rw[lJb (by decide)]
 refine lJa (Tuple_ (thn (ha _ pins s τ G H _ I h) λus s1 w_=>w_.el λvs G1 H1 e1 i_ r_ q1=>i_.el λσ I1 hs1 hg1=>r_.el λas ras rvs=> ?_))
 obtain⟨v,w,ev,q1⟩:=q1;subst ev;obtain⟨a1,a2,rfl,ra1,ra2⟩:=kQ0 ras;obtain⟨u1,u2,rfl,rv,rw'⟩:=rvs.two;refine lK1 ?_ (by show 2<=sizeLine;decide)
 have I2:Inv X pins σ H1 {s1 with heap:=s1.heap.push {cls:= .type "tuple",data:= .seq [u1,u2].toArray} }:=I1.kept (t':=s1.toks) λb o e=>lJj _ e
 rw[hw];refine lJa (lJd ?_);show wpAny (model X.prog X.w) X.A (do rule "assign.swapped-stores"; let items <-unpackItems (.ref s1.heap.objs.size) 2 none;assignInOrder [λv=>bindName X.env y v,λv=>bindName X.env x v] items.reverse;pure Flow.next) _ _ _
 refine lJa (lVc (lJa (unpackItems_tuple (items:= #[u1,u2]) (I1.ok.hd hc) (IsTup.new s1.heap _) λh' hx'=> ?_)))
 have I3:=I2.kept (h':=h') (t':=s1.toks) λb o e=>hx' b o (lJp (lJi e)) e
 show wpAny _ _ (assignInOrder [λv=>bindName X.env y v,λv=>bindName X.env x v] [u2,u1] >>= λ_=>pure Flow.next) _ _ _
 refine lJa (lY5 (wpAny_bindName (jVg I3 hN hj (.inl hy) rw' (λs2 I4=> ?_) (.inr hy))))
 refine lY5 (wpAny_bindName (jVg I4 hN hi (.inl hx) rv (λs3 I5=>assignInOrder_nil (lJd ?_)) (.inr hx)))
 rw[List.set_comm _ _ (Ne.symm hij)] at I5;exact⟨_,G1,H1,e1,⟨_,I5,(hs1.set i ra1).set j ra2,hg1⟩,q1⟩
noncomputable def jYe(c:TT3)(tb:TS3):TS3:=λD τ G=>∃W:Nat->St3->Gp->Prop,(∃m,W m τ G)/\∀m τ G,W m τ G->
 c τ G λb G1=>if b=true then ∃N:St3->Gp->Prop,(∀ τ' G',N τ' G'->∃m',m'<m/\W m' τ' G')/\tb {D with nx:=N,ct:=N,bk:=D.nx} τ G1 else D.nx τ G1
theorem kQx{c:Expr}{body:List Stmt}{tc:TT3}{tb:TS3}(hp:PassesOwn (model X.prog X.w) X.A X.env X.xe)(hc:PT3 X c tc)(hb:PSs3 X body tb):PS3 X (.While c body [] pos) (jYe tc tb):=by
 intro pins s τ G H D I h;obtain⟨W,⟨m0,w0⟩,turn⟩:=h;refine wpAny_While (codeAny_whileLoop (λn s'=>∃ τ' G' H',Ext H H'/\Inv3 X pins τ' G' H' s'/\W n τ' G') ?_ m0 ⟨τ,G,H,.refl H,I,w0⟩)
 rintro n s1 ⟨τ1,G1,H1,e1,I1,w1⟩;refine lVd hp (thn (hc pins s1 τ1 G1 H1 _ I1 (turn n τ1 G1 w1)) λb s2 w_=>w_.el λG2 H2 e2 I2 q2=> ?_)
 cases b with
 | true=>
  obtain⟨N,hN,q2⟩:=q2;rw[lJc rfl];refine lVd hp (thn (hb pins s2 τ1 G2 H2 _ I2 q2) λf s3 q3=> ?_)
  cases f with
  | next=>
   obtain⟨τ3,G3,H3,e3,I3,n3⟩:=q3;obtain⟨m',hm,w3⟩:=hN τ3 G3 n3;exact⟨m',hm,τ3,G3,H3,(e1.trans e2).trans e3,I3,w3⟩
  | cont=>
   obtain⟨τ3,G3,H3,e3,I3,n3⟩:=q3;obtain⟨m',hm,w3⟩:=hN τ3 G3 n3;exact⟨m',hm,τ3,G3,H3,(e1.trans e2).trans e3,I3,w3⟩
  | brk=>exact SP3.ext (f:= .next) (e1.trans e2) q3
  | ret v=>exact SP3.ext (f:= .ret v) (e1.trans e2) q3
 | false=>
  rw[lJb lJl];exact lVa ⟨τ1,G2,H2,e1.trans e2,I2,q2⟩
end
def uKt(K:PySem.W.Frag)(H0:Hp)(J:It)(xs:List T)(stay:Gp->Prop):Prop:=
 ∀i H G,Ext H0 H->GRel K H G->stay G->(i<xs.length->J.go i H)/\(xs.length<=i->J.stop i H)/\(i<xs.length->∀x H',J.yld i H x H'->Ext H H'/\GRel K H' G/\∃t,xs[i]? =some t/\Rep K H' t x)
abbrev TI3:=St3->Gp->(List T->(Gp->Prop)->Gp->Prop)->Prop
def PIE3(X:Cx)(pins:List (Addr×Obj))(τ:St3)(H:Hp)(tg:Expr)(R:List T->(Gp->Prop)->Gp->Prop)(itv:Value)(s2:Shared):Prop:=
 ∃(it:Addr)(fp:List Addr)(tn:Nat->Heap->Prop)(J:It)(xs:List T)(stay:Gp->Prop)(G':Gp)(H':Hp),itv= .ref it/\Ext H H'/\Inv3 X pins τ G' H' s2/\Turn X.prog X.w X.K tg J fp it tn/\tn 0 s2.heap/\(∀b∈fp,FpOk X pins H' b)/\
  uKt X.K H' J xs stay/\R xs stay G'
def PI3(X:Cx)(tg iter:Expr)(wi:TI3):Prop:=
 ∀(pins:List (Addr×Obj))(s:Shared)(τ:St3)(G:Gp)(H:Hp)(R:List T->(Gp->Prop)->Gp->Prop),Inv3 X pins τ G H s->wi τ G R->
  wpAny (model X.prog X.w) X.A (eval iter X.env) (λv s1=>wpAny (model X.prog X.w) X.A (pyIter v) (PIE3 X pins τ H tg R) X.xe s1) X.xe s
noncomputable def tFor(wi:TI3)(g:TG3)(tb:TS3):TS3:=λD τ G=>wi τ G λxs stay G1=>∃P:Nat->St3->Gp->Prop,P 0 τ G1/\(∀i τ G,i<=xs.length->P i τ G->stay G)/\
 (∀i x τ G,xs[i]? =some x->P i τ G->g x τ G λτ2 G2=>tb {D with nx:=P (i+1),ct:=P (i+1),bk:=D.nx} τ2 G2)/\∀ τ G,P xs.length τ G->D.nx τ G
section
variable {X:Cx}{tg:Expr}{pos:Pos}
theorem jQy{iter:Expr}{body:List Stmt}{wi:TI3}{g:TG3}{tb:TS3}(hp:PassesOwn (model X.prog X.w) X.A X.env X.xe)(hc:X.calm=true)(hi:PI3 X tg iter wi)(hg:PG3 X tg g)(hb:PSs3 X body tb)
  (hs:∀x,foldedSetIterable iter X.env x=pure x:=by intro _;rfl):PS3 X (.For tg iter body [] pos) (tFor wi g tb):=by
 intro pins s τ G H D I h;refine wpAny_For (thn (hi pins s τ G H _ I h) λv s1 h1=>thn h1 λitv s2 h2=> ?_) hs
 obtain⟨it,fp,tn,J,xs,stay,G2,H2,e,eH,I2,T0,st2,f2,IT,P,p0,hstay,turn,fin⟩:=h2;subst e;have stat:∀{H':Hp},(∀b∈fp,H' b=none)->∀b∈fp,FpOk X pins H' b:=λhn b hb=>⟨hn b hb,(f2 b hb).2⟩
 refine codeAny_forLoop_any (λn s'=>∃i τ' G' H',n=xs.length-i/\i<=xs.length/\Ext H2 H'/\Inv3 X pins τ' G' H' s'/\tn i s'.heap/\(∀b∈fp,H' b=none)/\P i τ' G') ?_ xs.length ⟨0,τ,G2,H2,rfl,lJ0 _,.refl _,I2,st2,λb hb=>(f2 b hb).1,p0⟩
 rintro n s3 ⟨i,τ3,G3,H3,en,hi3,e3,⟨σ3,I3,hs3,hg3⟩,st3,fr3,p3⟩;obtain⟨go,stop,yl⟩:=IT i H3 G3 e3 hg3 (hstay i τ3 G3 hi3 p3)
 by_cases hlt:i<xs.length
 .refine lVd hp (thn (T0.item X rfl rfl rfl hc i pins s3 σ3 H3 X.xe I3 (stat fr3) st3 (go hlt)) λr s4 ⟨u,hr,h4⟩=> ?_)
  subst hr;refine lVd hp (thn h4 λ_ s5 ⟨x,H5,I5,r5,y5,st5,fr5⟩=> ?_)
  obtain⟨e5,g5,t,ht,rt⟩:=yl hlt x H5 y5;have I5':=I5.pinned (stat fr5) (T0.obj _ _ st5);refine lVd hp (thn (hg _ s5 τ3 G3 H5 t u _ ⟨σ3,I5',hs3.mono e5,g5⟩ ⟨x,rt,r5⟩ (turn i t τ3 G3 ht p3)) λ_ s6 ⟨τ6,G6,H6,e6,I6,q6⟩=> ?_)
  refine lVd hp (thn (hb _ s6 τ6 G6 H6 _ I6 q6) λf s7 q7=> ?_)
  have e36:Ext H2 H6:=(e3.trans e5).trans e6
  have again:∀{τ7:St3}{G7:Gp}{H7:Hp},Ext H6 H7->Inv3 X (pins++jXt fp s5.heap) τ7 G7 H7 s7->P (i+1) τ7 G7->
    ∃m,m<n/\∃i τ' G' H',m=xs.length-i/\i<=xs.length/\Ext H2 H'/\Inv3 X pins τ' G' H' s7/\tn i s7.heap/\(∀b∈fp,H' b=none)/\P i τ' G':=λ{τ7 G7 H7} e7 ⟨σ7,I7,hs7,hg7⟩ p7=>by
   refine⟨xs.length-(i+1),by omega,i+1,τ7,G7,H7,rfl,hlt,e36.trans e7,⟨σ7,I7.unpinned,hs7,hg7⟩,T0.keep _ _ _ st5 λb hb o e=>(I7.pin (b,o) (lKu _ (lKu _ (jXm hb e)))).1,λb hb=> ?_,p7⟩
   obtain⟨o,e,d⟩:=T0.obj _ _ st5 b hb;exact (I7.pin (b,o) (lKu _ (lKu _ (jXm hb e)))).2.1
  have un:∀{τ7:St3}{G7:Gp}{H7:Hp},Inv3 X (pins++jXt fp s5.heap) τ7 G7 H7 s7->Inv3 X pins τ7 G7 H7 s7:=λ⟨σ7,I7,a,b⟩=>⟨σ7,I7.unpinned,a,b⟩
  cases f with
  | next=>obtain⟨τ7,G7,H7,e7,I7,n7⟩:=q7;exact again e7 I7 n7
  | cont=>obtain⟨τ7,G7,H7,e7,I7,n7⟩:=q7;exact again e7 I7 n7
  | brk=>obtain⟨τ7,G7,H7,e7,I7,q7⟩:=q7;exact⟨τ7,G7,H7,(eH.trans e36).trans e7,un I7,q7⟩
  | ret v=>obtain⟨x7,τ7,G7,H7,e7,I7,r7,q7⟩:=q7;exact⟨x7,τ7,G7,H7,(eH.trans e36).trans e7,un I7,r7,q7⟩
 .have ei:i=xs.length:=by omega
  refine lVd hp (thn (T0.done X rfl rfl rfl hc i pins s3 σ3 H3 X.xe I3 (stat fr3) st3 (stop (by omega))) λr s4 ⟨hr,I4⟩=> ?_)
  subst hr;subst ei;exact lVa ⟨τ3,G3,H3,eH.trans e3,⟨σ3,I4,hs3,hg3⟩,fin τ3 G3 p3⟩
def iSeq(tl:TE3):TI3:=λτ G R=>tl τ G λx G1=>∃xs,seqT G1 x=some xs/\R xs (λG'=>seqT G' x=some xs) G1
theorem jVv{l:Expr}{tl:TE3}(hl:PE3 X l tl):PI3 X tg l (iSeq tl):=by
 intro pins s τ G H R I h;refine thn (hl pins s τ G H _ I h) λv s1 w_=>w_.el λx G1 H1 e1 i_ r_ ⟨xs,hx,q⟩=>i_.el λσ I1 hs1 hg1=>r_.el λa ra rv=> ?_
 obtain⟨p,vs,e,hq,r⟩:=jU6 hg1 ra hx;subst e;cases rv
 have fpk:∀b∈[s1.heap.objs.size],FpOk X pins H1 b:=λb hb=>by
  have e:b=s1.heap.objs.size:=by simpa using hb
  subst e;exact I1.fpOk (lJg _) (I1.hok.fresh (lJg _))
 rcases hq with hq | hq
 .obtain⟨its,rv,pl,hz⟩:=I1.list hq;refine wpAny_pyIter_list pl.isList ?_;refine⟨s1.heap.objs.size,[s1.heap.objs.size],_,_,xs,λG'=>seqT G' x=some xs,G1,H1,rfl,e1,⟨σ,I1.kept (t':=s1.toks) λb o e=>lJj _ e,hs1,hg1⟩,qKe p _,⟨_,lJ1 _ rfl,rfl,rfl⟩,fpk,?_,q⟩
  intro i H2 G2 e2 g2 st;have ra2:=Rep.mono e2 _ ra
  have now:∃ws,SqL X.K H2 p ws/\Reps X.K H2 xs ws:=by
   cases x with
   | scr ys=>cases hx;obtain⟨p',ws,ep,h1,h2⟩:=(show ∃p' ws,V.ref p= .ref p'/\FrL X.K H2 p' ws/\Reps X.K H2 xs ws from ra2);cases ep;exact⟨ws,h1.sq,h2⟩
   | ref p'=>cases (show V.ref p= .ref p' from ra);obtain⟨ws,h1,h2⟩:=g2.lst (jYt st);exact⟨ws,.of h1,h2⟩
   | tup ys=>
    obtain⟨p',ws,ep,h1,h2⟩:=(show ∃p' ws,V.ref p= .ref p'/\H1 p'=some (.tup ws)/\Reps X.K H1 ys ws from ra)
    cases ep
    exfalso
    obtain⟨its',_,pl',_⟩:=I1.tuple (.of h1);obtain⟨o,n,ho,hc,_⟩:=pl;obtain⟨o',ho',hc',_⟩:=pl';rw[ho] at ho';cases ho';rw[hc] at hc';exact absurd hc' (by decide)
   | non=>cases hx
   | bl _=>cases hx
   | int _=>cases hx
   | str _=>cases hx
   | ty _=>cases hx
  obtain⟨ws,h1,h2⟩:=now;have hlen:=h2.length;refine⟨λhi=> ?_,λhi=>⟨ws,h1,by omega⟩,λ_ y H' ⟨eH,hy⟩=> ?_⟩
  .exact⟨ws,ws[i]'(by omega),h1,by simp[hlen▸hi]⟩
  .subst eH;obtain⟨t,ht,rt⟩:=h2.get' (hy ws h1);exact⟨.refl _,g2,t,ht,rt⟩
 .obtain⟨its,rv,pl,hz⟩:=I1.tuple hq;refine lY6 (show s1.heap.IsTuple p its.toArray from pl) ?_
  refine⟨s1.heap.objs.size,[s1.heap.objs.size],_,_,xs,λG'=>seqT G' x=some xs,G1,H1,rfl,e1,⟨σ,I1.kept (t':=s1.toks) λb o e=>lJj _ e,hs1,hg1⟩,kZ8 p _,⟨_,lJ1 _ rfl,rfl,rfl⟩,fpk,?_,q⟩
  intro i H2 G2 e2 g2 st;have ra2:=Rep.mono e2 _ ra
  have now:∃ws,H2 p=some (.tup ws)/\Reps X.K H2 xs ws:=by
   cases x with
   | tup ys=>cases hx;obtain⟨p',ws,ep,h1,h2⟩:=(show ∃p' ws,V.ref p= .ref p'/\H2 p'=some (.tup ws)/\Reps X.K H2 xs ws from ra2);cases ep;exact⟨ws,h1,h2⟩
   | scr ys=>
    obtain⟨p',ws,ep,h1,h2⟩:=(show ∃p' ws,V.ref p= .ref p'/\FrL X.K H1 p' ws/\Reps X.K H1 ys ws from ra)
    cases ep
    exfalso
    obtain⟨its',_,pl',_⟩:=I1.list h1.sq;obtain⟨o,n,ho,hc,_⟩:=pl';obtain⟨o',ho',hc',_⟩:=pl;rw[ho] at ho';cases ho';rw[hc] at hc';exact absurd hc' (by decide)
   | ref p'=>
    cases (show V.ref p= .ref p' from ra)
    obtain⟨ws,h1,h2⟩:=hg1.lst (jYt hx)
    exfalso
    obtain⟨its',_,pl',_⟩:=I1.list (.of h1);obtain⟨o,n,ho,hc,_⟩:=pl';obtain⟨o',ho',hc',_⟩:=pl;rw[ho] at ho';cases ho';rw[hc] at hc';exact absurd hc' (by decide)
   | non=>cases hx
   | bl _=>cases hx
   | int _=>cases hx
   | str _=>cases hx
   | ty _=>cases hx
  obtain⟨ws,h1,h2⟩:=now;have hlen:=h2.length;refine⟨λhi=> ?_,λhi=>⟨ws,.of h1,by omega⟩,λ_ y H' ⟨eH,hy⟩=> ?_⟩
  .exact⟨ws,ws[i]'(by omega),.of h1,by simp[hlen▸hi]⟩
  .subst eH;obtain⟨t,ht,rt⟩:=h2.get' (hy ws (.of h1));exact⟨.refl _,g2,t,ht,rt⟩
def rngT(lo:Int)(n:Nat):List T:=(List.range n).map λ(k:Nat)=>T.int (lo+k)
def jK9(ta:TA3):TI3:=λτ G R=>ta τ G λvs G1=>∃j:Int,vs=[.int j]/\ -(2^62)<=j/\j<2^62/\R (rngT 0 j.toNat) (λ_=>True) G1
def uJ3(ta:TA3):TI3:=λτ G R=>ta τ G λvs G1=>∃i j:Int,vs=[.int i,.int j]/\(-(2^62)<=i/\i<2^62/\ -(2^62)<=j/\j<2^62)/\R (rngT i (j-i).toNat) (λ_=>True) G1
theorem kVl{K:PySem.W.Frag}{H:Hp}(lo:Int)(n:Nat):uKt K H (Itr lo n) (rngT lo n) λ_=>True:=by
 intro i H' G e g _;have hl:(rngT lo n).length=n:=by simp[rngT]
 refine⟨λh=>by rw[hl] at h;exact h,λh=>by rw[hl] at h;exact h,λhi x H2 ⟨eH,ex⟩=> ?_⟩
 rw[hl] at hi;subst eH;subst ex;exact⟨.refl _,g,.int (lo+i),by simp[rngT,hi],rfl⟩
theorem jKw{a:Expr}{ta:TA3}{p:Pos}(hg:Gl X "range")(hm:X.mg "range"=none)(ha:PA3 X [a] ta)(hs:starEach [a] X.env=[(false,eval a X.env)]:=by rfl):PI3 X tg (.Call (.Name "range" p) [a] [] pos) (jK9 ta):=by
 intro pins s τ G H R I h;obtain⟨σ,I0,hs0,hg0⟩:=id I;refine Call_ (jU9 I0 hg hm boot_range (lKy (thn (ha pos pins s τ G H _ I h) λus s1 w_=>w_.el λxs G1 H1 e1 i_ r_ q1=>i_.el λσ I1 hs1 hg1=>r_.el λas ras rvs=> ?_) hs rfl))
 obtain⟨j,e,q1,q2,q⟩:=q1;subst e;obtain⟨v,rfl,rv⟩:=jU7 ras;cases (show v= .int j from rv)
 obtain⟨u,rfl,ru⟩:=rvs.one;obtain⟨t,rfl⟩:=ru;refine call_range_1 (thn (kY4 (tg:=tg) (R:=λJ H'=>J=Itr 0 j.toNat/\H'=H1) I1 (by omega) (by omega) q1 q2 ⟨by simp,rfl⟩) λitv s2 z=> ?_)
 obtain⟨it,fp,tn,J,H',ei,I2,T0,st,fk,eJ,eH⟩:=z;subst eJ;subst eH;exact⟨it,fp,tn,_,rngT 0 j.toNat,λ_=>True,G1,H',ei,e1,⟨σ,I2,hs1,hg1⟩,T0,st,fk,kVl 0 j.toNat,q⟩
theorem qX2{a b:Expr}{ta:TA3}{p:Pos}(hg:Gl X "range")(hm:X.mg "range"=none)(ha:PA3 X [a,b] ta)(hs:starEach [a,b] X.env=[(false,eval a X.env),(false,eval b X.env)]:=by rfl)(hs2:starEach [b] X.env=[(false,eval b X.env)]:=by rfl):
  PI3 X tg (.Call (.Name "range" p) [a,b] [] pos) (uJ3 ta):=by
 intro pins s τ G H R I h;obtain⟨σ,I0,hs0,hg0⟩:=id I;refine Call_ (jU9 I0 hg hm boot_range (lKy (thn (ha pos pins s τ G H _ I h) λus s1 w_=>w_.el λxs G1 H1 e1 i_ r_ q1=>i_.el λσ I1 hs1 hg1=>r_.el λas ras rvs=> ?_) (by rw[hs,hs2]) (by rw[hs2];rfl)))
 obtain⟨i,j,e,⟨q1,q2,q3,q4⟩,q⟩:=q1;subst e;obtain⟨v,w,rfl,rv,rw'⟩:=kQ0 ras;cases (show v= .int i from rv);cases (show w= .int j from rw')
 obtain⟨u,u',rfl,ru,ru'⟩:=rvs.two;obtain⟨t,rfl⟩:=ru;obtain⟨t',rfl⟩:=ru';refine call_range_2 (thn (kY4 (tg:=tg) (R:=λJ H'=>J=Itr i (j-i).toNat/\H'=H1) I1 q1 q2 q3 q4 ⟨rfl,rfl⟩) λitv s2 z=> ?_)
 obtain⟨it,fp,tn,J,H',ei,I2,T0,st,fk,eJ,eH⟩:=z;subst eJ;subst eH;exact⟨it,fp,tn,_,rngT i (j-i).toNat,λ_=>True,G1,H',ei,e1,⟨σ,I2,hs1,hg1⟩,T0,st,fk,kVl i (j-i).toNat,q⟩
end
abbrev Sp3:=List T->Gp->VK3->Prop
def dn(K:PySem.W.Frag)(n:Nat)(sp:Sp3):Sp:=λvs H Q _=>vs.length=n/\∃xs G,Reps K H xs vs/\GRel K H G/\sp xs G λt G'=>∀v H',Ext H H'->GRel K H' G'->Rep K H' t v->Q v H'
def Fn3(P:Program)(w:World)(K:PySem.W.Frag)(mg:Str->Option Value)(base:Heap)(k:Nat)(f:Addr)(fd:FuncData)(ps:List Str)(sp:Sp3):Prop:=FnOk P w K mg base CX0 k f fd ps (dn K ps.length sp)
def jJq(sp:Sp3)(t:TA3):TE3:=λτ G Q=>t τ G λxs G1=>sp xs G1 Q
def Mono(sp:Sp3):Prop:=∀xs G Q Q',(∀t G',Q t G'->Q' t G')->sp xs G Q->sp xs G Q'
def jUq(N:List Str)(xs:List T):St3:=xs.map some++List.replicate (N.length-xs.length) none
theorem kU2{K:PySem.W.Frag}{H:Hp}{N:List Str}{xs:List T}{vs:List V}(r:Reps K H xs vs):SRel K H (start N vs) (jUq N xs):=by
 have hl:=r.length;refine⟨by simp[L2.start,jUq,hl],λi t h=> ?_⟩
 unfold jUq at h;unfold L2.start
 by_cases hi:i<xs.length
 .rw[lKe (by simpa using hi),lJr] at h
  cases e:xs[i]? with
  | none=>rw[e] at h;cases h
  | some x=>
   rw[e] at h;cases h;obtain⟨v,hv,rv⟩:=r.get e;exact⟨v,by rw[lKe (by simp;omega),lJr,hv];rfl,rv⟩
 .rw[lQk (by simpa using hi),lXk] at h
  split at h<;>cases h
theorem fn3{P:Program}{w:World}{K:PySem.W.Frag}{mg:Str->Option Value}{base:Heap}{x qual:Str}{st:Stmt}{f:Addr}{fd:FuncData}{N ps:List Str}{k:Nat}{sp:Sp3}(F:Fun K x qual st f fd)(S:FnScope N ps (jJk st))
  (hbody:∀(cdv:Value)(A:Around)(outer:List Env)(s:Shared)(H:Hp)(E:XK),Room k (A.deeper (envOfC qual (jJk st) s.heap.objs.size f cdv))->
   ∃t,PSs3 (cxOf CX0 P w K mg base N qual (jJk st) f cdv A outer s H E).nox (jKq st) t/\∀xs G Q,sp xs G Q->t {nx:=λ_ G'=>Q .non G',rt:=Q} (jUq N xs) G):Fn3 P w K mg base (k+1) f fd ps sp:=by
 refine Fun.ok (sp:=dn K ps.length sp) F S (λvs H Q E h=>h.1) λcdv A outer s H vs Q E hr hsp=> ?_
 obtain⟨t,ht,hq⟩:=hbody cdv A outer s H E hr;obtain⟨hl,xs,G,rs,hg,hsp⟩:=hsp;refine⟨λD σ H1=>D.nx=(λ_ H'=>Q .non H')/\D.rt=Q/\σ=L2.start N vs/\H1=H,?_,rfl,rfl,rfl,rfl⟩
 rintro pins s1 σ1 H1 D I ⟨e1,e2,e3,e4⟩;subst e3;subst e4;have I3:Inv3 (cxOf CX0 P w K mg base N qual (jJk st) f cdv A outer s H1 E).nox pins (jUq N xs) G H1 s1:=⟨_,I,kU2 rs,hg⟩;refine thn (ht pins s1 _ G H1 _ I3 (hq xs G _ hsp)) λfl s2 z=> ?_
 cases fl with
 | next=>obtain⟨τ',G',H',e',⟨σ',I',a,b⟩,q⟩:=z;exact⟨σ',H',I',by rw[e1];exact q .non H' e' b rfl⟩
 | brk=>obtain⟨τ',G',H',e',_,q⟩:=z;exact q.elim
 | cont=>obtain⟨τ',G',H',e',_,q⟩:=z;exact q.elim
 | ret u=>obtain⟨x',τ',G',H',e',⟨σ',I',a,b⟩,⟨v,rv,ru⟩,q⟩:=z;exact⟨v,σ',H',I',ru,by rw[e2];exact q v H' e' b rv⟩
mutual
noncomputable def dep:T->Nat
 | .tup xs=>deps xs+1
 | _=>0
noncomputable def deps:List T->Nat
 | []=>0
 | x::xs=>max (dep x) (deps xs)
end
mutual
noncomputable def tree:T->Bool
 | .tup xs=>jQv xs
 | .ref _=>false
 | .scr _=>false
 | .ty _=>false
 | .non=>true
 | .bl _=>true
 | .int _=>true
 | .str _=>true
noncomputable def jQv:List T->Bool
 | []=>true
 | x::xs=>tree x&&jQv xs
end
mutual
noncomputable def eqT:T->T->Bool
 | .non,.non=>true
 | .bl a,.bl b=>a == b
 | .bl a,.int b=>(if a then 1 else 0) == b
 | .int a,.bl b=>a == (if b then 1 else 0)
 | .int a,.int b=>a == b
 | .str a,.str b=>a == b
 | .tup xs,.tup ys=>eqTs xs ys
 | _,_=>false
noncomputable def eqTs:List T->List T->Bool
 | [],[]=>true
 | x::xs,y::ys=>eqT x y&&eqTs xs ys
 | [],_::_=>false
 | _::_,[]=>false
end
theorem uV4{a b:Int}:eqT (.int a) (.int b)=(a == b):=rfl
theorem uV5{a b:Bool}:eqT (.bl a) (.bl b)=(a == b):=rfl
theorem uV3{a b:Str}:eqT (.str a) (.str b)=(a == b):=rfl
mutual
theorem qYd{K:PySem.W.Frag}{H:Hp}:∀(x y:T){a:V},tree x=true->tree y=true->Rep K H x a->Rep K H y a->eqT x y=true
 | .non,y,a,hx,hy,r,q=>by
  cases (show a= .non from r)
  cases y<;>first | rfl | (exact absurd (show false=true from hy) lJl) | (cases (show V.non=_ from q)) | (obtain⟨_,_,e,_⟩:=(show ∃c vs,V.non= .ref c/\_ from q);cases e)
 | .bl b,y,a,hx,hy,r,q=>by
  cases (show a= .bl b from r)
  cases y with
  | bl c=>cases (show V.bl b=V.bl c from q);simp[uV5]
  | tup ys=>obtain⟨_,_,e,_⟩:=(show ∃c vs,V.bl b= .ref c/\_ from q);cases e
  | non=>cases (show V.bl b= .non from q)
  | int c=>cases (show V.bl b= .int c from q)
  | str c=>cases (show V.bl b= .str c from q)
  | _=>exact absurd (show false=true from hy) lJl
 | .int b,y,a,hx,hy,r,q=>by
  cases (show a= .int b from r)
  cases y with
  | int c=>cases (show V.int b=V.int c from q);simp[uV4]
  | tup ys=>obtain⟨_,_,e,_⟩:=(show ∃c vs,V.int b= .ref c/\_ from q);cases e
  | non=>cases (show V.int b= .non from q)
  | bl c=>cases (show V.int b= .bl c from q)
  | str c=>cases (show V.int b= .str c from q)
  | _=>exact absurd (show false=true from hy) lJl
 | .str b,y,a,hx,hy,r,q=>by
  cases (show a= .str b from r)
  cases y with
  | str c=>cases (show V.str b=V.str c from q);simp[uV3]
  | tup ys=>obtain⟨_,_,e,_⟩:=(show ∃c vs,V.str b= .ref c/\_ from q);cases e
  | non=>cases (show V.str b= .non from q)
  | bl c=>cases (show V.str b= .bl c from q)
  | int c=>cases (show V.str b= .int c from q)
  | _=>exact absurd (show false=true from hy) lJl
 | .tup xs,y,a,hx,hy,r,q=>by
  obtain⟨p,vs,e,h1,h2⟩:=(show ∃p vs,a= .ref p/\H p=some (.tup vs)/\Reps K H xs vs from r)
  subst e;cases y with
  | tup ys=>
   obtain⟨p',vs',e',h1',h2'⟩:=(show ∃p' vs',V.ref p= .ref p'/\H p'=some (.tup vs')/\Reps K H ys vs' from q)
   cases e';rw[h1] at h1';cases h1';exact kVu xs ys (show jQv xs=true from hx) (show jQv ys=true from hy) h2 h2'
  | non=>cases (show V.ref p= .non from q)
  | bl c=>cases (show V.ref p= .bl c from q)
  | int c=>cases (show V.ref p= .int c from q)
  | str c=>cases (show V.ref p= .str c from q)
  | _=>exact absurd (show false=true from hy) lJl
 | .ref _,_,_,hx,_,_,_=>absurd (show false=true from hx) lJl
 | .scr _,_,_,hx,_,_,_=>absurd (show false=true from hx) lJl
 | .ty _,_,_,hx,_,_,_=>absurd (show false=true from hx) lJl
theorem kVu{K:PySem.W.Frag}{H:Hp}:∀(xs ys:List T){vs:List V},jQv xs=true->jQv ys=true->Reps K H xs vs->Reps K H ys vs->eqTs xs ys=true
 | [],ys,_,_,_,r,q=>by
  cases r;cases ys with
  | nil=>rfl
  | cons y ys=>obtain⟨_,_,e,_⟩:=q;cases e
 | x::xs,ys,_,hx,hy,⟨v,ws,e,r1,r2⟩,q=>by
  subst e;cases ys with
  | nil=>cases q
  | cons y ys=>
   obtain⟨v',ws',e',q1,q2⟩:=q;cases e';have hx':tree x=true/\jQv xs=true:=by simpa[jQv] using hx
   have hy':tree y=true/\jQv ys=true:=by simpa[jQv] using hy
   show (eqT x y&&eqTs xs ys)=true
   rw[qYd x y hx'.1 hy'.1 r1 q1,kVu xs ys hx'.2 hy'.2 r2 q2];rfl
end
section
variable {X:Cx}
def rSub:R3:=rI0 λi j=> .int (i-j)
def rMod:R3:=rI (λ_ j=>0<j) λi j=> .int (i%j)
def uQj:R3:=rI CDiv λi j=> .int (i / j)
def rPow:R3:=rI CPow λi j=> .int (i^j.toNat)
def rLt:R3:=rI0 λi j=> .bl (decide (i<j))
def rGt:R3:=rI0 λi j=> .bl (decide (j<i))
def rGe:R3:=rI0 λi j=> .bl (decide (j<=i))
def rIsN:R3:=λx y G Q=>y= .non/\Q (.bl (kKv x)) G
def jZh:R3:=λx y G Q=>y= .non/\Q (.bl (!kKv x)) G
def qV6:R3:=λx y G Q=>∃xs ys,x= .tup xs/\y= .tup ys/\xs≠[]/\xs.length+ys.length<=sizeLine/\Q (.tup (xs++ys)) G
theorem uQ5:Op3 X (binaryOp .Add) qV6:=
 Op3.of uJd λH G x y a b Q hg ra rb ⟨xs,ys,ex,ey,hx,hz,q⟩=>by
  subst ex;subst ey;obtain⟨p,vs,e1,h1,h2⟩:=(show ∃p vs,a= .ref p/\H p=some (.tup vs)/\Reps X.K H xs vs from ra)
  obtain⟨p',ws,e2,h3,h4⟩:=(show ∃p vs,b= .ref p/\H p=some (.tup vs)/\Reps X.K H ys vs from rb)
  subst e1;subst e2;have l1:=h2.length;have l2:=h4.length;refine⟨p,p',vs,ws,rfl,rfl,.of h1,.of h3,λz=>hx ?_,by omega,λz=> ?_,λz l hl=> ?_⟩
  .rw[z] at l1;exact lQm.mp l1
  .rw[z] at l2;have:ys=[]:=lQm.mp l2;subst this;exact⟨.tup (xs++[]),G,.refl H,hg,by rw[lKx];exact ra,q⟩
  .exact⟨.tup (xs++ys),G,.upd (.none hl),hg.tupNew hl,Rep.tupNew (h2.append h4) hl,q⟩
def uVi:R3:=rI0 λi j=> .int (i+j)
def uQm:R3:=λx y G Q=>uVi x y G Q\/rCat x y G Q\/qV6 x y G Q
theorem o_addA:Op3 X (binaryOp .Add) uQm:=o_add.or (o_cat.or uQ5)
def uVh:R3:=rI CMul λi j=> .int (i*j)
def uQi:R3:=λx y G Q=>uVh x y G Q\/rRep x y G Q
theorem o_mulA:Op3 X (binaryOp .Mult) uQi:=o_mul.or uVr
def rNeg:T->Gp->VK3->Prop:=λx G Q=>∃i,x= .int i/\Q (.int (-i)) G
theorem uVb:Un3 X (unaryOp .USub) rNeg:=
 Un3.of uK2 λH G x a Q hg ra ⟨i,e,q⟩=>by
  subst e;cases (show a= .int i from ra)
  exact⟨i,rfl,.int (-i),G,.refl H,hg,rfl,q⟩
theorem jJr(b:Expr){op:CmpOp}(h:behindInMarks op b=false:=by first | exact uQ9 _ | with_unfolding_all rfl):behindInMarks op b=false:=h
variable {a b c:Expr}{ta tb tc:TE3}{pos:Pos}
theorem kXi{op op':CmpOp}{r r':R3}(ho:Op3 X (compareOp op) r)(ho':Op3 X (compareOp op') r')(ha:PE3 X a ta)(hb:PE3 X b tb)(hc:PE3 X c tc)
  (hm:lastMarks [op,op'] [b,c]=false:=by with_unfolding_all rfl):PT3 X (.Compare a [op,op'] [b,c] pos) (jJv (kK2 r r' ta tb tc)):=by
 intro pins s τ G H Q I h
 refine isTrue_chain (thn (ha pins s τ G H _ I h) λv s1 w_=>w_.el λx G1 H1 e1 I1 r1 q1=>test_link (thn (hb pins s1 τ G1 H1 _ I1 q1) λu s2 ⟨y,G2,H2,e2,I2,r2,q2⟩=>
  thn (ho pins s2 τ G2 H2 x y v u _ I2 (r1.mono e2) r2 q2) λd s3 w_=>w_.el λz G3 H3 e3 I3 r_ ⟨k,e,q3⟩=>r_.el λv' rv' ru'=> ?_)) hm
 subst e;cases (show v'= .bl k from rv');cases ru'
 refine lQ7 ?_;cases k with
 | false=>
  obtain⟨k',e',q'⟩:=q3;cases e';exact ite_ff ⟨G3,H3,(e1.trans e2).trans e3,I3,q'⟩
 | true=>
  refine ite_tt (test_last (thn (hc pins s3 τ G3 H3 _ I3 q3) λw' s4 w_=>w_.el λz' G4 H4 e4 I4 r4 q4=>thn (ho' pins s4 τ G4 H4 y z' u w' _ I4 (r2.mono (e3.trans e4)) r4 q4) λd' s5 w_=>w_.el λz2 G5 H5 e5 I5 r_ ⟨k2,e2',q5⟩=>r_.el λv2 rv2 ru2=> ?_))
  subst e2';cases (show v2= .bl k2 from rv2);cases ru2
  exact lQ7 ⟨G5,H5,(((e1.trans e2).trans e3).trans e4).trans e5,I5,q5⟩
mutual
noncomputable def td:T->PyData
 | .tup xs=> .tuple (tds xs)
 | .int i=> .int i
 | .bl b=> .bool b
 | .str x=> .str x
 | .non=> .none
 | .ref _=> .none
 | .scr _=> .none
 | .ty _=> .none
noncomputable def tds:List T->List PyData
 | []=>[]
 | x::xs=>td x::tds xs
end
def eqOk(x:T):Bool:=tree x&&(td x).canLay0&&decide ((td x).depth<=50)
def kJ5(xs:List T):Bool:=jQv xs&&PyData.canLayAll0 (tds xs)&&decide ((PyData.list (tds xs)).depth<=50)
noncomputable def eqG(G:Gp)(x y:T):Option Bool:=match x,y with
 | .ref p,.ref q=>match G p,G q with
  | some (.lst xs),some (.lst ys)=>if kJ5 xs=true/\kJ5 ys=true then some (eqTs xs ys) else none
  | _,_=>none
 | _,_=>if eqOk x=true/\eqOk y=true then some (eqT x y) else none
def rEqA:R3:=λx y G Q=>∃b,eqG G x y=some b/\Q (.bl b) G
def rNeA:R3:=λx y G Q=>∃b,eqG G x y=some b/\Q (.bl (!b)) G
noncomputable def truT(G:Gp):T->Option Bool
 | .non=>some false
 | .bl b=>some b
 | .int i=>some (i != 0)
 | .tup xs=>some (!xs.isEmpty)
 | .ref p=>match G p with
  | some (.lst xs)=>some (!xs.isEmpty)
  | some (.dck kvs)=>some (!kvs.isEmpty)
  | _=>none
 | _=>none
def rTru:T->Gp->(Bool->Gp->Prop)->Prop:=λx G Q=>∃b,truT G x=some b/\Q b G
theorem jZb{K:PySem.W.Frag}{H:Hp}{xs:List T}{vs:List V}(r:Reps K H xs vs):xs.isEmpty=vs.isEmpty:=by
 have:=r.length;cases xs<;>cases vs<;>simp_all
theorem kQn:Tru3 X rTru:=
 Tru3.of uK4 λH G x a Q hg ra ⟨b,hb,q⟩=>by
  refine⟨b,?_,rfl,q⟩;cases x with
  | non=>cases (show a= .non from ra);cases hb;rfl
  | bl k=>cases (show a= .bl k from ra);cases hb;rfl
  | int k=>cases (show a= .int k from ra);cases hb;rfl
  | tup xs=>
   obtain⟨p,vs,e1,h1,h2⟩:=(show ∃p vs,a= .ref p/\H p=some (.tup vs)/\Reps X.K H xs vs from ra)
   subst e1;cases hb;exact .inr (.inl ⟨vs,.of h1,by rw[jZb h2]⟩)
  | ref p=>
   cases (show a= .ref p from ra)
   cases hG:G p with
   | none=>simp only[truT,hG] at hb;cases hb
   | some o=>
    simp only[truT,hG] at hb;cases o with
    | lst xs=>cases hb;obtain⟨vs,h1,h2⟩:=hg.lst hG;exact .inl ⟨vs,.of h1,by rw[jZb h2]⟩
    | dct _=>cases hb
    | fdc _=>cases hb
    | ins _ _=>cases hb
    | exc _=>cases hb
    | dck kvs=>
     cases hb;obtain⟨ws,h1,h2⟩:=hg p _ hG;refine .inr (.inr ⟨ws,h1,?_⟩);cases h2<;>rfl
  | str _=>cases hb
  | scr _=>cases hb
  | ty _=>cases hb
end
section
variable {X:Cx}{pins:List (Addr×Obj)}{σ:L2.St}{H:Hp}{s:Shared}{h':Heap}
theorem jZ4{t':Nat}{fp:List Addr}(I:Inv X pins σ H s)(k:∀b o,b∉fp->s.heap.get? b=some o->h'.get? b=some o)(hf:∀b∈fp,FpOk X pins H b):Inv X pins σ H {s with heap:=h',toks:=t'}:=by
 have nit:∀b u,H b=some u->b∉fp:=λb u e z=>by rw[(hf b z).1] at e;cases e
 refine I.step (g':=s.gens) (d':=s.drawn) (ch:=fp) (λb hb=>⟨(hf b hb).2.2.2.1,(hf b hb).2.1,(hf b hb).2.2.2.2.1,(hf b hb).2.2.2.2.2⟩) (λb o _ _ hc e _=>k b o hc e) (λb o _ _ hc e _=>⟨o.slots,k b o hc e⟩) (λ_ _ _ _ n=>n)
  (λb o hc e=>⟨o,k b o hc e⟩) (λ_ _ e=>e) (λ_ _ _ e=>e) (λb ps e=>⟨#[],by rw[e];simp⟩) (λm hm=> ?_) (λb u e=> ?_) I.bare
 .obtain⟨o,es,ep,ho,r⟩:=hm;exact⟨o,es,ep,k _ o (λz=>(hf _ z).2.1 rfl) ho,r⟩
 .refine (I.hok b u e).stay (λc v hc q=>k c v ?_ q) (λ_ q=>q) λ_ _ q=>q
  rcases hc with z | z
  .rw[z];exact nit b u e
  .exact nit c _ z
theorem jZ3{t':Nat}{fp:List Addr}{p:Addr}{vs:List V}{us:List Value}(I:Inv X pins σ H s)(k:∀b o,b∉fp->s.heap.get? b=some o->h'.get? b=some o)(hf:∀b∈fp,FpOk X pins H b)
  (hp:s.heap.objs.size<=p) (ht:TupD h' p us.toArray) (r:Vals vs us) (hz:vs.length<=sizeLine):Inv X pins σ (upd H p (.tup vs)) {s with heap:=h',toks:=t'}:=by
 have hn:H p=none:=I.hok.fresh hp;have nit:∀b u,H b=some u->b∉fp:=λb u e z=>by rw[(hf b z).1] at e;cases e
 have old:∀b o,s.heap.get? b=some o->b≠p:=λb o e=>lJp (lJw (lJi e) hp)
 have tr:∀b u,H b=some u->b≠p:=λb u e z=>by rw[z,hn] at e;cases e
 refine I.step (g':=s.gens) (d':=s.drawn) (ch:=fp) (λb hb=>⟨(hf b hb).2.2.2.1,(hf b hb).2.1,(hf b hb).2.2.2.2.1,(hf b hb).2.2.2.2.2⟩) (λb o _ _ hc e _=>k b o hc e) (λb o _ _ hc e _=>⟨o.slots,k b o hc e⟩) (λb o _ e n=>by rw[jJt (old b o e)];exact n)
  (λb o hc e=>⟨o,k b o hc e⟩) (λb _ e=>by rw[jJt (tr b _ e)];exact e) (λb _ _ e=>by rw[jJt (tr b _ e)];exact e) (λb ps e=>⟨#[],by rw[jJt (tr b _ e),e];simp⟩) (λm hm=> ?_) (λb u e=> ?_) I.bare
 .obtain⟨o,es,ep,ho,r⟩:=hm;exact⟨o,es,ep,k _ o (λz=>(hf _ z).2.1 rfl) ho,r⟩
 .by_cases hb:b=p
  .subst hb;rw[jJy] at e;cases e;exact⟨hz,us,r,ht⟩
  .rw[jJt hb] at e;refine (I.hok b u e).stay (λc v hc q=>k c v ?_ q) (λc q=>by rw[jJt (tr c _ q)];exact q) λc _ q=>by rw[jJt (tr c _ q)];exact q
   rcases hc with z | z
   .rw[z];exact nit b u e
   .exact nit c _ z
end
noncomputable def Ite(K:PySem.W.Frag)(a:Addr):It:=
 ⟨λi H=>∃xs x,SqL K H a xs/\xs[i]? =some x,λi H x H'=>∃p y,H p=none/\x= .ref p/\(∀xs,SqL K H a xs->xs[i]? =some y)/\H'=upd H p (.tup [.int i,y]),λi H=>∃xs,SqL K H a xs/\xs.length<=i⟩
theorem qKf{P:Program}{w:World}{K:PySem.W.Frag}{elts:List Expr}{k:Nat}{pos:Pos}(a e it:Addr)(hei:e≠it):
  Turn P w K (.Tuple elts k pos) (Ite K a) [e,it] e (λi h=>(∃old,IsEnum h e it i old)/\h.IsListIter it a i) where
 mem:=by simp
 obj:=λi h ⟨⟨old,h1⟩,h2⟩ b hb=>by
  have hb':b=e\/b=it:=by simpa using hb
  rcases hb' with z | z
  .subst z;exact⟨_,h1,λv z=>nomatch (show Data.fields _=Data.cell v from z)⟩
  .subst z;obtain⟨o,e2,c,d⟩:=h2;exact⟨o,e2,λv z=>by rw[d] at z;cases z⟩
 keep:=λi h h' ⟨⟨old,h1⟩,h2⟩ kp=>⟨⟨old,kp e (by simp) _ h1⟩,h2.at λo q=>kp it (by simp) o q⟩
 item:=by
  rintro X hP hw hK hc i pins s σ H E I hf ⟨⟨old,he⟩,hit⟩ hg;subst hP hw hK;obtain⟨xs,x,hq,hx⟩:=hg;obtain⟨its,rv,p,hz⟩:=I.list hq;obtain⟨u,hu,ru⟩:=rv.get hx;refine wpAny_pyNext_enum_item he hit p.isList (x:=u) (by simpa using hu) hei λh1 ho hit1 hT hsz hk=> ?_
  refine⟨_,rfl,lZg ho λh2 he2 hs2=> ?_⟩
  have hel:e<s.heap.objs.size:=lJi he
  have hp2:∀b o,b∉[e,it]->s.heap.get? b=some o->h2.get? b=some o:=λb o hb q=>by
   have hb1:b≠e:=λz=>hb (by simp[z])
   have hb2:b≠it:=λz=>hb (by simp[z])
   exact (hs2.2 b hb1).trans (hk b o hb1 hb2 q)
  have hT2:h2.get? s.heap.objs.size=some {cls:= .type "tuple",data:= .seq #[.int i s.toks,u]}:=(hs2.2 _ (lQr hel)).trans hT;have I2:=jZ3 (t':=s.toks+1) (h':=h2) (p:=s.heap.objs.size) (vs:=[.int i,x]) (us:=[.int i s.toks,u]) I hp2 hf (lJg _) ⟨_,hT2,rfl,_,rfl,rfl⟩ (.cons ⟨_,rfl⟩ (.cons ru .nil)) (by show 2<=sizeLine;decide)
  refine⟨.ref s.heap.objs.size,_,I2,rfl,⟨_,x,I.hok.fresh (lJg _),rfl,λys hy=>by rw[I.list_inj hy hq];exact hx,rfl⟩,⟨⟨u,by simpa using he2⟩,hit1.at λo q=>(hs2.2 it hei.symm).trans q⟩,λb hb=> ?_⟩
  have hbs:∃o,s.heap.get? b=some o:=by
   have hb':b=e\/b=it:=by simpa using hb
   rcases hb' with z | z
   .subst z;exact⟨_,he⟩
   .subst z;obtain⟨o,q,_⟩:=hit;exact⟨o,q⟩
  obtain⟨o,q⟩:=hbs;rw[jJt (lJp (lJi q))];exact (hf b hb).1
 done:=by
  rintro X hP hw hK hc i pins s σ H E I hf ⟨⟨old,he⟩,hit⟩ hg;subst hP hw hK;obtain⟨xs,hq,hx⟩:=hg;obtain⟨its,rv,p,hz⟩:=I.list hq;have hl:=rv.length;exact wpAny_pyNext_enum_end (I.ok.hd hc) he hit p.isList (by simp;omega) λh1 hx1=>⟨rfl,jZ4 (t':=s.toks) I (λb o hb q=>hx1 b o (λz=>hb (by simp[z])) q) hf⟩
 self:=λ_ _ _ _ _ ⟨⟨old,he⟩,_⟩ h=>lX8 he h
def numT(xs:List T):List T:=(List.range xs.length).map λ(i:Nat)=>T.tup [.int i,xs.getD i .non]
theorem jVr{xs:List T}{i:Nat}{x:T}(h:xs[i]? =some x):(numT xs)[i]? =some (.tup [.int i,x]):=by
 have hi:i<xs.length:=by
  rcases lKd i xs.length with z | z
  .exact z
  .rw[lJz z] at h;cases h
 have hx:xs[i]=x:=(lJe.mp h).2;simp[numT,hi,List.getD,hx]
theorem jKm{xs:List T}:(numT xs).length=xs.length:=by simp[numT]
def jU2(G:Gp):T->Option (List T)
 | .ref p=>asL (G p)
 | .scr xs=>some xs
 | _=>none
theorem jVu{K:PySem.W.Frag}{H:Hp}{G:Gp}{x:T}{a:V}{xs:List T}(hg:GRel K H G)(r:Rep K H x a)(h:jU2 G x=some xs):∃p vs,a= .ref p/\SqL K H p vs/\Reps K H xs vs:=by
 cases x with
 | scr ys=>cases h;obtain⟨p,vs,e,h1,h2⟩:=(show ∃p vs,a= .ref p/\FrL K H p vs/\Reps K H xs vs from r);exact⟨p,vs,e,h1.sq,h2⟩
 | ref p=>
  obtain⟨vs,h1,h2⟩:=hg.lst (jYt h);exact⟨p,vs,r,.of h1,h2⟩
 | tup _=>cases h
 | non=>cases h
 | bl _=>cases h
 | int _=>cases h
 | str _=>cases h
 | ty _=>cases h
def kJ0(ta:TA3):TI3:=λτ G R=>ta τ G λvs G1=>∃x xs,vs=[x]/\jU2 G1 x=some xs/\R (numT xs) (λG'=>jU2 G' x=some xs) G1
theorem kVn{X:Cx}{elts:List Expr}{k:Nat}{tpos pos p:Pos}{a:Expr}{ta:TA3}(hg:Gl X "enumerate")(hm:X.mg "enumerate"=none)(hv:bootBuiltins "enumerate"=some (.type "enumerate"))(ha:PA3 X [a] ta)(hs:starEach [a] X.env=[(false,eval a X.env)]:=by rfl):
  PI3 X (.Tuple elts k tpos) (.Call (.Name "enumerate" p) [a] [] pos) (kJ0 ta):=by
 intro pins s τ G H R I h;obtain⟨σ0,I0,hs0,hg0⟩:=id I;refine Call_ (jU9 I0 hg hm hv (lKy (thn (ha pos pins s τ G H _ I h) λus s1 w_=>w_.el λxs' G1 H1 e1 i_ r_ q1=>i_.el λσ I1 hs1 hg1=>r_.el λas ras rvs=> ?_) hs rfl))
 obtain⟨x,xs,e,hx,q⟩:=q1;subst e;obtain⟨v,rfl,rv⟩:=jU7 ras;obtain⟨u,rfl,ru⟩:=rvs.one;obtain⟨pa,vs,rfl,hq,r⟩:=jVu hg1 rv hx;cases ru;obtain⟨its,rvv,pl,hz⟩:=I1.list hq;refine call_enumerate_list pl.isList λh1 he hit hsz hk=> ?_
 have I2:Inv X pins σ H1 {s1 with heap:=h1}:=I1.kept (t':=s1.toks) hk
 refine lX8 (Q:=PIE3 X pins τ H (.Tuple elts k tpos) R) he ?_
 have fr:∀b∈[s1.heap.objs.size+1,s1.heap.objs.size],FpOk X pins H1 b:=λb hb=>by
  have hb':b=s1.heap.objs.size+1\/b=s1.heap.objs.size:=by simpa using hb
  have hle:s1.heap.objs.size<=b:=by omega
  exact I1.fpOk hle (I1.hok.fresh hle)
 refine⟨s1.heap.objs.size+1,[s1.heap.objs.size+1,s1.heap.objs.size],_,_,numT xs,λG'=>jU2 G' x=some xs,G1,H1,rfl,e1,⟨σ,I2,hs1,hg1⟩,qKf pa _ _ (Nat.succ_ne_self _),⟨⟨.none,he⟩,hit⟩,fr,?_,q⟩
 intro i H2 G2 e2 g2 st;obtain⟨pb,ws,eb,h1,h2⟩:=jVu g2 (Rep.mono e2 _ rv) st;cases eb;have hlen:=h2.length;refine⟨λhi=> ?_,λhi=>⟨ws,h1,by rw[jKm] at hi;omega⟩,λhi y H' ⟨pp,z,hn,ey,hy,eH⟩=> ?_⟩
 .rw[jKm] at hi;exact⟨ws,ws[i]'(by omega),h1,by simp[hlen▸hi]⟩
 .subst ey;subst eH;obtain⟨t,ht,rt⟩:=h2.get' (hy ws h1);exact⟨.upd (.none hn),g2.tupNew hn,_,jVr ht,Rep.tupNew ⟨_,_,rfl,rfl,_,_,rfl,rt,rfl⟩ hn⟩
noncomputable def clGo(env:Env):List (Str×NameKind)->List (Str×Addr)->Option (List (Str×Addr))
 | [],cs=>some cs
 | (n,k)::r,cs=>if (k == .free)=true then (match env.cells.lookup n with | some c=>clGo env r ((n,c)::cs) | none=>none) else clGo env r cs
theorem kQf{scope:Scope}{env:Env}{cl:List (Str×Addr)}(h:clGo env scope.names []=some cl):closureFor scope env=pure cl:=by
 unfold closureFor
 have go:∀(names:List (Str×NameKind))(cs:List (Str×Addr)),clGo env names cs=some cl->
   (forIn names cs λ(x:Str×NameKind)(r:List (Str×Addr))=>(match x with | (nm,kd)=>if (kd == .free)=true then cellOf env nm >>= λa=>pure (ForInStep.yield ((nm,a)::r)) else pure (ForInStep.yield r):Sem (ForInStep (List (Str×Addr)))))=pure cl:=by
  intro names
  induction names with
  | nil=>intro cs e;cases e;rfl
  | cons x r ih=>
   obtain⟨n,k⟩:=x;intro cs e;unfold clGo at e;rw[lYq]
   by_cases hk:(k == NameKind.free)=true
   .rw[lJc hk] at e;cases hc:env.cells.lookup n with
    | none=>rw[hc] at e;cases e
    | some c=>
     rw[hc] at e;have hco:cellOf env n=pure c:=by unfold cellOf;rw[hc]
     simp only[hk,lJ7,hco,pure_bind];exact ih _ e
   .rw[lJb hk] at e;simp only[hk,pure_bind,lJt,lKp];exact ih _ e
 have:=go scope.names [] h
 simpa using this
theorem jZx{env:Env}{cl:List (Str×Addr)}:∀{names:List (Str×NameKind)}{cs:List (Str×Addr)},clGo env names cs=some cl->(∀n c,cs.lookup n=some c->env.cells.lookup n=some c)->∀n c,cl.lookup n=some c->env.cells.lookup n=some c
 | [],cs,e,h=>by cases e;exact h
 | (n,k)::r,cs,e,h=>by
  unfold clGo at e
  by_cases hk:(k == NameKind.free)=true
  .rw[lJc hk] at e;cases hc:env.cells.lookup n with
   | none=>rw[hc] at e;cases e
   | some c=>
    rw[hc] at e;refine jZx e λm d q=> ?_
    rw[lKw] at q
    by_cases hm:(m == n)=true
    .rw[hm] at q;cases q;rw[eq_of_beq hm];exact hc
    .simp only[hm] at q;exact h m d q
  .rw[lJb hk] at e;exact jZx e h
theorem kKc{env:Env}{cl:List (Str×Addr)}{m:Str}:∀{names:List (Str×NameKind)}{cs:List (Str×Addr)},clGo env names cs=some cl->(∃c,cs.lookup m=some c)->∃c,cl.lookup m=some c
 | [],cs,e,h=>by cases e;exact h
 | (n,k)::r,cs,e,h=>by
  unfold clGo at e
  by_cases hk:(k == NameKind.free)=true
  .rw[lJc hk] at e;cases hc:env.cells.lookup n with
   | none=>rw[hc] at e;cases e
   | some c=>
    rw[hc] at e;refine kKc e ?_;rw[lKw]
    by_cases hm:(m == n)=true
    .rw[hm];exact⟨_,rfl⟩
    .simp only[hm];exact h
  .rw[lJb hk] at e;exact kKc e h
theorem jZy{env:Env}{cl:List (Str×Addr)}{m:Str}:∀{names:List (Str×NameKind)}{cs:List (Str×Addr)},clGo env names cs=some cl->names.lookup m=some .free->∃c,cl.lookup m=some c
 | [],cs,e,h=>by simp at h
 | (n,k)::r,cs,e,h=>by
  unfold clGo at e;rw[lKw] at h
  by_cases hm:(m == n)=true
  .rw[hm] at h;cases h;rw[lJc (show (NameKind.free == NameKind.free)=true from rfl)] at e
   cases hc:env.cells.lookup n with
   | none=>rw[hc] at e;cases e
   | some c=>
    rw[hc] at e;refine kKc e ?_;rw[lKw,hm];exact⟨_,rfl⟩
  .simp only[hm] at h
   by_cases hk:(k == NameKind.free)=true
   .rw[lJc hk] at e;cases hc:env.cells.lookup n with
    | none=>rw[hc] at e;cases e
    | some c=>rw[hc] at e;exact jZy e h
   .rw[lJb hk] at e;exact jZy e h
theorem jUr{env:Env}{x:Str}:∀{names:List (Str×NameKind)},(∀y∈names,y.2≠ .cell)->
  ((names.map λ(n,k)=>if (k == NameKind.free&&env.scope.kind == .function&&env.kindOf n == some .cell) then (n,NameKind.cell) else (n,k)).lookup x=some .cell\/
    (names.map λ(n,k)=>if (k == NameKind.free&&env.scope.kind == .function&&env.kindOf n == some .cell) then (n,NameKind.cell) else (n,k)).lookup x=some .free)->names.lookup x=some .free
 | [],_,h=>by simp at h
 | (n,k)::r,hc,h=>by
  have ih:= @jUr env x r (λy hy=>hc y (lJ8 _ hy))
  have hk:=hc (n,k) lKg;rw[lJv] at h;rw[lKw]
  by_cases hx:(x == n)=true
  .rw[hx]
   by_cases hf:(k == NameKind.free&&env.scope.kind == .function&&env.kindOf n == some .cell)=true
   .have:(k == NameKind.free)=true:=by
     rw[lKl,lKl] at hf;exact hf.1.1
    rw[eq_of_beq this]
   .simp only[hf,lJt,lKp,lKw,hx] at h
    rcases h with h | h
    .cases h;exact absurd rfl hk
    .cases h;rfl
  .simp only[hx];refine ih ?_
   by_cases hf:(k == NameKind.free&&env.scope.kind == .function&&env.kindOf n == some .cell)=true
   .simpa only[hf,lJ7,lKw,hx] using h
   .simpa only[hf,lJt,lKp,lKw,hx] using h
theorem jVj{env:Env}{x:Str}:∀{names:List (Str×NameKind)},
  (names.map λ(n,k)=>if (k == NameKind.free&&env.scope.kind == .function&&env.kindOf n == some .cell) then (n,NameKind.cell) else (n,k)).lookup x=some .local->names.lookup x=some .local
 | [],h=>by simp at h
 | (n,k)::r,h=>by
  have ih:= @jVj env x r;rw[lJv] at h;rw[lKw]
  by_cases hx:(x == n)=true
  .rw[hx]
   by_cases hf:(k == NameKind.free&&env.scope.kind == .function&&env.kindOf n == some .cell)=true
   .simp only[hf,lJ7,lKw,hx] at h;cases h
   .simp only[hf,lJt,lKp,lKw,hx] at h;exact h
  .simp only[hx];refine ih ?_
   by_cases hf:(k == NameKind.free&&env.scope.kind == .function&&env.kindOf n == some .cell)=true
   .simpa only[hf,lJ7,lKw,hx] using h
   .simpa only[hf,lJt,lKp,lKw,hx] using h
noncomputable def jVe(X:Cx)(scope:Scope)(cl:List (Str×Addr))(C:Addr)(fp:List Addr)(s:Shared)(H:Hp):Cx:=
 {X with env:=compEnvC scope cl C X.env,s₀:=s,H₀:=H,outer:=X.stack,stack:=X.stack,ex:=fp,fn:=λ_=>false,pn:=[],xe:=λ_ _=>False}
structure CmpOk (X:Cx) (scope:Scope) (cl:List (Str×Addr)) (mask:List Bool):Prop where
 cl:clGo X.env scope.names []=some cl
 kind:scope.kind= .function
 nocell:(scope.names.all λy=>y.2 != .cell)=true
 names:(scope.names.all λy=>y.2 != .local||scope.names.lookup y.1 == some .local)=true
 vis:(scope.names.all λy=>y.2 != .free||X.env.kindOf y.1 == some .cell||X.env.kindOf y.1 == some .free)=true
 len:mask.length=X.N.length
 mask:((X.N.zip mask).all λp=>p.2||scope.names.lookup p.1 != some .local)=true
def msk{α:Type}(mask:List Bool)(τ:List (Option α)):List (Option α):=List.zipWith (λb o=>if b=true then none else o) mask τ
theorem kX3{α:Type}{mask:List Bool}{τ:List (Option α)}{i:Nat}{t:α}(h:(msk mask τ)[i]? =some (some t)):mask[i]? =some false/\τ[i]? =some (some t):=by
 unfold msk at h;rw[lV1] at h;cases hm:mask[i]? with
 | none=>exact absurd (hm▸h) (by simp)
 | some b=>
  cases ht:τ[i]? with
  | none=>rw[hm,ht] at h;cases h
  | some o=>
   rw[hm,ht] at h;cases b with
   | true=>simp at h
   | false=>simp at h;exact⟨rfl,by rw[h]⟩
theorem jY4{α:Type}{mask:List Bool}{τ:List (Option α)}(h:mask.length=τ.length):(msk mask τ).length=τ.length:=by
 unfold msk;rw[List.length_zipWith,h,Nat.min_self]
theorem qQr{K:PySem.W.Frag}{H:Hp}{σ:L2.St}{τ:St3}{mask:List Bool}(h:SRel K H σ τ)(hl:mask.length=τ.length):SRel K H (msk mask σ) (msk mask τ):=by
 refine⟨by rw[jY4 hl,jY4 (hl.trans h.1.symm),h.1],λi t q=> ?_⟩
 obtain⟨h1,h2⟩:=kX3 q;obtain⟨v,h3,h4⟩:=h.2 i t h2;refine⟨v,?_,h4⟩;unfold msk;rw[lV1,h1,h3];simp
section
variable {X:Cx}{scope:Scope}{cl:List (Str×Addr)}{mask:List Bool}
theorem CmpOk.local(c:CmpOk X scope cl mask){i:Nat}{x:Str}(h1:X.N[i]? =some x)(h2:mask[i]? =some false):scope.names.lookup x≠some .local:=by
 have h:=c.mask;rw[lQn] at h;have hz:(X.N.zip mask)[i]? =some (x,false):=by rw[List.getElem?_zip_eq_some];exact⟨h1,h2⟩
 have:=h _ (lJm hz)
 simpa using this
theorem CmpOk.free(c:CmpOk X scope cl mask){x:Str}(h:scope.names.lookup x=some .free):X.env.kindOf x=some .cell\/X.env.kindOf x=some .free:=by
 have hv:=c.vis;rw[lQn] at hv;have:=hv (x,.free) (lVh h)
 simpa using this
theorem CmpOk.nc(c:CmpOk X scope cl mask):∀y∈scope.names,y.2≠ .cell:=by
 have hv:=c.nocell;rw[lQn] at hv;intro y hy
 simpa using hv y hy
theorem CmpOk.nm(c:CmpOk X scope cl mask):∀y∈scope.names,y.2= .local->scope.names.lookup y.1=some .local:=by
 have hv:=c.names;rw[lQn] at hv;intro y hy e;have:=hv y hy;rw[e] at this
 simpa using this
theorem qUy(c:CmpOk X scope cl mask){pins:List (Addr×Obj)}{σ:L2.St}{H:Hp}{s:Shared}{fp:List Addr}{h4:Heap}{tk:Nat}(I:Inv X pins σ H s)(hf:∀b∈fp,FpOk X pins H b)(ho:∀b∈fp,∃o,s.heap.get? b=some o)
  (hns:h4.Ns s.heap.objs.size λ_=>none) (hk:∀b o,s.heap.get? b=some o->h4.get? b=some o):
  Inv (jVe X scope cl s.heap.objs.size fp s H) [] (msk mask σ) H {s with heap:=h4,toks:=tk}:=by
 have sub:=jZx c.cl (by simp)
 have ok:(jVe X scope cl s.heap.objs.size fp s H).Ok:=by
  refine⟨I.ok.mod,c.kind,I.ok.glob,I.ok.blt,lJg _,λx y d h1 h2=>I.ok.inj x y d (sub _ _ h1) (sub _ _ h2),λx hx=>jZy c.cl (jUr (env:=X.env) c.nc hx),λx d hx=>absurd (show false=true from hx) lJl,I.ok.hd,I.ok.gd,I.ok.frames,.inl rfl,
   λb hb=> ?_,I.bs,lKb I.ok.bsz I.sz,λb o e hb=> ?_,λb hb hz=> ?_,I.stack,I.stkFree⟩
  .obtain⟨o,e⟩:=ho b hb;exact⟨lJp (lJi e),λx d hd=>(hf b hb).2.2.2.2.1 x d (sub _ _ hd)⟩
  .rcases (hf b hb).2.2.2.1 with z | z
   .exact I.ok.noex b o e z
   .exact absurd (lJw (lJi e) I.ok.bsz) (lQ4.mpr z)
  .rcases lJk.mp (I.stkSub b hz) with z | z
   .exact (hf b hb).2.1 z
   .exact (hf b hb).2.2.1 z
 refine⟨ok,rfl,I.bare,Un.kept hk,⟨_,hns,λi x v h1 h2 h3=> ?_⟩,λx d hd=> ?_,I.hok.fresh (lJg _),λx d hd=>I.freeC x d (sub _ _ hd),λp hp=>absurd (show p∈([]:List (Addr×Obj)) from hp) (by simp),I.hok.kept hk,?_⟩
 .obtain⟨m1,m2⟩:=kX3 h2;have nl:=c.local h1 m1
  have fr:scope.names.lookup x=some .free:=by
   rcases h3 with z | z | z
   .exact absurd (jVj (env:=X.env) z) nl
   .exact jUr (env:=X.env) c.nc (.inl z)
   .exact jUr (env:=X.env) c.nc (.inr z)
  have hkk:=c.free fr;obtain⟨m,hn,hl⟩:=I.loc;have vis:Vis X.env.scope x:=by rcases hkk with z | z;exact .inr (.inl z);exact .inr (.inr z)
  obtain⟨u,ru,lk⟩:=hl i x v h1 m2 vis;refine⟨u,ru,?_⟩
  rcases lk with ⟨z,_⟩ | ⟨_,d,hd,cd⟩
  .exfalso;rcases hkk with q | q<;>(rw[z] at q;cases q)
  .obtain⟨d',hd'⟩:=jZy c.cl fr;have:d'=d:=by have:=sub _ _ hd';rw[hd] at this;exact (lJn this).symm
   subst this;refine .inr ⟨?_,d',hd',cd.keeps hk⟩
   rcases h3 with z | z | z
   .exact absurd (jVj (env:=X.env) z) nl
   .exact .inl z
   .exact .inr z
 .obtain⟨v,hv⟩:=I.cell x d (sub _ _ hd);exact⟨v,hv.keeps hk⟩
 .exact (jY4 (c.len.trans I.len.symm)).trans I.len
theorem uKj{pins:List (Addr×Obj)}{σ σ':L2.St}{H H':Hp}{s s':Shared}{fp:List Addr}{pl:List (Addr×Obj)}{C:Addr}(I:Inv X pins σ H s)(hf:∀b∈fp,FpOk X pins H b)(hC:s.heap.objs.size<=C)
  (J:Inv (jVe X scope cl C fp s H) pl σ' H' s') {h':Heap} (hb:Heap.SameBut C s'.heap h'):Inv X pins σ H' {s' with heap:=h'}:=by
 have ne:∀b o,s.heap.get? b=some o->b≠C:=λb o e=>lJp (lJw (lJi e) hC)
 have u:=J.base;have hfree:H' C=none:=J.free
 have u':Un (frs X.stack) fp H H' s.heap h':=⟨λb o e n hb' hx=>(hb.2 b (ne b o e)).trans (u.keep b o e n hb' hx),λb o e n hb' hx=>let ⟨sl,z⟩:=u.slot b o e n hb' hx;⟨sl,(hb.2 b (ne b o e)).trans z⟩,
  u.free,λb o e hx=>let ⟨o',z⟩:=u.there b o e hx;⟨o',(hb.2 b (ne b o e)).trans z⟩,u.tups,u.frzs,u.tbls⟩
 have hok:HOk X.prog X.w H' h':=λb ob e=>(J.hok b ob e).stay (λc w' hc q=>(hb.2 c (by
  rintro rfl
  rcases hc with rfl | hc
  .rw[hfree] at e;cases e
  .rw[hfree] at hc;cases hc)).trans q) (λ_ q=>q) λ_ _ q=>q
 exact I.call' (s':={s' with heap:=h'}) J.os u' hok J.bare λb hb=>⟨(hf b hb).2.2.2.1,(hf b hb).2.1,(hf b hb).2.2.2.2.1,(hf b hb).2.2.2.2.2⟩
end
abbrev qUw(ifs:List Expr)(env:Env):Sem Bool:=forIn ifs true λc b=>if b=true then isTrue c env (eval c env) >>= λd=>pure (ForInStep.yield d) else pure (ForInStep.yield b)
noncomputable def qYz(M:Model)(A:Around)(elt tg:Expr)(ifs:List Expr)(it acc:Value)(env:Env)(stop more:Shared->Prop):Option Value->Shared->Prop
 | none=>stop
 | some v=>λz=>wpAny M A (letOwnedTupleGo tg it v) (λ_ z1=>wpAny M A (assign tg env v) (λ_ z2=>wpAny M A (qUw ifs env) (λok z3=>if ok=true then wpAny M A (eval elt env) (λx z4=>wpAny M A (call (.builtin "list.append") [acc,x]) (λ_=>more) (λ_ _=>False) z4) (λ_ _=>False) z3 else more z3) (λ_ _=>False) z2) (λ_ _=>False) z1) (λ_ _=>False) z
theorem qUx{P:Program}{w:World}{A:Around}{R:Result->Shared->Prop}{s:Shared}{elt tg iter:Expr}{ifs:List Expr}{scope:Scope}{pos:Pos}{it acc:Value}{env:Env}(I:Nat->Shared->Prop)
  (turn:∀k z,I k z->wpAny (model P w) A (pyNext it) (qYz (model P w) A elt tg ifs it acc env (R (.ok .next)) λz'=>∃m,m<k/\I m z') (λ_ _=>False) z) (n:Nat) (h:I n s):codeAny (model P w) A (.compLoop (.ListComp elt [⟨tg,iter,ifs,0⟩] scope pos) 0 it acc env) R s:=by
 refine codeAny_loop rfl I (λk z hz=>(show wpAny _ A ((compTurn (.ListComp elt [⟨tg,iter,ifs,0⟩] scope pos) 0 it acc env).onRaise _) _ _ z from wpAny_noted ?_)) n h
 rw[compTurn_list];refine lJa (lVb (lJa (lJ6 (turn k z hz) (λr z1 h1=> ?_) λ_ _ e=>e.elim)))
 cases r with
 | none=>exact lJd h1
 | some v=>
  refine lJa (lJ6 h1 (λ_ z2 h2=>lJa (lJ6 h2 (λ_ z3 h3=>lJa (lJ6 h3 (λok z4 h4=> ?_) λ_ _ e=>e.elim)) λ_ _ e=>e.elim)) λ_ _ e=>e.elim)
  by_cases hok:ok=true
  .subst hok;exact lJa (lJa (lJ6 h4 (λx z5 h5=>lJa (lJ6 h5 (λ_ z6 h6=>lJd (lJd ⟨rfl,h6⟩)) λ_ _ e=>e.elim)) λ_ _ e=>e.elim))
  .obtain rfl:ok=false:=by simpa using hok
   exact lJd ⟨rfl,h4⟩
def PIf3(X:Cx)(ifs:List Expr)(t:TT3):Prop:=∀(pins:List (Addr×Obj))(s:Shared)(τ:St3)(G:Gp)(H:Hp)(Q:Bool->Gp->Prop),Inv3 X pins τ G H s->t τ G Q->
 wpAny (model X.prog X.w) X.A (forIn ifs true λc r=>if r=true then do let ok <-isTrue c X.env (eval c X.env);pure (ForInStep.yield ok) else pure (ForInStep.yield r)) (TP3 X pins τ H Q) X.xe s
def jXx:TT3:=λ_ G Q=>Q true G
theorem jVc{X:Cx}:PIf3 X [] jXx:=λ_ _ _ G H _ I q=>wpAny_tests_nil ⟨G,H,.refl H,I,q⟩
theorem kJz{X:Cx}{c:Expr}{t:TT3}(h:PT3 X c t):PIf3 X [c] t:=λpins s τ G H Q I q=>wpAny_tests_one (h pins s τ G H Q I q)
def qJ6(mask:List Bool)(g:TG3):Prop:=∀v τ G Q,g v τ G Q->g v τ G λτ2 G2=>Q τ2 G2/\τ2.length=τ.length/\∀i:Nat,mask[i]? ≠some true->τ2[i]? =τ[i]?
def kZ4(mask:List Bool)(g:TGs3):Prop:=∀v τ G Q,g v τ G Q->g v τ G λτ2 G2=>Q τ2 G2/\τ2.length=τ.length/\∀i:Nat,mask[i]? ≠some true->τ2[i]? =τ[i]?
theorem jKg{mask:List Bool}{i:Nat}(h:mask[i]? =some true:=by rfl):qJ6 mask (jJh i):=λv τ G Q q=>
 ⟨q,lQt ..,λj hj=>lKh (by rintro rfl;exact hj h)⟩
theorem kVq{mask:List Bool}:kZ4 mask gNil:=λv τ G Q ⟨e,q⟩=>⟨e,q,rfl,λ_ _=>rfl⟩
theorem jU4{mask:List Bool}{t:TG3}{u:TGs3}(h1:qJ6 mask t)(mono:∀v τ G Q Q',(∀a b,Q a b->Q' a b)->t v τ G Q->t v τ G Q')(h2:kZ4 mask u)(mono2:∀v τ G Q Q',(∀a b,Q a b->Q' a b)->u v τ G Q->u v τ G Q'):kZ4 mask (jKd t u):=λvs τ G Q ⟨v,r,e,q⟩=>by
 refine⟨v,r,e,mono _ _ _ _ _ (λτ2 G2 ⟨z,l1,k1⟩=> ?_) (h1 _ _ _ _ q)⟩
 exact mono2 _ _ _ _ _ (λτ3 G3 ⟨z3,l3,k3⟩=>⟨z3,l3.trans l1,λi hi=>(k3 i hi).trans (k1 i hi)⟩) (h2 _ _ _ _ z)
theorem jQp{i:Nat}:∀v τ G (Q Q':St3->Gp->Prop),(∀a b,Q a b->Q' a b)->jJh i v τ G Q->jJh i v τ G Q':=λ_ _ _ _ _ h q=>h _ _ q
theorem jXu:∀v τ G (Q Q':St3->Gp->Prop),(∀a b,Q a b->Q' a b)->gNil v τ G Q->gNil v τ G Q':=λ_ _ _ _ _ h q=>⟨q.1,h _ _ q.2⟩
theorem kJ3{t:TG3}{u:TGs3}(m1:∀v τ G (Q Q':St3->Gp->Prop),(∀a b,Q a b->Q' a b)->t v τ G Q->t v τ G Q')(m2:∀v τ G (Q Q':St3->Gp->Prop),(∀a b,Q a b->Q' a b)->u v τ G Q->u v τ G Q'):
  ∀v τ G (Q Q':St3->Gp->Prop),(∀a b,Q a b->Q' a b)->jKd t u v τ G Q->jKd t u v τ G Q':=λ_ _ _ _ _ h ⟨v,r,e,q⟩=>⟨v,r,e,m1 _ _ _ _ _ (λ_ _ z=>m2 _ _ _ _ _ h z) q⟩
theorem kVp{mask:List Bool}{n:Nat}{u:TGs3}(h:kZ4 mask u):qJ6 mask (gTup n u):=λv τ G Q ⟨xs,e,l,q⟩=>⟨xs,e,l,h _ _ _ _ q⟩
theorem qXm{mask:List Bool}{τ τ2:St3}(hl:mask.length=τ.length)(l:τ2.length=(msk mask τ).length)(h:∀i:Nat,mask[i]? ≠some true->τ2[i]? =(msk mask τ)[i]?):msk mask τ2=msk mask τ:=by
 have ll:=jY4 hl;apply lQh;intro i;unfold msk at h ⊢;rw[lV1,lV1];cases hm:mask[i]? with
 | none=>rfl
 | some b=>
  cases b with
  | true=>
   have h1:i<mask.length:=by
    rcases lKd i mask.length with z | z
    .exact z
    .rw[lJz z] at hm;cases hm
   have h2:i<τ2.length:=by omega
   have h3:i<τ.length:=by omega
   rw[lJh h2,lJh h3];simp
  | false=>
   have:=h i (by rw[hm];simp)
   rw[lV1,hm] at this;rw[this];cases τ[i]? with
   | none=>rfl
   | some o=>simp
def kXk(mask:List Bool)(g:TG3)(tif:TT3)(te:TE3)(τ:St3)(xs:List T)(stay:Gp->Prop)(G:Gp)(Q:VK3):Prop:=
 ∀D,G D=none->∃P:Nat->List T->Gp->Prop,P 0 [] (gup G D (.lst []))/\(∀i acc G,i<=xs.length->P i acc G->stay G/\G D=some (.lst acc))/\
  (∀i x acc G,xs[i]? =some x->P i acc G->g x (msk mask τ) G λτ2 G2=>tif τ2 G2 λb G3=>if b=true then te τ2 G3 λy G4=>G4 D=some (.lst acc)/\acc.length<sizeLine/\P (i+1) (acc++[y]) (gup G4 D (.lst (acc++[y]))) else P (i+1) acc G3)/\
  ∀acc G,P xs.length acc G->Q (.ref D) G
def jQx(mask:List Bool)(wi:TI3)(g:TG3)(tif:TT3)(te:TE3):TE3:=λτ G Q=>wi τ G λxs stay G1=>kXk mask g tif te τ xs stay G1 Q
section
variable {X:Cx}{scope:Scope}{cl:List (Str×Addr)}{mask:List Bool}{elt iter tg:Expr}{ifs:List Expr}{pos:Pos}{wi:TI3}{g:TG3}{tif:TT3}{te:TE3}
theorem kQe(hc:X.calm=true)(ok:CmpOk X scope cl mask)
  (hgk:qJ6 mask g) (hg:∀C fp s H,PG3 (jVe X scope cl C fp s H) tg g) (hif:∀C fp s H,PIf3 (jVe X scope cl C fp s H) ifs tif) (he:∀C fp s H,PE3 (jVe X scope cl C fp s H) elt te)
  {pins:List (Addr×Obj)} {τ:St3} {H:Hp} {Q:VK3} {itv:Value} {s2:Shared} {E:Value->Shared->Prop} {RR:Value->Addr->Result->Shared->Prop}
  (h2:PIE3 X pins τ H tg (λxs stay G=>kXk mask g tif te τ xs stay G Q) itv s2)
  (hRR:∀D C s' m,s'.heap.Ns C m->(∃G1 H1,Ext H H1/\H1 C=none/\Q (.ref D) G1/\∀h',Heap.SameBut C s'.heap h'->Inv3 X pins τ G1 H1 {s' with heap:=h'})->(∃oC,s'.heap.get? C=some oC/\C≠X.env.locals/\C∉X.fs/\∀v,oC.data≠ .cell v)->(∀x c,X.env.cells.lookup x=some c->c≠C)->(∀p∈X.pn++pins,p.1≠C)->X.s₀.heap.objs.size<=C->RR (.ref D) C (.ok .next) s'):
  wpAny (model X.prog X.w) X.A (newList []) (λacc s₃=>wpAny (model X.prog X.w) X.A (newFunctionEnv scope X.env.globals cl [] X.env.qual none .none (some X.env)) (λcenv s₄=>
   codeAny (model X.prog X.w) X.A (.compStart (.ListComp elt [⟨tg,iter,ifs,0⟩] scope pos) 0 itv acc {cenv with scope:=relabel scope X.env}) (RR acc cenv.locals) s₄) E s₃) E s2:=by
 obtain⟨it,fp,tn,J,xs,stay,G2,H2,e,eH,⟨σ,I2,hs2,hg2⟩,T0,st2,f2,IT,hq⟩:=h2;subst e;refine lK1 (wpAny_newFunctionEnv ok.nc (by intro y hy;simp at hy) (λh4 hns hsb=> ?_) ok.kind)
 dsimp only at hns hsb ⊢
 have hD:H2 s2.heap.objs.size=none:=I2.hok.fresh (lJg _)
 generalize hs3:({s2 with heap:=s2.heap.push {cls:= .type "list",dict:=none,data:= .seq ([]:List Value).toArray} }:Shared)=s3
 have eh3:s2.heap.push {cls:= .type "list",dict:=none,data:= .seq ([]:List Value).toArray}=s3.heap:=by rw[<-hs3]
 have I3:Inv X pins σ (upd H2 s2.heap.objs.size (.lst [])) s3:=by
  rw[<-hs3];exact I2.laid (t':=s2.toks) (λb u e=>lJj _ e) (lJg _) ⟨lJ0 _,[],0,.nil,lJ1 _ rfl⟩
 rw[eh3] at hns hsb ⊢
 generalize hDd:s2.heap.objs.size=D at *
 have e3:Ext H2 (upd H2 D (.lst [])):= .upd (.none hD);have hg3:GRel X.K (upd H2 D (.lst [])) (gup G2 D (.lst [])):=hg2.lstNew (show Reps X.K H2 [] [] from rfl) (.none hD)
 have obj2:∀b∈fp,∃o,s2.heap.get? b=some o:=λb hb=>let ⟨o,e,_⟩:=T0.obj 0 _ st2 b hb;⟨o,e⟩
 have fD:∀b∈fp,b≠D:=λb hb=>by obtain⟨o,e⟩:=obj2 b hb;rw[<-hDd];exact lJp (lJi e)
 have f3:∀b∈fp,FpOk X pins (upd H2 D (.lst [])) b:=λb hb=>⟨by rw[jJt (fD b hb)];exact (f2 b hb).1,(f2 b hb).2⟩
 have k3:∀b o,s2.heap.get? b=some o->s3.heap.get? b=some o:=λb o e=>by rw[<-eh3];exact lJj _ e
 have obj3:∀b∈fp,∃o,s3.heap.get? b=some o:=λb hb=>let ⟨o,e⟩:=obj2 b hb;⟨o,k3 b o e⟩
 have k4:∀b o,s3.heap.get? b=some o->h4.get? b=some o:=λb o e=>hsb.extBut b o (lJp (lJi e)) (lJj _ e)
 have Ic:Inv (jVe X scope cl s3.heap.objs.size fp s3 (upd H2 D (.lst []))) [] (msk mask σ) (upd H2 D (.lst [])) {s3 with heap:=h4,toks:=s3.toks+([]:List (Str×Value)).length}:=qUy ok I3 f3 obj3 hns k4
 have st4:tn 0 h4:=T0.keep _ _ _ st2 λb _ o e=>k4 b o (k3 b o e)
 have hl3:mask.length=τ.length:=ok.len.trans (I3.len.symm.trans hs2.1);obtain⟨P,p0,hst,turn,fin⟩:=hq D (hg2.fresh hD)
 have fpc:∀{H':Hp}{pl:List (Addr×Obj)},(∀b∈fp,H' b=none)->(∀p∈pl,p.1∉fp)->∀b∈fp,FpOk (jVe X scope cl s3.heap.objs.size fp s3 (upd H2 D (.lst []))) pl H' b:=λ{H' pl} hn hp b hb=>by
  obtain⟨o,e⟩:=obj3 b hb;refine⟨hn b hb,lJp (lJi e),?_,.inl hb,λx d hd=>(f3 b hb).2.2.2.2.1 x d (jZx ok.cl (by simp) _ _ hd),λp hpp z=> ?_⟩
  .intro z
   rcases lJk.mp (I3.stkSub b z) with q | q
   .exact (f3 b hb).2.1 q
   .exact (f3 b hb).2.2.1 q
  .have hpp':p∈pl:=by simpa[jVe] using hpp
   exact hp p hpp' (z▸hb)
 have loop:∀s4:Shared,s4={s3 with heap:=h4,toks:=s3.toks+([]:List (Str×Value)).length}->
   codeAny (model X.prog X.w) X.A (.compLoop (.ListComp elt [⟨tg,iter,ifs,0⟩] scope pos) 0 (.ref it) (.ref D) (compEnvC scope cl s3.heap.objs.size X.env)) (RR (.ref D) s3.heap.objs.size) s4:=by
  rintro s4 rfl
  refine qUx (λn s'=>∃i acc G' H',n=xs.length-i/\i<=xs.length/\Ext H2 H'/\Inv3 (jVe X scope cl s3.heap.objs.size fp s3 (upd H2 D (.lst []))) [] (msk mask τ) G' H' s'/\tn i s'.heap/\(∀b∈fp,H' b=none)/\P i acc G') ?_ xs.length
   ⟨0,[],_,_,rfl,lJ0 _,e3,⟨_,Ic,qQr (hs2.mono e3) hl3,hg3⟩,st4,λb hb=>(f3 b hb).1,p0⟩
  rintro n s5 ⟨i,acc,G5,H5,en,hi5,e5,⟨σ5,I5,hs5,hg5⟩,st5,fr5,p5⟩;obtain⟨hstay,hacc⟩:=hst i acc G5 hi5 p5;obtain⟨go,stop,yl⟩:=IT i H5 G5 e5 hg5 hstay
  by_cases hlt:i<xs.length
  .refine thn (T0.item (jVe X scope cl s3.heap.objs.size fp s3 (upd H2 D (.lst []))) rfl rfl rfl hc i [] s5 σ5 H5 (λ_ _=>False) I5 (fpc fr5 (by simp)) st5 (go hlt)) λr s6 ⟨u,hr,h6⟩=> ?_
   subst hr;refine thn h6 λ_ s7 ⟨x,H7,I7,r7,y7,st7,fr7⟩=> ?_
   obtain⟨e7,g7,t,ht,rt⟩:=yl hlt x H7 y7;have I7':=I7.pinned (fpc fr7 (by simp)) (T0.obj _ _ st7)
   refine thn (hg _ _ _ _ ([]++jXt fp s7.heap) s7 (msk mask τ) G5 H7 t u _ ⟨σ5,I7',hs5.mono e7,g7⟩ ⟨x,rt,r7⟩ (hgk _ _ _ _ (turn i t acc G5 ht p5))) λ_ s8 ⟨τ8,G8,H8,e8,I8,q8,ql8,qk8⟩=> ?_
   refine thn (hif _ _ _ _ ([]++jXt fp s7.heap) s8 τ8 G8 H8 _ I8 q8) λb s9 ⟨G9,H9,e9,I9,q9⟩=> ?_
   have back:∀{Ga:Gp}{Ha:Hp}{sa:Shared}{acc':List T},Ext H7 Ha->Inv3 (jVe X scope cl s3.heap.objs.size fp s3 (upd H2 D (.lst []))) ([]++jXt fp s7.heap) τ8 Ga Ha sa->P (i+1) acc' Ga->
     ∃m,m<n/\∃i acc G' H',m=xs.length-i/\i<=xs.length/\Ext H2 H'/\Inv3 (jVe X scope cl s3.heap.objs.size fp s3 (upd H2 D (.lst []))) [] (msk mask τ) G' H' sa/\tn i sa.heap/\(∀b∈fp,H' b=none)/\P i acc G':=by
    rintro Ga Ha sa acc' ea ⟨σa,Ia,hsa,hga⟩ pa;have e2a:Ext H5 Ha:=e7.trans ea;have hla:mask.length=τ8.length:=by rw[ql8,jY4 hl3];exact hl3
    have hsm:=qQr (mask:=mask) hsa hla;rw[qXm hl3 ql8 qk8] at hsm;refine⟨xs.length-(i+1),by omega,i+1,acc',Ga,Ha,rfl,hlt,e5.trans e2a,⟨msk mask σa,(Ia.weak (jY4 (hla.trans hsa.1.symm)) λj v hv=>(kX3 hv).2).pins_of (λp hp=>absurd hp (by simp)),hsm,hga⟩,?_,λb hb=> ?_,pa⟩
    .exact T0.keep _ _ _ st7 λb hb o e=>(Ia.pin (b,o) (lKu _ (lKu _ (jXm hb e)))).1
    .obtain⟨o,e,d⟩:=T0.obj _ _ st7 b hb;exact (Ia.pin (b,o) (lKu _ (lKu _ (jXm hb e)))).2.1
   cases b with
   | false=>
    rw[lJb lJl] at q9 ⊢;exact back (e8.trans e9) I9 q9
   | true=>
    rw[lJc rfl] at q9 ⊢;refine thn (he _ _ _ _ ([]++jXt fp s7.heap) s9 τ8 G9 H9 _ I9 q9) λy s10 w_=>w_.el λty G10 H10 e10 I10 r10 ⟨hD10,hz10,q10⟩=> ?_
    obtain⟨vy,rvy,ruy⟩:=r10;refine thn (jQl ([]++jXt fp s7.heap) s10 τ8 G10 H10 (.ref D) [ty] (.ref D) [y] (λ_ G'=>P (i+1) (acc++[ty]) G') I10 ⟨.ref D,rfl,rfl⟩ ⟨[vy],.one rvy,.cons ruy .nil⟩ ⟨D,acc,ty,rfl,rfl,hD10,hz10,q10⟩) λ_ s11 w_=>w_.el λ_ G11 H11 e11 I11 _ q11=> ?_
    exact back (((e8.trans e9).trans e10).trans e11) I11 q11
  .have ei:i=xs.length:=by omega
   refine thn (T0.done (jVe X scope cl s3.heap.objs.size fp s3 (upd H2 D (.lst []))) rfl rfl rfl hc i [] s5 σ5 H5 (λ_ _=>False) I5 (fpc fr5 (by simp)) st5 (stop (by omega))) λr s6 ⟨hr,I6⟩=> ?_
   subst hr;subst ei;obtain⟨m,hn,_⟩:=I6.loc;obtain⟨oC,es,ep,hoC,hdC,_⟩:=id hn
   refine hRR D s3.heap.objs.size s6 m hn ⟨G5,H5,eH.trans e5,I6.free,fin acc G5 p5,λh' hb=>⟨σ,uKj I3 f3 (lJg _) I6 hb,hs2.mono e5,hg5⟩⟩
    ⟨oC,hoC,lQr I3.lt,I3.nofs (lJg _),λv z=>by rw[hdC] at z;cases z⟩ (λx d hd=> ?_) (λp hp=> ?_) I3.sz
   .obtain⟨v,q⟩:=I3.cell x d hd;exact lJp q.lt
   .exact lJp (lJi (I3.pin p hp).1)
 exact codeAny_compStart_list (loop _ (by rw[<-hs3])) (T0.self _ 0 _ _ _ st4 (loop _ (by rw[<-hs3])))
theorem jUs(hc:X.calm=true)(ok:CmpOk X scope cl mask)(hi:PI3 X tg iter wi)(hgk:qJ6 mask g)(hg:∀C fp s H,PG3 (jVe X scope cl C fp s H) tg g)(hif:∀C fp s H,PIf3 (jVe X scope cl C fp s H) ifs tif)(he:∀C fp s H,PE3 (jVe X scope cl C fp s H) elt te)
  (hs:∀x,foldedSetIterable iter X.env x=pure x:=by intro _;rfl):PE3 X (.ListComp elt [⟨tg,iter,ifs,0⟩] scope pos) (jQx mask wi g tif te):=by
 intro pins s τ G H Q I h;rw[eval_ListComp];refine wpAny_comprehension_free (use:=none) rfl hs (kQf ok.cl) ok.kind ok.nm (thn (hi pins s τ G H _ I h) λxv s1 h1=>thn h1 λitv s2 h2=> ?_)
 refine kQe (RR:=λacc C=>compPost (model X.prog X.w) X.A X.xe none (EP3 X pins τ H Q) acc C) hc ok hgk hg hif he h2 ?_
 rintro D C s' m hn ⟨G1,H1,e1,_,q1,hI⟩ _ _ _ _;exact⟨m,hn,λh' hb=>⟨.ref D,G1,H1,e1,hI h' hb,⟨.ref D,rfl,rfl⟩,q1⟩⟩
theorem kK4{i:Nat}{y:Str}{py spos:Pos}(hc:X.calm=true)(hN:X.N.Nodup)(ok:CmpOk X scope cl mask)(hi:PI3 X tg iter wi)(hgk:qJ6 mask g)(hg:∀C fp s H,PG3 (jVe X scope cl C fp s H) tg g)(hif:∀C fp s H,PIf3 (jVe X scope cl C fp s H) ifs tif)(he:∀C fp s H,PE3 (jVe X scope cl C fp s H) elt te)
  (hy:X.N[i]? =some y:=by rfl) (hx:X.env.scope.names.lookup y=some .local:=by rfl)
  (hsw:swapsWith (.ListComp elt [⟨tg,iter,ifs,0⟩] scope pos) (some (.Name y py)) spos.line X.env=pure true:=by rfl)
  (hs:∀x,foldedSetIterable iter X.env x=pure x:=by intro _;rfl):PS3 X (.Assign [.Name y py] (.ListComp elt [⟨tg,iter,ifs,0⟩] scope pos) spos) (tAsg (jQx mask wi g tif te) (jJh i)):=by
 intro pins s τ G H D I h;rw[exec_Assign_Name_used _ _ _ _ hsw];refine lJa (lVb (lJa ?_));show wpAny _ X.A (do let _ <-comprehension (.ListComp elt [⟨tg,iter,ifs,0⟩] scope pos) scope X.env _ (newList []) false (eval iter X.env) (some (assign (.Name y py) X.env))) _ _ s
 refine lJa (lJ6 (wpAny_comprehension_free (use:=some (assign (.Name y py) X.env)) (Q:=λ_ s'=>SP3 X pins H D .next s') rfl hs (kQf ok.cl) ok.kind ok.nm
  (thn (hi pins s τ G H _ I h) λxv s1 h1=>thn h1 λitv s2 h2=> ?_)) (λ_ s' hq=>lJd (lJd hq)) λ_ _ e=>e)
 refine kQe (RR:=λacc C=>compPost (model X.prog X.w) X.A X.xe (some (assign (.Name y py) X.env)) (λ_ s'=>SP3 X pins H D .next s') acc C) hc ok hgk hg hif he h2 ?_
 rintro Dd C s' m hn ⟨G1,H1,e1,hH1C,q1,hI⟩ ⟨oC,hoC,c1,c2,c3⟩ c4 c5 c6;show wpAny _ X.A (assign (.Name y py) X.env (.ref Dd)) _ _ _
 obtain⟨σ1,I1,hs1,hg1⟩:=hI s'.heap (.refl ..)
 have I1':Inv X (pins++[(C,oC)]) σ1 H1 s':=I1.pins_of λp hp=>(lKt.mp hp).elim (λz=>I1.pin p (lKu _ z)) λz=>by
  obtain rfl:p=(C,oC):=by simpa using z
  exact⟨hoC,hH1C,c1,c2,c3⟩
 refine wpAny_assign_Name (jVg I1' hN hy (.inl hx) (v:= .ref Dd) rfl (λs2 I2=> ?_) (.inr hx))
 have hC2:s2.heap.get? C=some oC:=(I2.pin (C,oC) (lKu _ (lKu _ (by simp)))).1
 obtain⟨oC',es,ep,hoC',r⟩:=hn;have eo:oC'=oC:=by rw[hoC] at hoC';exact (lJn hoC').symm
 subst eo;refine⟨m,⟨oC',es,ep,hC2,r⟩,λh' hb=>⟨_,G1,H1,e1,⟨_,?_,hs1.set i (show Rep X.K H1 (.ref Dd) (.ref Dd) from rfl),hg1⟩,q1⟩⟩
 exact I2.unpinned.turned (t':=s2.toks) (λb o hb' e=>(hb.2 b hb').trans e) hH1C c1 (.inr c6) c4 c5
end
end L3
namespace HT
open PySem PyProof.Rows
def lexLe:(xs ys:List Int)->Bool
 | [],_=>true
 | _::_,[]=>false
 | x::xs,y::ys=>if x=y then lexLe xs ys else decide (x<=y)
theorem lexLe_cons(x y:Int)(xs ys:List Int):lexLe (x::xs) (y::ys)=if x=y then lexLe xs ys else decide (x<=y):=rfl
theorem lexLe_nil(ys:List Int):lexLe [] ys=true:=by cases ys<;>rfl
theorem kKu(x:Int)(xs:List Int):lexLe (x::xs) []=false:=rfl
theorem qV2(A:Around)(s:Shared)(a:Int)(t:Tok)(c:Int)(u:Tok)(prog:Program)(w:World)(E:Value->Shared->Prop)(Q:Value->Shared->Prop)(h:Q (.bool (decide (a<=c))) s):
  wpAny (model prog w) A (richCompare .LtE (.int a t) (.int c u)) Q E s:=
 (PyProof.Rows.le_int h:wpAny (model prog w) A (compareOp .LtE (.int a t) (.int c u)) Q E s)
section
open PySem.SeqAt
open PySem.AutoSeq1 (wpAny_loadPart')
open PySem.MeetsSeq PySem.MeetsSeq2 PySem.MeetsSeq3
theorem kQl(l b:Addr)(items items2:Array Value)(n n2:Nat)(dd dd2:Option Addr)(sl sl2:Array (Option Value))(ns ms:List Int)(hi:IntsAre items.toList ns)(hj:IntsAre items2.toList ms):
  Meets (Builtin.«tuple.__le__» ⟨[.ref l,.ref b],[]⟩)
   (λ_ R s=>s.heap.get? l=some {cls:= .type "tuple",dict:=dd,data:= .seq items n,slots:=sl}/\s.heap.get? b=some {cls:= .type "tuple",dict:=dd2,data:= .seq items2 n2,slots:=sl2}/\
    R (.ok (.ret (.bool (lexLe ns ms)))) s):=
 .of_wp λprog w A R s h=>by
  obtain⟨hp,g,d,tk,os⟩:=s;obtain⟨hl,hb,h⟩:=h;have f2:=AutoSeq1.sub_tuple_tuple;have z1:items.size=ns.length:=by rw[<-hi.length];simp
  have z2:items2.size=ms.length:=by rw[<-hj.length];simp
  wp_walk using wpAny_loadPart' hl,wpAny_loadPart' hb,wpAny_forIn_list _ (λrest b s'=>b.1=none/\s'=⟨hp,g,d,tk,os⟩/\∃(vs ws:List Value)(ns' ms':List Int),rest=vs.zip ws/\
   IntsAre vs ns'/\IntsAre ws ms'/\ns'.length+items2.size=ms'.length+items.size/\R (.ok (.ret (.bool (lexLe ns' ms')))) ⟨hp,g,d,tk,os⟩) _
  case turn=>
   rintro⟨y,x⟩ rest b s' ⟨hb',rfl,vs,ws,ns',ms',hz,hvi,hwi,hlen,hR⟩;cases hvi with
   | nil=>rw[List.zip_nil_left] at hz;cases hz
   | cons a t hvi'=>
    cases hwi with
    | nil=>rw[List.zip_nil_right] at hz;cases hz
    | cons c u hwi'=>
     rw[List.zip_cons_cons] at hz;injection hz with hyx hrest
     injection hyx with hy hx
     subst hy hx;rw[lexLe_cons] at hR;simp only[lKj] at hlen;obtain⟨e,he,hiff⟩:=qYf A.in1 ⟨hp,g,d,tk,os⟩ a t c u;refine lJa (he prog w _ _ ?_);cases e with
     | true=>
      rw[lJc (hiff.mp rfl)] at hR
      wp_walk
      exact⟨rfl,rfl,_,_,_,_,hrest,hvi',hwi',by omega,hR⟩
     | false=>
      rw[lJb (λq=>absurd (hiff.mpr q) lJl)] at hR
      have hri:=qV2 A.in1 ⟨hp,g,d,tk,os⟩ a t c u prog w
      wp_walk using hri
      exact⟨_,rfl,by simpa using hR⟩
  case fin=>
   rintro⟨b1,b2⟩ s' ⟨hb',rfl,vs,ws,ns',ms',hz,hvi,hwi,hlen,hR⟩;simp only at hb';subst hb'
   have hv:lexLe ns' ms'=decide (items.size<=items2.size):=by
    cases hvi with
    | nil=>
     simp only[lVx] at hlen;rw[lexLe_nil];exact (lKa (by omega)).symm
    | cons a t hv=>
     cases hwi with
     | nil=>
      simp only[lVx,lKj] at hlen;rw[kKu];exact (lJo (by omega)).symm
     | cons c u hw=>
      rw[List.zip_cons_cons] at hz;cases hz
   rw[hv] at hR
   wp_walk
   exact⟨_,rfl,by simpa[Builtin.Tuple.tupleCompareSizes] using hR⟩
  case h=>
   exact⟨rfl,rfl,items.toList,items2.toList,ns,ms,rfl,hi,hj,by omega,h⟩
end
theorem le_tupInts{prog:Program}{w:World}{A:Around}{E:Value->Shared->Prop}{s:Shared}{l b:Addr}{items items2:Array Value}{ns ms:List Int}{Q:Value->Shared->Prop}(hl:IsTup s.heap l items)(hb:IsTup s.heap b items2)(hi:IntsAre items.toList ns)(hj:IntsAre items2.toList ms)
  (hu:A.units<cLine) (h:Q (.bool (lexLe ns ms)) s):wpAny (model prog w) A (compareOp .LtE (.ref l) (.ref b)) Q E s:=by
 obtain⟨⟨cls,dd,data,sl⟩,ho,hc,n,hd⟩:=id hl;obtain⟨⟨cls2,dd2,data2,sl2⟩,ho2,hc2,n2,hd2⟩:=id hb;simp only at hc hd hc2 hd2;subst hc hd hc2 hd2
 exact richCompare_meets_room (op:= .LtE) ⟨_,ho,rfl⟩ ⟨_,ho2,rfl⟩ PySem.F.slot_tuple_le PySem.F.entry_tuple_le (PySem.F.args_tuple_le_2 _ _) (kQl l b items items2 n n2 dd dd2 sl sl2 ns ms hi hj)
  ⟨ho,ho2,show Value.bool (lexLe ns ms)≠Value.notImplemented/\Q (.bool (lexLe ns ms)) s from⟨(λx=>nomatch x),h⟩⟩ hu
end HT
namespace L3
open PySem PySem.Spec PyProof.Rows L2
section
variable {X:Cx}
theorem jUj{K:PySem.W.Frag}{H:Hp}:∀{ns:List Int}{vs:List V},Reps K H (ns.map T.int) vs->vs=ns.map V.int
 | [],_,h=>h
 | n::ns,_,⟨v,ws,e,r,rs⟩=>by
  subst e;cases (show v= .int n from r)
  rw[jUj rs];rfl
def rLeT:R3:=λx y G Q=>∃ns ms,x= .tup (ns.map T.int)/\y= .tup (ms.map T.int)/\Q (.bl (HT.lexLe ns ms)) G
theorem uVt(hu:X.A.units<cLine):Op3 X (compareOp .LtE) rLeT:=by
 rintro pins s τ G H x y v u Q ⟨σ,I,hs,hg⟩ ⟨a,ra,rv⟩ ⟨b,rb,ru⟩ ⟨ns,ms,ex,ey,q⟩;subst ex;subst ey;obtain⟨p,vs,e1,h1,h2⟩:=(show ∃p vs,a= .ref p/\H p=some (.tup vs)/\Reps X.K H (ns.map T.int) vs from ra)
 obtain⟨p',ws,e2,h3,h4⟩:=(show ∃p vs,b= .ref p/\H p=some (.tup vs)/\Reps X.K H (ms.map T.int) vs from rb)
 subst e1;subst e2;cases rv;cases ru;rw[jUj h2] at h1;rw[jUj h4] at h3;obtain⟨its,r1,p1,_⟩:=I.tuple (.of h1);obtain⟨its2,r2,p2,_⟩:=I.tuple (.of h3);exact HT.le_tupInts p1 p2 (show IntsAre its.toArray.toList ns from kQb r1) (show IntsAre its2.toArray.toList ms from kQb r2) hu ⟨.bl _,G,H,.refl H,⟨σ,I,hs,hg⟩,⟨.bl _,rfl,rfl⟩,q⟩
def rLeI:R3:=rI0 λi j=> .bl (decide (i<=j))
def rLeA:R3:=λx y G Q=>rLeI x y G Q\/rLeT x y G Q
theorem uVu(hu:X.A.units+20<cLine):Op3 X (compareOp .LtE) rLeA:=o_le.or (uVt (by omega))
theorem qUk{G:Gp}{x y:T}{b:Bool}(h:eqG G x y=some b):
  (∃p q xs ys,x= .ref p/\y= .ref q/\G p=some (.lst xs)/\G q=some (.lst ys)/\kJ5 xs=true/\kJ5 ys=true/\b=eqTs xs ys)\/(eqOk x=true/\eqOk y=true/\b=eqT x y):=by
 by_cases hr:∃p q,x= .ref p/\y= .ref q
 .obtain⟨p,q,ex,ey⟩:=hr;subst ex;subst ey;refine .inl ?_;simp only[eqG] at h;split at h
  .rename_i xs ys h1 h2
   split at h
   .rename_i hc
    cases h;exact⟨p,q,xs,ys,rfl,rfl,h1,h2,hc.1,hc.2,rfl⟩
   .cases h
  .cases h
 .refine .inr ?_
  have e:eqG G x y=if eqOk x=true/\eqOk y=true then some (eqT x y) else none:=by
   cases x with
   | ref p=>cases y with
    | ref q=>exact absurd ⟨p,q,rfl,rfl⟩ hr
    | _=>rfl
   | _=>rfl
  rw[e] at h;split at h
  .rename_i hc
   cases h;exact⟨hc.1,hc.2,rfl⟩
  .cases h
mutual
theorem kXn{X:Cx}{pins:List (Addr×Obj)}{σ:L2.St}{H:Hp}{s:Shared}(I:Inv X pins σ H s):∀(x:T){a:V}{u:Value},tree x=true->Rep X.K H x a->RelV a u->∃as,Reads s.heap u (td x) as
 | .non,a,u,_,r,q=>by cases (show a= .non from r);cases q;exact⟨_,.none⟩
 | .bl b,a,u,_,r,q=>by cases (show a= .bl b from r);cases q;exact⟨_,.bool b⟩
 | .int b,a,u,_,r,q=>by cases (show a= .int b from r);obtain⟨t,rfl⟩:=q;exact⟨_,.int b t⟩
 | .str b,a,u,_,r,q=>by cases (show a= .str b from r);obtain⟨t,rfl⟩:=q;exact⟨_,.str b t⟩
 | .tup xs,a,u,ht,r,q=>by
  obtain⟨p,vs,e1,h1,h2⟩:=(show ∃p vs,a= .ref p/\H p=some (.tup vs)/\Reps X.K H xs vs from r)
  subst e1;cases q;obtain⟨its,rv,⟨o,ho,hc,n,hd⟩,_⟩:=I.tuple (.of h1);obtain⟨as,ra⟩:=jZs I xs (show jQv xs=true from ht) h2 rv
  exact⟨_,.tuple ho hc hd (by simpa using ra)⟩
 | .ref _,_,_,ht,_,_=>absurd (show false=true from ht) lJl
 | .scr _,_,_,ht,_,_=>absurd (show false=true from ht) lJl
 | .ty _,_,_,ht,_,_=>absurd (show false=true from ht) lJl
theorem jZs{X:Cx}{pins:List (Addr×Obj)}{σ:L2.St}{H:Hp}{s:Shared}(I:Inv X pins σ H s):∀(xs:List T){vs:List V}{us:List Value},jQv xs=true->Reps X.K H xs vs->Vals vs us->∃as,ReadsAll s.heap us (tds xs) as
 | [],_,_,_,r,q=>by cases r;cases q;exact⟨_,.nil⟩
 | x::xs,_,_,ht,⟨v,ws,e,r1,r2⟩,q=>by
  subst e;cases q with
  | cons q1 q2=>
   have hx:tree x=true/\jQv xs=true:=by simpa[jQv] using ht
   obtain⟨as,ra⟩:=kXn I x hx.1 r1 q1;obtain⟨bs,rb⟩:=jZs I xs hx.2 r2 q2;exact⟨_,.cons ra rb⟩
end
mutual
theorem uUp:∀(x y:T),tree x=true->tree y=true->PyData.eqv (td x) (td y)=eqT x y
 | .non,y,_,hy=>by cases y<;>first | rfl | exact absurd (show false=true from hy) lJl
 | .bl b,y,_,hy=>by cases y<;>first | rfl | exact absurd (show false=true from hy) lJl
 | .int b,y,_,hy=>by cases y<;>first | rfl | exact absurd (show false=true from hy) lJl
 | .str b,y,_,hy=>by cases y<;>first | rfl | exact absurd (show false=true from hy) lJl
 | .tup xs,y,hx,hy=>by
  cases y with
  | tup ys=>exact qUi xs ys (show jQv xs=true from hx) (show jQv ys=true from hy)
  | _=>first | rfl | exact absurd (show false=true from hy) lJl
 | .ref _,_,ht,_=>absurd (show false=true from ht) lJl
 | .scr _,_,ht,_=>absurd (show false=true from ht) lJl
 | .ty _,_,ht,_=>absurd (show false=true from ht) lJl
theorem qUi:∀(xs ys:List T),jQv xs=true->jQv ys=true->PyData.eqvAll (tds xs) (tds ys)=eqTs xs ys
 | [],[],_,_=>rfl
 | [],_::_,_,_=>rfl
 | _::_,[],_,_=>rfl
 | x::xs,y::ys,hx,hy=>by
  have hx':tree x=true/\jQv xs=true:=by simpa[jQv] using hx
  have hy':tree y=true/\jQv ys=true:=by simpa[jQv] using hy
  show (PyData.eqv (td x) (td y)&&PyData.eqvAll (tds xs) (tds ys))=(eqT x y&&eqTs xs ys)
  rw[uUp x y hx'.1 hy'.1,qUi xs ys hx'.2 hy'.2]
end
theorem kZo{pins:List (Addr×Obj)}{σ:L2.St}{H:Hp}{s:Shared}{G:Gp}{x y:T}{a b:V}{u v:Value}{k:Bool}(I:Inv X pins σ H s)(hg:GRel X.K H G)(ra:Rep X.K H x a)(rb:Rep X.K H y b)(ru:RelV a u)(rv:RelV b v)(h:eqG G x y=some k):
  ∃da db as bs,Reads s.heap u da as/\Reads s.heap v db bs/\da.canLay0=true/\db.canLay0=true/\da.depth<=50/\PyData.eqv da db=k:=by
 rcases qUk h with ⟨p,q,xs,ys,ex,ey,hp,hq,ox,oy,e⟩ | ⟨ox,oy,e⟩
 .subst ex;subst ey;cases (show a= .ref p from ra);cases (show b= .ref q from rb)
  cases ru;cases rv;obtain⟨vs,h1,h2⟩:=hg.lst hp;obtain⟨ws,h3,h4⟩:=hg.lst hq;obtain⟨its,r1,⟨o,n,ho,hc,_,hd⟩,_⟩:=I.list (.of h1);obtain⟨its',r2,⟨o',n',ho',hc',_,hd'⟩,_⟩:=I.list (.of h3);simp only[kJ5,lKl,lX9] at ox oy;obtain⟨as,r3⟩:=jZs I xs ox.1.1 h2 r1;obtain⟨bs,r4⟩:=jZs I ys oy.1.1 h4 r2;exact⟨.list (tds xs),.list (tds ys),_,_,.list ho hc hd (by simpa using r3),.list ho' hc' hd' (by simpa using r4),ox.1.2,oy.1.2,ox.2,by rw[e];exact qUi xs ys ox.1.1 oy.1.1⟩
 .simp only[eqOk,lKl,lX9] at ox oy;obtain⟨as,r3⟩:=kXn I x ox.1.1 ra ru;obtain⟨bs,r4⟩:=kXn I y oy.1.1 rb rv;exact⟨td x,td y,_,_,r3,r4,ox.1.2,oy.1.2,ox.2,by rw[e];exact uUp x y ox.1.1 oy.1.1⟩
theorem jZk(hu:X.A.units+64<cLine):Op3 X (compareOp .Eq) rEqA:=by
 rintro pins s τ G H x y v u Q ⟨σ,I,hs,hg⟩ ⟨a,ra,rv⟩ ⟨b,rb,ru⟩ ⟨k,hk,q⟩;obtain⟨da,db,as,bs,r1,r2,c1,c2,d,e⟩:=kZo I hg ra rb rv ru hk;exact SeqAt.compareEq_reads r1 r2 c1 c2 (by omega) ⟨.bl k,G,H,.refl H,⟨σ,I,hs,hg⟩,⟨.bl k,rfl,by rw[e];rfl⟩,q⟩
theorem jY3(hu:X.A.units+64<cLine):Op3 X (compareOp .NotEq) rNeA:=by
 rintro pins s τ G H x y v u Q ⟨σ,I,hs,hg⟩ ⟨a,ra,rv⟩ ⟨b,rb,ru⟩ ⟨k,hk,q⟩;obtain⟨da,db,as,bs,r1,r2,c1,c2,d,e⟩:=kZo I hg ra rb rv ru hk;exact SeqAt.compareNe_reads r1 r2 c1 c2 (by omega) ⟨.bl (!k),G,H,.refl H,⟨σ,I,hs,hg⟩,⟨.bl (!k),rfl,by rw[e];rfl⟩,q⟩
end
section
variable {X:Cx}
def jVd:T->Bool
 | .non=>true
 | .bl _=>true
 | .int _=>true
 | .str _=>true
 | _=>false
theorem jXo{K:PySem.W.Frag}{H:Hp}{x:T}{a:V}(r:Rep K H x a)(f:jVd x=true):kKw a=true:=by
 cases x with
 | non=>cases (show a= .non from r);rfl
 | bl _=>cases (show a= .bl _ from r);rfl
 | int _=>cases (show a= .int _ from r);rfl
 | str _=>cases (show a= .str _ from r);rfl
 | _=>exact absurd (show false=true from f) lJl
theorem kYd{K:PySem.W.Frag}{H:Hp}{x y:T}{a b:V}(r:Rep K H x a)(q:Rep K H y b)(f:jVd x=true)(g:jVd y=true):eqV a b=eqT x y:=by
 cases x with
 | non=>cases (show a= .non from r);cases y with
  | non=>cases (show b= .non from q);rfl
  | bl _=>cases (show b= .bl _ from q);rfl
  | int _=>cases (show b= .int _ from q);rfl
  | str _=>cases (show b= .str _ from q);rfl
  | _=>exact absurd (show false=true from g) lJl
 | bl _=>cases (show a= .bl _ from r);cases y with
  | non=>cases (show b= .non from q);rfl
  | bl _=>cases (show b= .bl _ from q);rfl
  | int _=>cases (show b= .int _ from q);rfl
  | str _=>cases (show b= .str _ from q);rfl
  | _=>exact absurd (show false=true from g) lJl
 | int _=>cases (show a= .int _ from r);cases y with
  | non=>cases (show b= .non from q);rfl
  | bl _=>cases (show b= .bl _ from q);rfl
  | int _=>cases (show b= .int _ from q);rfl
  | str _=>cases (show b= .str _ from q);rfl
  | _=>exact absurd (show false=true from g) lJl
 | str _=>cases (show a= .str _ from r);cases y with
  | non=>cases (show b= .non from q);rfl
  | bl _=>cases (show b= .bl _ from q);rfl
  | int _=>cases (show b= .int _ from q);rfl
  | str _=>cases (show b= .str _ from q);rfl
  | _=>exact absurd (show false=true from g) lJl
 | _=>exact absurd (show false=true from f) lJl
def inT(x:T)(xs:List T):Bool:=xs.any λy=>eqT y x
theorem jZu{K:PySem.W.Frag}{H:Hp}{x:T}{a:V}(r:Rep K H x a)(f:jVd x=true):∀{xs:List T}{vs:List V},Reps K H xs vs->xs.all jVd=true->vs.all kKw=true/\inV a vs=inT x xs
 | [],_,h,_=>by cases h;exact⟨rfl,rfl⟩
 | y::ys,_,⟨v,ws,e,r1,r2⟩,g=>by
  subst e;rw[lQl,lKl] at g;obtain⟨h1,h2⟩:=jZu r f r2 g.2;refine⟨by rw[lQl,jXo r1 g.1,h1];rfl,?_⟩
  unfold inV inT at h2 ⊢;rw[lK3,lK3,kYd r1 r g.1 f,h2]
def rInF(neg:Bool):R3:=λx y G Q=>∃xs,seqT G y=some xs/\jVd x=true/\xs.all jVd=true/\Q (.bl (if neg then !inT x xs else inT x xs)) G
theorem qQ4{neg:Bool}{op:CmpOp}(h:OpR X (compareOp op) (L2.rIn X.K neg)):Op3 X (compareOp op) (rInF neg):=
 Op3.of h λH G x y a b Q hg ra rb ⟨xs,hx,fx,fs,q⟩=>by
  obtain⟨p,vs,e,hq,r⟩:=jU6 hg rb hx;obtain⟨h1,h2⟩:=jZu ra fx r fs;exact⟨p,vs,e,hq,jXo ra fx,h1,.bl _,G,.refl H,hg,by rw[h2];rfl,q⟩
theorem o_inF:Op3 X (compareOp .In) (rInF false):=qQ4 qQh
theorem o_notInF:Op3 X (compareOp .NotIn) (rInF true):=qQ4 kU8
def kT:Key->T
 | .inl i=> .int i
 | .inr x=> .str x
def jZl:T->Option Key
 | .int i=>some (.inl i)
 | .str x=>some (.inr x)
 | _=>none
def allK{K:Type}(f:T->Option K):List T->Option (List K)
 | []=>some []
 | x::xs=>match f x,allK f xs with
  | some k,some ks=>some (k::ks)
  | _,_=>none
def key1:T->Option K1
 | .tup ts=>(allK jZl ts).map .inr
 | x=>(jZl x).map .inl
def key2:T->Option K2
 | .tup ts=>(allK key1 ts).map .inr
 | x=>(jZl x).map .inl
def jVy:List T->Option TKey:=allK key2
theorem jYr{K:PySem.W.Frag}{H:Hp}{x:T}{a:V}{k:Key}(h:jZl x=some k)(r:Rep K H x a):a=kV k:=by
 cases x with
 | int i=>cases h;exact r
 | str i=>cases h;exact r
 | non=>cases h
 | bl _=>cases h
 | tup _=>cases h
 | scr _=>cases h
 | ref _=>cases h
 | ty _=>cases h
theorem jZz{K:PySem.W.Frag}{H:Hp}{κ:Type}{f:T->Option κ}{R:κ->V->Prop}(hf:∀x k a,f x=some k->Rep K H x a->R k a):∀{xs:List T}{vs:List V}{ks:List κ},allK f xs=some ks->Reps K H xs vs->Paired R ks vs
 | [],_,_,h,r=>by cases h;cases (show _=[] from r);exact .nil
 | x::xs,_,ks,h,⟨v,ws,e,r1,r2⟩=>by
  subst e;unfold allK at h;cases e1:f x with
  | none=>rw[e1] at h;cases h
  | some k=>
   cases e2:allK f xs with
   | none=>rw[e1,e2] at h;cases h
   | some ks'=>
    rw[e1,e2] at h;cases h;exact .cons (hf _ _ _ e1 r1) (jZz hf e2 r2)
theorem qXw{K:PySem.W.Frag}{H:Hp}(x:T)(k:K1)(a:V)(h:key1 x=some k)(r:Rep K H x a):Rk1 H k a:=by
 cases x with
 | tup ts=>
  obtain⟨ks,h1,rfl⟩:=lVj.mp (show (allK jZl ts).map Sum.inr=some k from h)
  obtain⟨p,vs,e,h3,h4⟩:=(show ∃p vs,a= .ref p/\H p=some (.tup vs)/\Reps K H ts vs from r)
  exact⟨p,vs,e,h3,jZz (λx k a h r=>jYr h r) h1 h4⟩
 | int i=>cases h;exact r
 | str i=>cases h;exact r
 | non=>cases h
 | bl _=>cases h
 | scr _=>cases h
 | ref _=>cases h
 | ty _=>cases h
theorem qXv{K:PySem.W.Frag}{H:Hp}(x:T)(k:K2)(a:V)(h:key2 x=some k)(r:Rep K H x a):Rk2 H k a:=by
 cases x with
 | tup ts=>
  obtain⟨ks,h1,rfl⟩:=lVj.mp (show (allK key1 ts).map Sum.inr=some k from h)
  obtain⟨p,vs,e,h3,h4⟩:=(show ∃p vs,a= .ref p/\H p=some (.tup vs)/\Reps K H ts vs from r)
  exact⟨p,vs,e,h3,jZz qXw h1 h4⟩
 | int i=>cases h;exact r
 | str i=>cases h;exact r
 | non=>cases h
 | bl _=>cases h
 | scr _=>cases h
 | ref _=>cases h
 | ty _=>cases h
theorem jVa{K:PySem.W.Frag}{H:Hp}{xs:List T}{vs:List V}{ks:TKey}{p:Addr}(h:jVy xs=some ks)(e:H p=some (.tup vs))(r:Reps K H xs vs):TKeyAt H ks p:=⟨vs,e,jZz qXv h r⟩
def valT{κ:Type}[DecidableEq κ](kvs:List (κ×T))(k:κ):Option T:=(kvs.find? λkv=>decide (kv.1=k)).map (·.2)
noncomputable def putT{κ:Type}[DecidableEq κ](kvs:List (κ×T))(k:κ)(v:T):List (κ×T):=
 if (kvs.any λkv=>decide (kv.1=k))=true then kvs.map (λkv=>if kv.1=k then (kv.1,v) else kv) else kvs++[(k,v)]
theorem PKV.val{κ:Type}[DecidableEq κ]{K:PySem.W.Frag}{H:Hp}{kvs:List (κ×T)}{ws:List (κ×V)}(r:PKV K H kvs ws)(k:κ):(∀t,valT kvs k=some t->∃v,valV ws k=some v/\Rep K H t v)/\(valT kvs k).isSome=(valV ws k).isSome:=by
 unfold PKV at r
 induction r with
 | nil=>exact⟨λt h=>by simp[valT] at h,rfl⟩
 | @cons p q ps qs h t ih=>
  by_cases e:p.1=k
  .have e':q.1=k:=h.1.symm.trans e;have b:valT (p::ps) k=some p.2:=by simp[valT,lKm,e]
   rw[b,jZp e'];exact⟨λt ht=>by cases ht;exact⟨q.2,rfl,h.2⟩,rfl⟩
  .have e':¬ q.1=k:=λz=>e (h.1.trans z)
   have b:valT (p::ps) k=valT ps k:=by simp[valT,lKm,e]
   rw[b,jZq e'];exact ih
theorem PKV.any{κ:Type}[DecidableEq κ]{K:PySem.W.Frag}{H:Hp}{kvs:List (κ×T)}{ws:List (κ×V)}(r:PKV K H kvs ws)(k:κ):(kvs.any λkv=>decide (kv.1=k))=ws.any λkv=>decide (kv.1=k):=by
 unfold PKV at r
 induction r with
 | nil=>rfl
 | cons h t ih=>rw[lK3,lK3,ih,h.1]
theorem PKV.put{κ:Type}[DecidableEq κ]{K:PySem.W.Frag}{H:Hp}{kvs:List (κ×T)}{ws:List (κ×V)}(r:PKV K H kvs ws)(k:κ){t:T}{v:V}(rt:Rep K H t v):PKV K H (putT kvs k t) (putK ws k v):=by
 unfold putT putK;rw[r.any k]
 by_cases e:(ws.any λkv=>decide (kv.1=k))=true
 .rw[lJc e,lJc e];unfold PKV at r ⊢;clear e
  induction r with
  | nil=>exact .nil
  | @cons p q ps qs h t' ih=>
   rw[lJv,lJv];refine .cons ?_ ih;obtain⟨h1,h2⟩:=h
   by_cases e:p.1=k
   .rw[lJc e,lJc (h1.symm.trans e)];exact⟨h1,rt⟩
   .rw[lJb e,lJb (λz=>e (h1.trans z))];exact⟨h1,h2⟩
 .rw[lJb e,lJb e];exact Paired.snoc r ⟨rfl,rt⟩
theorem PKV.length{κ:Type}{K:PySem.W.Frag}{H:Hp}{kvs:List (κ×T)}{ws:List (κ×V)}(r:PKV K H kvs ws):kvs.length=ws.length:=lQq r
noncomputable def dAt(G:Gp)(x y:T):Option (Option T):=match x with
 | .ref p=>match G p with
  | some (.dct kvs)=>match y with
   | .tup ys=>match jVy ys with
    | some ks=>some (valT kvs ks)
    | none=>none
   | _=>none
  | some (.dck kvs)=>match jZl y with
   | some k=>some (valT kvs k)
   | none=>none
  | some (.fdc kvs)=>match y with
   | .tup ys=>match jVy ys with
    | some ks=>some (valT kvs ks)
    | none=>none
   | _=>none
  | _=>none
 | _=>none
theorem kKa{K:PySem.W.Frag}{H:Hp}{G:Gp}{x y:T}{a b:V}{o:Option T}(hg:GRel K H G)(ra:Rep K H x a)(rb:Rep K H y b)(h:dAt G x y=some o):
  ∃p ov,a= .ref p/\DGet H p b ov/\o.isSome=ov.isSome/\∀t,o=some t->∃v,ov=some v/\Rep K H t v:=by
 unfold dAt at h;split at h
 .rename_i p
  cases (show a= .ref p from ra)
  split at h
  .rename_i kvs hG
   split at h
   .rename_i ys
    split at h
    .rename_i ks hk
     cases h;obtain⟨ws,h1,h2⟩:=hg p _ hG;obtain⟨q,vs,e,h3,h4⟩:=(show ∃q vs,b= .ref q/\H q=some (.tup vs)/\Reps K H ys vs from rb)
     subst e;exact⟨p,_,rfl,DGet.t h1 (jVa hk h3 h4),(h2.val ks).2,(h2.val ks).1⟩
    .cases h
   .cases h
  .rename_i kvs hG
   split at h
   .rename_i k hk
    cases h;obtain⟨ws,h1,h2⟩:=hg p _ hG;rw[jYr hk rb];exact⟨p,_,rfl,DGet.k h1,(h2.val k).2,(h2.val k).1⟩
   .cases h
  .rename_i kvs hG
   split at h
   .rename_i ys
    split at h
    .rename_i ks hk
     cases h;obtain⟨ob,ws,h1,h2⟩:=(show ∃ob ws,H p=some (.frz ob (.dT ws))/\PKV K H kvs ws from hg p _ hG)
     obtain⟨q,vs,e,h3,h4⟩:=(show ∃q vs,b= .ref q/\H q=some (.tup vs)/\Reps K H ys vs from rb)
     subst e;exact⟨p,_,rfl,.inr ⟨ws,ks,q,.inr ⟨ob,h1⟩,rfl,jVa hk h3 h4,rfl⟩,(h2.val ks).2,(h2.val ks).1⟩
    .cases h
   .cases h
  .cases h
 .cases h
def uQk:R3:=λx y G Q=>∃t,dAt G x y=some (some t)/\Q t G
theorem uJt(hu:X.A.units+20<cLine):Ix3 X uQk:=by
 rintro value slice pins s τ G H x y v u Q ⟨σ,I,hs,hg⟩ ⟨a,ra,rv⟩ ⟨b,rb,ru⟩ ⟨t,hd,q⟩ hsl;obtain⟨p,ov,e,g,_,hh⟩:=kKa hg ra rb hd;obtain⟨w,ew,rw'⟩:=hh t rfl;subst e;subst ew;cases rv;have hT:s.TypeIs (.ref p) "dict":=kYj I g;unfold subscriptTail;refine lJa ?_;rw[getitemInPython_of_ne hT.not_modules];refine lJa (lQo hT PySem.F.slot_dict_getitem.lookup ?_)
 have fin:wpAny (model X.prog X.w) X.A (subscripted slice false (.ref p) u) (λr s₃=>wpAny (model X.prog X.w) X.A (letTemporaryGo value (.ref p) r >>= λ_=>pure r) (EP3 X pins τ H Q) X.xe s₃) X.xe s:=by
  rw[hsl];exact wpAny_operating (qUu hu I g ru λw' s' I' r'=>lJa (wpAny_letTemporaryGo (lJd ⟨t,G,H,.refl H,⟨σ,I',hs,hg⟩,⟨w,rw',r'⟩,q⟩)))
 first
  | exact lJd (lJa fin)
  | exact lJa (lJd (lJa fin))
  | exact lJa fin
theorem Ix3.or{r r':R3}(h:Ix3 X r)(h':Ix3 X r'):Ix3 X (λx y G Q=>r x y G Q\/r' x y G Q):=by
 intro value slice pins s τ G H x y v u Q I rx ry q hs
 rcases q with q | q
 .exact h value slice pins s τ G H x y v u Q I rx ry q hs
 .exact h' value slice pins s τ G H x y v u Q I rx ry q hs
def rIxA:R3:=λx y G Q=>rIx x y G Q\/uQk x y G Q
theorem uJu(hu:X.A.units+20<cLine):Ix3 X rIxA:=ix_any.or (uJt hu)
def rDIn:R3:=λx y G Q=>∃o,dAt G y x=some o/\Q (.bl o.isSome) G
def qQc:R3:=λx y G Q=>∃o,dAt G y x=some o/\Q (.bl (!o.isSome)) G
theorem uVv(hu:X.A.units+20<cLine):Op3 X (compareOp .In) rDIn:=by
 rintro pins s τ G H x y v u Q ⟨σ,I,hs,hg⟩ ⟨a,ra,rv⟩ ⟨b,rb,ru⟩ ⟨o,hd,q⟩;obtain⟨p,ov,e,g,e2,_⟩:=kKa hg rb ra hd;subst e;cases ru;exact d_in hu I g rv λs' I'=>⟨.bl _,G,H,.refl H,⟨σ,I',hs,hg⟩,⟨.bl _,rfl,by rw[<-e2];rfl⟩,q⟩
theorem qXg(hu:X.A.units+20<cLine):Op3 X (compareOp .NotIn) qQc:=by
 rintro pins s τ G H x y v u Q ⟨σ,I,hs,hg⟩ ⟨a,ra,rv⟩ ⟨b,rb,ru⟩ ⟨o,hd,q⟩;obtain⟨p,ov,e,g,e2,_⟩:=kKa hg rb ra hd;subst e;cases ru;exact uKf hu I g rv λs' I'=>⟨.bl _,G,H,.refl H,⟨σ,I',hs,hg⟩,⟨.bl _,rfl,by rw[<-e2];rfl⟩,q⟩
def rInL:R3:=λx y G Q=>rInF false x y G Q\/rDIn x y G Q
def qK6:R3:=λx y G Q=>rInF true x y G Q\/qQc x y G Q
theorem o_in(hu:X.A.units+20<cLine):Op3 X (compareOp .In) rInL:=o_inF.or (uVv hu)
theorem uJk(hu:X.A.units+20<cLine):Op3 X (compareOp .NotIn) qK6:=o_notInF.or (qXg hu)
def jZ5:TE3:=λ_ G Q=>(∀p,G p=none->Q (.ref p) (gup G p (.dct [])))\/∀p,G p=none->Q (.ref p) (gup G p (.dck []))
theorem uUv{pos:Pos}:PE3 X (.Dict [] [] pos) jZ5:=by
 rintro pins s τ G H Q ⟨σ,I,hs,hg⟩ h
 rcases h with h | h
 .exact thn (qV9 pins s σ H (up X.K H Q) I λp hp=>⟨.ref p,_,.upd (.none hp),hg.upd (.none hp) (go:= .dct []) ⟨[],jJy,.nil⟩,rfl,h p (hg.fresh hp)⟩) λu s' z=>jVq hs z
 .exact thn (qXa pins s σ H (up X.K H Q) I λp hp=>⟨.ref p,_,.upd (.none hp),hg.upd (.none hp) (go:= .dck []) ⟨[],jJy,.nil⟩,rfl,h p (hg.fresh hp)⟩) λu s' z=>jVq hs z
noncomputable def qY4:T->T->T->Gp->(Gp->Prop)->Prop:=λo i v G Q=>∃p ys ks kvs,o= .ref p/\i= .tup ys/\jVy ys=some ks/\G p=some (.dct kvs)/\kvs.length<sizeLine/\Q (gup G p (.dct (putT kvs ks v)))
def qY5:T->T->T->Gp->(Gp->Prop)->Prop:=λo i v G Q=>∃p k kvs,o= .ref p/\jZl i=some k/\G p=some (.dck kvs)/\kvs.length<sizeLine/\Q (gup G p (.dck (putT kvs k v)))
theorem qZ0(hu:X.A.units+20<cLine):Set3 X qY4:=by
 rintro pins s τ G H o i v ov iv u Q ⟨σ,I,hs,hg⟩ ⟨a,ra,rv⟩ ⟨b,rb,ru⟩ ⟨c,rc,rw'⟩ ⟨p,ys,ks,kvs,eo,ei,hk,hG,hz,q⟩;subst eo;subst ei;cases (show a= .ref p from ra);cases rv
 obtain⟨ws,h1,h2⟩:=hg p _ hG;obtain⟨b',vs,e,h3,h4⟩:=(show ∃q vs,b= .ref q/\H q=some (.tup vs)/\Reps X.K H ys vs from rb)
 subst e;have h3:=jVa hk h3 h4;have e:Ext H (upd H p (.dT (putK ws ks c))):= .upd (.dT h1);exact kVx hu I (DPut.t h1 h3 (by rw[<-h2.length];exact hz)) ru rw' λs' I'=>⟨_,_,e,⟨σ,I',hs.mono e,hg.upd (.dT h1) (go:= .dct (putT kvs ks v)) ⟨_,jJy,(h2.put ks rc).mono e⟩⟩,q⟩
theorem qZ1(hu:X.A.units+20<cLine):Set3 X qY5:=by
 rintro pins s τ G H o i v ov iv u Q ⟨σ,I,hs,hg⟩ ⟨a,ra,rv⟩ ⟨b,rb,ru⟩ ⟨c,rc,rw'⟩ ⟨p,k,kvs,eo,hk,hG,hz,q⟩;subst eo;cases (show a= .ref p from ra);cases rv
 obtain⟨ws,h1,h2⟩:=hg p _ hG;have eb:=jYr hk rb;subst eb;have e:Ext H (upd H p (.dK (putK ws k c))):= .upd (.dK h1);exact kVx hu I (DPut.k h1 (by rw[<-h2.length];exact hz)) ru rw' λs' I'=>⟨_,_,e,⟨σ,I',hs.mono e,hg.upd (.dK h1) (go:= .dck (putT kvs k v)) ⟨_,jJy,(h2.put k rc).mono e⟩⟩,q⟩
theorem Set3.or{r r':T->T->T->Gp->(Gp->Prop)->Prop}(h:Set3 X r)(h':Set3 X r'):Set3 X (λo i v G Q=>r o i v G Q\/r' o i v G Q):=by
 intro pins s τ G H o i v ov iv u Q I ro ri rv q
 rcases q with q | q
 .exact h pins s τ G H o i v ov iv u Q I ro ri rv q
 .exact h' pins s τ G H o i v ov iv u Q I ro ri rv q
def uQh:T->T->T->Gp->(Gp->Prop)->Prop:=λo i v G Q=>qV3 o i v G Q\/qY4 o i v G Q\/qY5 o i v G Q
theorem uVg(hu:X.A.units+20<cLine):Set3 X uQh:=s_list.or ((qZ0 hu).or (qZ1 hu))
end
section
variable {X:Cx}
abbrev TO3:=St3->Gp->(Option Int->Gp->Prop)->Prop
def PO3(X:Cx)(e:Option Expr)(t:TO3):Prop:=
 ∀(pins:List (Addr×Obj))(s:Shared)(τ:St3)(G:Gp)(H:Hp)(Q:Option Int->Gp->Prop),Inv3 X pins τ G H s->t τ G Q->
  wpAny (model X.prog X.w) X.A (evalPart e X.env) (λu s'=>∃o G' H',Ext H H'/\Inv3 X pins τ G' H' s'/\IsPart u o/\Q o G') X.xe s
def kXj:TO3:=λ_ G Q=>Q none G
def qKi(t:TE3):TO3:=λτ G Q=>t τ G λx G1=>∃i,x= .int i/\Q (some i) G1
theorem uQq:PO3 X none kXj:=by
 intro pins s τ G H Q I h;rw[evalPart_none];exact lJd ⟨none,G,H,.refl H,I,.none,h⟩
theorem qQg{e:Expr}{te:TE3}(h:PE3 X e te):PO3 X (some e) (qKi te):=by
 intro pins s τ G H Q I hw;rw[evalPart_some];refine thn (h pins s τ G H _ I hw) λu s1 w_=>w_.el λx G1 H1 e1 I1 r_ ⟨i,ex,q⟩=>r_.el λv rv ru=> ?_
 subst ex;cases (show v= .int i from rv)
 obtain⟨t,rfl⟩:=ru;exact⟨some i,G1,H1,e1,I1,.int i t,q⟩
def Sl3(X:Cx)(r:T->Option Int->Option Int->Gp->VK3->Prop):Prop:=
 ∀(pins:List (Addr×Obj))(s:Shared)(τ:St3)(G:Gp)(H:Hp)(x:T)(v vl vu:Value)(lo hi:Option Int)(sl:Addr)(Q:VK3),Inv3 X pins τ G H s->RU X.K H x v->s.heap.IsSliceOf sl vl vu .none->IsPart vl lo->IsPart vu hi->r x lo hi G Q->
  ∃T id,typeLookup (.type T) "__getitem__"=pure (some (.builtin id))/\s.TypeIs v T/\wpAny (model X.prog X.w) X.A (getItem v (.ref sl)) (EP3 X pins τ H Q) X.xe s
def tSl(r:T->Option Int->Option Int->Gp->VK3->Prop)(te:TE3)(tl th:TO3):TE3:=λτ G Q=>te τ G λx G1=>tl τ G1 λl G2=>th τ G2 λu G3=>r x l u G3 Q
theorem qUo{r:T->Option Int->Option Int->Gp->VK3->Prop}{e:Expr}{te:TE3}{lo hi:Option Expr}{tl th:TO3}{pos p2:Pos}(hr:Sl3 X r)(he:PE3 X e te)(hl:PO3 X lo tl)(hu:PO3 X hi th):PE3 X (.Subscript e (.Slice lo hi none p2) pos) (tSl r te tl th):=by
 intro pins s τ G H Q I h;refine Subscript_ (thn (he pins s τ G H _ I h) λv s1 w_=>w_.el λx G1 H1 e1 I1 r1 q1=> ?_)
 refine wpAny_Slice (thn (hl pins s1 τ G1 H1 _ I1 q1) λvl s2 ⟨l,G2,H2,e2,I2,pl,q2⟩=>thn (hu pins s2 τ G2 H2 _ I2 q2) λvu s3 ⟨u,G3,H3,e3,⟨σ,I3,hs3,hg3⟩,pu,q3⟩=> ?_)
 rw[evalPart_none];refine lJd ?_;have I4:Inv X pins σ H3 {s3 with heap:=s3.heap.push {cls:= .type "slice",data:= .fields #[vl,vu,.none]} }:=I3.kept (t':=s3.toks) λb ob q=>lJj _ q
 obtain⟨T0,id,hT,ht,hg⟩:=hr pins {s3 with heap:=s3.heap.push {cls:= .type "slice",data:= .fields #[vl,vu,.none]} } τ G3 H3 x v vl vu l u s3.heap.objs.size Q ⟨σ,I4,hs3,hg3⟩ ((r1.mono e2).mono e3) (Heap.IsSliceOf.new ..) pl pu q3
 show wpAny (model X.prog X.w) X.A (subscriptTail e (.Slice lo hi none p2) v (.ref s3.heap.objs.size)) (EP3 X pins τ H Q) X.xe {s3 with heap:=s3.heap.push {cls:= .type "slice",data:= .fields #[vl,vu,.none]} }
 exact thn (tail_any (ops:=[.ref s3.heap.objs.size,v]) ht hT hg (by with_unfolding_all rfl)) λ_ _ z=>z.ext ((e1.trans e2).trans e3)
def cutT(xs:List T)(lo hi:Option Int):List T:=(xs.drop (HT.sIx xs.length 0 lo)).take (HT.sIx xs.length xs.length hi-HT.sIx xs.length 0 lo)
noncomputable def rSlA:T->Option Int->Option Int->Gp->VK3->Prop:=λx lo hi G Q=>
 (∃xs,jU2 G x=some xs/\∀p,G p=none->Q (.ref p) (gup G p (.lst (cutT xs lo hi))))\/∃xs,x= .tup xs/\Q (.tup (cutT xs lo hi)) G
end
end L3
namespace HT
open PySem PyProof.Rows
theorem getItem_tuple_whole{prog:Program}{w:World}{A:Around}{E:Value->Shared->Prop}{s:Shared}{t sl:Addr}{items:Array Value}{vl vu:Value}{lo hi:Option Int}{Q:Value->Shared->Prop}(ht:IsTup s.heap t items)(hs:s.heap.IsSliceOf sl vl vu .none)(pl:IsPart vl lo)(pu:IsPart vu hi)
  (hw:sIx items.size 0 lo=0/\sIx items.size items.size hi=items.size) (h:Q (.ref t) s):wpAny (model prog w) A (getItem (.ref t) (.ref sl)) Q E s:=by
 obtain⟨os,hos,hcs,hds⟩:=id hs;have hTs:s.TypeIs (.ref sl) "slice":=⟨os,hos,hcs⟩;unfold getItem
 try with_reducible refine lKo ?_
 first | refine lJa (lJd ?_) | skip
 refine lJa (wpAny_sequenceKey ht.typeIs (by decide) ?_)
 refine lJa (lVs (name:=Str.ofString "__getitem__") ht.typeIs lVi
  (lQy lVi ht.typeIs entry_tuple_getitem ?_ (args_tuple_getitem _ _)))
 show wpAny _ _ (Builtin.Tuple.tupleItemsOf (.ref t) >>= _) _ _ s
 refine lJa (tupleItemsOf_ ht ?_);refine lJa (lQp hTs ?_);rw[lJc (by decide)]
 refine lJa (jVx hs pl pu ?_)
 have hyes:(((sIx items.size 0 lo:Nat):Int) == 0&&(1:Int) == 1&&(sIx items.size items.size hi-sIx items.size 0 lo) == items.size)=true:=by
  rw[hw.1,hw.2];simp
 show wpAny _ _ (if (((sIx items.size 0 lo:Nat):Int) == 0&&(1:Int) == 1&&(sIx items.size items.size hi-sIx items.size 0 lo) == items.size)=true then _ else _) _ _ s
 rw[lJc hyes];refine lJa ?_;unfold Builtin.Tuple.tupleIsExact;refine lJa (lQp ht.typeIs (lJd ?_));rw[lJc (by decide)]
 exact lJa (lVc (lJd ⟨_,rfl,lJd h⟩))
end HT
namespace L3
open PySem PySem.Spec PyProof.Rows L2
section
variable {X:Cx}
theorem Reps.cut{K:PySem.W.Frag}{H:Hp}{xs:List T}{vs:List V}(r:Reps K H xs vs)(lo hi:Option Int):Reps K H (cutT xs lo hi) (cutV vs lo hi):=by
 unfold cutT cutV;rw[<-r.length];exact (r.drop _).take _
theorem qJy{xs:List T}{lo hi:Option Int}(h:HT.sIx xs.length 0 lo=0/\HT.sIx xs.length xs.length hi=xs.length):cutT xs lo hi=xs:=by
 unfold cutT;rw[h.1,h.2];simp
theorem sl_any:Sl3 X rSlA:=by
 rintro pins s τ G H x v vl vu lo hi sl Q ⟨σ,I,hs,hg⟩ ⟨a,ra,rv⟩ hsl pl pu h
 rcases h with ⟨xs,hx,q⟩ | ⟨xs,ex,q⟩
 .obtain⟨p,vs,e,hq,r⟩:=jVu hg ra hx;subst e;obtain⟨T0,id,h1,h2,h3⟩:=qZy pins s σ H (.ref p) v vl vu lo hi sl (up X.K H Q) I rv hsl pl pu ⟨p,vs,rfl,hq,λl hl=>⟨.ref l,_,.upd (.none hl),hg.lstNew (r.cut lo hi) (.none hl),rfl,q l (hg.fresh hl)⟩⟩
  exact⟨T0,id,h1,h2,thn h3 λ_ _ z=>jVq hs z⟩
 .subst ex;obtain⟨p,vs,e,h1,h2⟩:=(show ∃p vs,a= .ref p/\H p=some (.tup vs)/\Reps X.K H xs vs from ra)
  subst e
  by_cases hw:HT.sIx xs.length 0 lo=0/\HT.sIx xs.length xs.length hi=xs.length
  .cases rv;obtain⟨its,rv',ht,hz⟩:=I.tuple (.of h1);have hlen:its.toArray.size=xs.length:=by rw[lJq,<-rv'.length,h2.length]
   refine⟨"tuple",_,lVi.lookup,ht.typeIs,HT.getItem_tuple_whole ht hsl pl pu (by rw[hlen];exact hw) ?_⟩
   rw[qJy hw] at q;exact⟨.tup xs,G,H,.refl H,⟨σ,I,hs,hg⟩,⟨.ref p,ra,rfl⟩,q⟩
  .obtain⟨T0,id,h3,h4,h5⟩:=uQb pins s σ H (.ref p) v vl vu lo hi sl (up X.K H Q) I rv hsl pl pu ⟨p,vs,rfl,.of h1,by rw[<-h2.length];exact hw,λl hl=>⟨.tup (cutT xs lo hi),G,.upd (.none hl),hg.tupNew hl,Rep.tupNew (h2.cut lo hi) hl,q⟩⟩
   exact⟨T0,id,h3,h4,thn h5 λ_ _ z=>jVq hs z⟩
def jUh(ta:TA3):TE3:=λτ G Q=>ta τ G λvs G1=>∃j:Int,vs=[.int j]/\ -(2^62)<=j/\j<=2^20/\∀p,G1 p=none->Q (.ref p) (gup G1 p (.lst (rngT 0 j.toNat)))
theorem qVy{K:PySem.W.Frag}{H:Hp}{n:Nat}{vs:List V}(hl:vs.length=n)(h:∀(i:Nat) v,vs[i]? =some v->v= .int (0+i)):Reps K H (rngT 0 n) vs:=by
 have e:vs=(List.range n).map λ(k:Nat)=>V.int (0+k):=by
  apply lQh;intro i;cases hv:vs[i]? with
  | none=>
   have:n<=i:=by rw[<-hl];exact List.getElem?_eq_none_iff.mp hv
   simp[this]
  | some v=>
   have hi:i<n:=by rw[<-hl];exact (lJe.mp hv).1
   rw[h i v hv];simp[hi]
 rw[e];unfold rngT
 generalize List.range n=l
 induction l with
 | nil=>rfl
 | cons k ks ih=>exact⟨_,_,rfl,rfl,ih⟩
end
section
variable {X:Cx}
theorem kJ7{a:Expr}{ta:TA3}{pos p p2 p3:Pos}(hgl:Gl X "list")(hml:X.mg "list"=none)(hgr:Gl X "range")(hmr:X.mg "range"=none)(hc:X.calm=true)(ha:PA3 X [a] ta)(hs:starEach [a] X.env=[(false,eval a X.env)]:=by rfl)
  (ho:starEach [Expr.Call (.Name "range" p2) [a] [] p3] X.env=[(false,eval (.Call (.Name "range" p2) [a] [] p3) X.env)]:=by rfl):
  PE3 X (.Call (.Name "list" p) [.Call (.Name "range" p2) [a] [] p3] [] pos) (jUh ta):=by
 intro pins s τ G H Q I h;obtain⟨σ0,I0,hs0,hg0⟩:=id I;refine lXd (jU9 I0 hgl hml (u:= .type "list") (by rfl) ?_)
 refine lKy (T:="list") ?_ ho rfl;rw[ho];show wpAny _ _ (spliced ((false,eval (.Call (.Name "range" p2) [a] [] p3) X.env)::backTo pos [])) _ _ s
 refine Calls.spliced_cons ?_;refine Call_ (jU9 I0 hgr hmr boot_range (lKy (thn (ha p3 pins s τ G H _ I h) λus s1 w_=>w_.el λxs G1 H1 e1 i_ r_ ⟨j,e,q1,q2,q⟩=>i_.el λσ I1 hs1 hg1=>r_.el λas ras rvs=> ?_) hs rfl))
 subst e;obtain⟨v,rfl,rv⟩:=jU7 ras;cases (show v= .int j from rv)
 obtain⟨u,rfl,ru⟩:=rvs.one;obtain⟨t,rfl⟩:=ru;refine call_range_1 ?_;refine Calls.spliced_nil ?_;have I2:Inv X pins σ H1 {s1 with heap:=s1.heap.push {cls:= .type "range",data:= .fields #[.int 0 s1.toks,.int j t,.int 1 (s1.toks+1)]},toks:=s1.toks+1+1}:=I1.kept λb o e=>lJj _ e
 refine call_list_range (n:=j.toNat) (I1.ok.hd hc) (IsRange.new ..) (small_one (by omega) (by omega) q1 (by omega)) (by rw[rangeSize_one];split<;>omega) (by omega) λh' tk acc' c' hk hobj hit=> ?_
 have hf:H1 (s1.heap.push {cls:= .type "range",data:= .fields #[.int 0 s1.toks,.int j t,.int 1 (s1.toks+1)]}).objs.size=none:=I2.hok.fresh (lJg _);have hz:acc'.size<=sizeLine:=by rw[hit.1,lQf];omega
 obtain⟨vs,hvs,rr⟩:∃vs:List V,Vals vs acc'.toList/\Reps X.K H1 (rngT 0 j.toNat) vs:=by
  refine⟨(List.range j.toNat).map λ(k:Nat)=>V.int (0+k),?_,qVy (by simp) (λi v hv=> ?_)⟩
  .have all:∀(l:List Value)(n0:Nat),(∀(i:Nat) v,l[i]? =some v->∃t,v= .int ((0:Int)+((n0+i:Nat):Int)*1) t)->Vals ((List.range' n0 l.length).map λ(k:Nat)=>V.int (0+k)) l:=by
    intro l
    induction l with
    | nil=>intro n0 _;exact .nil
    | cons v l ih=>
     intro n0 hh;obtain⟨t,ht⟩:=hh 0 v rfl;rw[lKj,List.range'_succ,lJv];refine .cons ⟨t,by rw[ht];simp⟩ (ih (n0+1) λi w hw=> ?_)
     obtain⟨t',ht'⟩:=hh (i+1) w (by simpa using hw)
     exact⟨t',by rw[ht'];congr 1;omega⟩
   have:=all acc'.toList 0 (λi v hv=>by
    obtain⟨t,ht⟩:=hit.2 i v (by simpa using hv)
    exact⟨t,by rw[ht];simp⟩)
   rw[List.range_eq_range'];rw[show acc'.toList.length=j.toNat by simpa using hit.1] at this
   exact this
  .rw[lJr] at hv;cases e:(List.range j.toNat)[i]? with
   | none=>rw[e] at hv;cases hv
   | some k=>
    rw[e] at hv;cases hv;have:=lJe.mp e;obtain⟨h1,h2⟩:=this;simp at h2;rw[<-h2]
 refine⟨.ref _,_,_,e1.trans (.upd (.none hf)),⟨σ,I2.laid (t':=tk) (o:= .lst vs) hk (lJg _) ⟨by rw[hvs.length];simpa using hz,acc'.toList,c',hvs,by simpa using hobj⟩,hs1.mono (.upd (.none hf)),hg1.lstNew rr (.none hf)⟩,⟨.ref _,rfl,rfl⟩,q _ (hg1.fresh hf)⟩
def insT(xs:List T)(k:Nat)(y:T):List T:=xs.take k++y::xs.drop k
noncomputable def kJj:T->List T->Gp->VK3->Prop:=λx as G Q=>∃p xs k y,x= .ref p/\as=[.int k,y]/\G p=some (.lst xs)/\0<=k/\k<=xs.length/\xs.length<sizeLine/\Q .non (gup G p (.lst (insT xs k.toNat y)))
theorem kZd:Mt3 X "list.insert" kJj:=by
 rintro pins s τ G H x as v us Q ⟨σ,I,hs,hg⟩ ⟨a,ra,rv⟩ ⟨bs,rbs,rus⟩ ⟨p,xs,k,y,ex,ea,hp,k0,k1,hz,q⟩;subst ex;subst ea;cases (show a= .ref p from ra);cases rv
 obtain⟨b1,b2,rfl,r1,r2⟩:=kQ0 rbs;cases (show b1= .int k from r1)
 obtain⟨u1,u2,rfl,ru1,ru2⟩:=rus.two;obtain⟨t,rfl⟩:=ru1;obtain⟨vs,h1,h2⟩:=hg.lst hp;obtain⟨z,its,n,r,hl,e⟩:=I.lstM h1;have hlen:=h2.length
 have hfit:¬ (!Builtin.List.listFitsIndex k)=true:=by
  have h63:=kJs;rw[fitsIndex_both (by omega) (by omega)]
  exact lJl
 refine lQ9 F.slot_list_insert ⟨_,e,rfl⟩ F.entry_list_insert (F.args_list_insert_3 _ _ _) (AutoSeq1.list_insert_list_int_val_1 p its.toArray n k t u2 hfit (by rw[lJq];omega)) ⟨e,?_⟩
 have e2:Ext H (upd H p (.lst (vs.take k.toNat++b2::vs.drop k.toNat))):= .upd (.lst h1);refine⟨.non,_,_,e2,⟨σ,I.lset (its':=its.take k.toNat++u2::its.drop k.toNat) h1 e ?_ ((r.take _).append (.cons ru2 (r.drop _))) ?_,hs.mono e2,hg.lstNew (xs:=insT xs k.toNat y) ((h2.take _).append ⟨b2,_,rfl,r2,h2.drop _⟩) (.lst h1)⟩,⟨.non,rfl,rfl⟩,q⟩
 .have hk:¬ k<0:=by omega
  have hm:min k.toNat its.toArray.size=k.toNat:=by rw[lJq];omega
  simp only[hk,lJt,hm];apply Array.ext';simp[Array.toList_extract];rw[List.take_of_length_le (lXg (by simp))]
 .simp only[lJ9,lKj,lVz,lYp];omega
def qQd:T->List T->Gp->VK3->Prop:=λx as G Q=>∃p xs y,x= .ref p/\as=[y]/\G p=some (.lst xs)/\jVd y=true/\xs.all jVd=true/\Q (.int (xs.countP λz=>eqT z y)) G
theorem kVy{K:PySem.W.Frag}{H:Hp}{y:T}{b:V}(ry:Rep K H y b)(fy:jVd y=true):∀{xs:List T}{vs:List V}{us:List Value},Reps K H xs vs->Vals vs us->xs.all jVd=true->us.countP (eqU b)=xs.countP λz=>eqT z y
 | [],_,_,r,q,_=>by cases r;cases q;rfl
 | x::xs,_,_,⟨v,ws,e,r1,r2⟩,q,f=>by
  subst e;cases q with
  | cons q1 q2=>
   rw[lQl,lKl] at f;rw[lXq,lXq,kVy ry fy r2 q2 f.2,kZp q1 (jXo r1 f.1),kYd r1 ry f.1 fy]
theorem uJp:Mt3 X "list.count" qQd:=by
 rintro pins s τ G H x as v us Q ⟨σ,I,hs,hg⟩ ⟨a,ra,rv⟩ ⟨bs,rbs,rus⟩ ⟨p,xs,y,ex,ea,hp,fy,fs,q⟩;subst ex;subst ea;cases (show a= .ref p from ra);cases rv
 obtain⟨b,rfl,rb⟩:=jU7 rbs;obtain⟨u,rfl,ru⟩:=rus.one;obtain⟨vs,h1,h2⟩:=hg.lst hp;obtain⟨z,its,n,r,hl,e⟩:=I.lstM h1;have fl:=(jZu rb fy h2 fs).1;refine lQ9 F.slot_list_count ⟨_,e,rfl⟩ F.entry_list_count (F.args_list_count_2 _ _) (SeqAt.list_countAt p its.toArray n none #[] u (eqU b)) ⟨e,λw hw=>jVt ru (jXo rb fy) r fl w (by simpa using hw),?_⟩
 refine⟨.int _,G,H,.refl H,⟨σ,I.tok _,hs,hg⟩,⟨.int _,rfl,s.toks,?_⟩,q⟩;rw[<-kVy rb fy h2 r fs]
def kYn:List T->Option Bool
 | []=>some true
 | .bl b::r=>match kYn r with
  | some c=>some (b&&c)
  | none=>none
 | _::_=>none
def rAll:List T->Gp->VK3->Prop:=λas G Q=>∃p xs b,as=[.ref p]/\G p=some (.lst xs)/\kYn xs=some b/\Q (.bl b) G
theorem kV7:∀{xs:List T}{b:Bool},kYn xs=some b->∃bs:List Bool,xs=bs.map T.bl/\b=bs.all (λx=>x)
 | [],b,h=>by cases h;exact⟨[],rfl,rfl⟩
 | .bl c::r,b,h=>by
  unfold kYn at h;cases e:kYn r with
  | none=>rw[e] at h;cases h
  | some d=>
   rw[e] at h;cases h;obtain⟨bs,h1,h2⟩:=kV7 e;exact⟨c::bs,by rw[h1];rfl,by rw[h2];rfl⟩
 | .non::_,_,h=>by cases h
 | .int _::_,_,h=>by cases h
 | .str _::_,_,h=>by cases h
 | .tup _::_,_,h=>by cases h
 | .scr _::_,_,h=>by cases h
 | .ref _::_,_,h=>by cases h
 | .ty _::_,_,h=>by cases h
theorem kY0{K:PySem.W.Frag}{H:Hp}:∀{bs:List Bool}{vs:List V}{us:List Value},Reps K H (bs.map T.bl) vs->Vals vs us->us=bs.map Value.bool
 | [],_,_,h,q=>by cases h;cases q;rfl
 | n::ns,_,_,⟨v,ws,e,r,rs⟩,q=>by
  subst e;cases (show v= .bl n from r)
  cases q with
  | cons q1 q2=>cases q1;rw[kY0 rs q2];rfl
theorem kV6:∀(bs:List Bool),bs.all (λx=>x)=(List.range bs.length).all λi=>bs.getD i true
 | []=>rfl
 | b::bs=>by
  rw[lQl,kV6 bs,lKj,List.range_succ_eq_map,lQl,List.all_map];simp[Function.comp_def,List.getD]
theorem uXe(hc:X.calm=true):Call3 X (.builtin "all") rAll:=by
 rintro pins s τ G H as us Q ⟨σ,I,hs,hg⟩ ⟨bs',rbs,rus⟩ ⟨p,xs,b,e,hp,hb,q⟩;subst e;obtain⟨a,rfl,ra⟩:=jU7 rbs;cases (show a= .ref p from ra)
 obtain⟨u,rfl,ru⟩:=rus.one;cases ru;obtain⟨vs,h1,h2⟩:=hg.lst hp;obtain⟨bs,ex,eb⟩:=kV7 hb;subst ex;obtain⟨its,rv,pl,hz⟩:=I.list (.of h1);have eit:=kY0 h2 rv;subst eit;refine call_all_walk (wpAny_pyIter_list pl.isList ?_);have hne:p≠s.heap.objs.size:=by obtain⟨o,n,ho,_⟩:=pl;exact lJp (lJi ho)
 refine⟨s.heap.objs.size,[s.heap.objs.size,p],[s.heap.objs.size],(bs.map Value.bool).toArray.size,_,_,λi=>bs.getD i true,rfl,Walks.list (A:=X.A.in1) (show X.A.in1.handled=none from I.ok.hd hc) s.heap.objs.size p hne (bs.map Value.bool).toArray,⟨⟨_,lJ1 _ rfl,rfl,rfl⟩,pl.isList.push _⟩,?_,?_⟩
 .intro i v s' Q' E' hP hQ;have hP':(bs.map Value.bool)[i]? =some v:=by simpa using hP
  rw[lJr] at hP';cases e:bs[i]? with
  | none=>rw[e] at hP';cases hP'
  | some c=>
   rw[e] at hP';cases hP';have:bs.getD i true=c:=by simp[List.getD,e]
   have hQ':Q' (bs.getD i true) s':=hQ;rw[this] at hQ';exact lQ7 hQ'
 .intro h' tk hk;have hk2:∀b o,s.heap.get? b=some o->h'.get? b=some o:=λb o e=>hk b o (by simpa using lJp (lJi e)) (lJj _ e)
  refine⟨.bl b,G,H,.refl H,⟨σ,I.kept hk2,hs,hg⟩,⟨.bl b,rfl,?_⟩,q⟩;rw[eb,kV6];simp;rfl
end
structure Cal (P:Program) (w:World) (K:PySem.W.Frag) (mg:Str->Option Value) (base:Heap) (k:Nat) (x:Str) (ps:List Str) (sp:Sp3):Prop where
 ex:∃f fd,Fn3 P w K mg base k f fd ps sp/\mg x=some (.ref f)/\PySem.W.keepIn K (.ref f)=true/\Binds K fd ps []
 mono:Mono sp
 len:∀xs G Q,sp xs G Q->xs.length=ps.length
theorem jJz{X:Cx}{k:Nat}{ps:List Str}{sp:Sp3}{x:Str}{p pos:Pos}{e:Expr}{es:List Expr}{t:TA3}(C:Cal X.prog X.w X.K X.mg X.base k x ps sp)(hr:Room k X.A)(ha:PA3 X (e::es) t)(hg:Gl X x:=by rfl)
  (hdb:(x == ("__debug__":Str))=false:=by decide) (he:starEach (e::es) X.env=(false,eval e X.env)::starEach es X.env:=by rfl) (hpl:(backTo pos (starEach es X.env)).any (·.1)=false:=by rfl):
  PE3 X (.Call (.Name x p) (e::es) [] pos) (jJq sp t):=by
 intro pins s τ G H Q I h;obtain⟨f,fd,F,hm,hk,hb⟩:=C.ex;obtain⟨σ0,I0,hs0,hg0⟩:=id I;refine lXd (kJv I0 hg hm ?_ hdb);refine lV2 (h₀:=X.base) I0.ok.mod.kin hk (thn (ha pos pins s τ G H _ I h) λus s1 w_=>w_.el λxs G1 H1 e1 i_ r_ q=>i_.el λσ I1 hs1 hg1=>r_.el λas ras rvs=>⟨I1.kIn,?_⟩) he hpl
 refine thn (qKv (dvs:=[]) (ds:=[]) (E:=E0) (Q:=up X.K H1 Q) F hr hb .nil qXb I1 rvs ?_) λu s' z=>(jVq hs1 z).ext e1
 rw[lKx];exact⟨by rw[<-ras.length];exact C.len _ _ _ q,xs,G1,ras,hg1,C.mono _ _ _ _ (λt G' hq v H' e g r=>⟨t,G',e,g,r,hq⟩) q⟩
def qK8:=kXw
theorem uKm{X:Cx}:Call3 X (.type "list") qK8:=uU2
end L3
namespace L3
open PySem PySem.Spec PyProof.Rows
inductive Res where
 | val (t:T) | newL (xs:List T)
def fin3:Res->Gp->VK3->Prop
 | .val t,G,Q=>Q t G
 | .newL xs,G,Q=>∀p,G p=none->Q (.ref p) (gup G p (.lst xs))
theorem Op3.imp{X:L2.Cx}{f:Value->Value->Sem Value}{r r':R3}(h:Op3 X f r)(i:∀x y G Q,r' x y G Q->r x y G Q):Op3 X f r':=λpins s τ G H x y v u Q I rx ry q=>h pins s τ G H x y v u Q I rx ry (i x y G Q q)
theorem Ix3.imp{X:L2.Cx}{r r':R3}(h:Ix3 X r)(i:∀x y G Q,r' x y G Q->r x y G Q):Ix3 X r':=λa b pins s τ G H x y v u Q I rx ry q hs=>h a b pins s τ G H x y v u Q I rx ry (i x y G Q q) hs
theorem Set3.imp{X:L2.Cx}{r r':T->T->T->Gp->(Gp->Prop)->Prop}(h:Set3 X r)(i:∀o j v G Q,r' o j v G Q->r o j v G Q):Set3 X r':=λpins s τ G H o j v a b c Q I ro rj rv q=>h pins s τ G H o j v a b c Q I ro rj rv (i o j v G Q q)
theorem Sl3.imp{X:L2.Cx}{r r':T->Option Int->Option Int->Gp->VK3->Prop}(h:Sl3 X r)(i:∀x l u G Q,r' x l u G Q->r x l u G Q):Sl3 X r':=λpins s τ G H x v vl vu lo hi sl Q I rx hs pl pu q=>h pins s τ G H x v vl vu lo hi sl Q I rx hs pl pu (i x lo hi G Q q)
noncomputable def addR(G:Gp):T->T->Option Res
 | .int i,.int j=>some (.val (.int (i+j)))
 | .ref p,.ref q=>match G p,G q with
  | some (.lst xs),some (.lst ys)=>if xs.length+ys.length<=sizeLine then some (.newL (xs++ys)) else none
  | _,_=>none
 | .tup xs,.tup ys=>if xs.length≠0/\xs.length+ys.length<=sizeLine then some (.val (.tup (xs++ys))) else none
 | _,_=>none
def jKz:R3:=λx y G Q=>∃r,addR G x y=some r/\fin3 r G Q
theorem uXf{x y:T}{G:Gp}{Q:VK3}(h:jKz x y G Q):uQm x y G Q:=by
 obtain⟨r,hr,q⟩:=h;unfold addR at hr;split at hr
 .cases hr;exact .inl ⟨_,_,rfl,rfl,q⟩
 .rename_i p q'
  split at hr
  .rename_i xs ys h1 h2
   split at hr
   .rename_i hz;cases hr;exact .inr (.inl ⟨p,q',xs,ys,rfl,rfl,h1,h2,hz,q⟩)
   .cases hr
  .cases hr
 .rename_i xs ys
  split at hr
  .rename_i hz;cases hr;exact .inr (.inr ⟨xs,ys,rfl,rfl,λz=>hz.1 (by rw[z];rfl),hz.2,q⟩)
  .cases hr
 .cases hr
theorem o_addF{X:L2.Cx}:Op3 X (binaryOp .Add) jKz:=o_addA.imp λ_ _ _ _=>uXf
noncomputable def mulR(G:Gp):T->T->Option Res
 | .int i,.int j=>some (.val (.int (i*j)))
 | .ref p,.int n=>match G p with
  | some (.lst xs)=>if n.toNat * xs.length<=sizeLine/\n<2^62/\ -(2^62)<n then some (.newL (List.replicate n.toNat xs).flatten) else none
  | _=>none
 | _,_=>none
def mulC:T->T->Prop
 | .int i,.int j=>L2.CMul i j
 | _,_=>True
def jV1:R3:=λx y G Q=>∃r,mulR G x y=some r/\mulC x y/\fin3 r G Q
theorem uVx{x y:T}{G:Gp}{Q:VK3}(h:jV1 x y G Q):uQi x y G Q:=by
 obtain⟨r,hr,c,q⟩:=h;unfold mulR at hr;split at hr
 .cases hr;exact .inl ⟨_,_,rfl,rfl,c,q⟩
 .rename_i p n
  split at hr
  .rename_i xs h1
   split at hr
   .rename_i hz;cases hr;exact .inr ⟨p,xs,n,rfl,rfl,h1,hz.1,hz.2.1,hz.2.2,q⟩
   .cases hr
  .cases hr
 .cases hr
theorem jUo{X:L2.Cx}:Op3 X (binaryOp .Mult) jV1:=o_mulA.imp λ_ _ _ _=>uVx
def ixR(G:Gp)(x y:T):Option T:=match seqT G x with
 | some xs=>match y with
  | .int i=>L2.atI xs i
  | _=>none
 | none=>match dAt G x y with
  | some o=>o
  | none=>none
def rIxF:R3:=λx y G Q=>∃t,ixR G x y=some t/\Q t G
theorem uV0{x y:T}{G:Gp}{Q:VK3}(h:rIxF x y G Q):rIxA x y G Q:=by
 obtain⟨t,ht,q⟩:=h;unfold ixR at ht;split at ht
 .rename_i xs hx
  split at ht
  .rename_i i;exact .inl ⟨xs,i,t,hx,rfl,ht,q⟩
  .cases ht
 .split at ht
  .rename_i o ho;subst ht;exact .inr ⟨t,ho,q⟩
  .cases ht
theorem ix_F{X:L2.Cx}(hu:X.A.units+20<cLine):Ix3 X rIxF:=(uJu hu).imp λ_ _ _ _=>uV0
noncomputable def setR(G:Gp)(o i v:T):Option Gp:=match o with
 | .ref p=>match G p with
  | some (.lst xs)=>match i with
   | .int k=>match L2.ixN xs.length k with
    | some j=>some (gup G p (.lst (xs.set j v)))
    | none=>none
   | _=>none
  | some (.dct kvs)=>match i with
   | .tup ys=>match jVy ys with
    | some ks=>if kvs.length<sizeLine then some (gup G p (.dct (putT kvs ks v))) else none
    | none=>none
   | _=>none
  | some (.dck kvs)=>match jZl i with
   | some k=>if kvs.length<sizeLine then some (gup G p (.dck (putT kvs k v))) else none
   | none=>none
  | some (.fdc _)=>none
  | some (.ins _ _)=>none
  | some (.exc _)=>none
  | none=>none
 | _=>none
def jV0:T->T->T->Gp->(Gp->Prop)->Prop:=λo i v G Q=>∃G',setR G o i v=some G'/\Q G'
theorem uQc{o i v:T}{G:Gp}{Q:Gp->Prop}(h:jV0 o i v G Q):uQh o i v G Q:=by
 obtain⟨G',hr,q⟩:=h;unfold setR at hr;split at hr
 .rename_i p
  split at hr
  .rename_i xs h1
   split at hr
   .rename_i k
    split at hr
    .rename_i j hj;cases hr;exact .inl ⟨p,xs,k,j,rfl,rfl,h1,hj,q⟩
    .cases hr
   .cases hr
  .rename_i kvs h1
   split at hr
   .rename_i ys
    split at hr
    .rename_i ks hk
     split at hr
     .rename_i hz;cases hr;exact .inr (.inl ⟨p,ys,ks,kvs,rfl,rfl,hk,h1,hz,q⟩)
     .cases hr
    .cases hr
   .cases hr
  .rename_i kvs h1
   split at hr
   .rename_i k hk
    split at hr
    .rename_i hz;cases hr;exact .inr (.inr ⟨p,k,kvs,rfl,hk,h1,hz,q⟩)
    .cases hr
   .cases hr
  .cases hr
  .cases hr
  .cases hr
  .cases hr
 .cases hr
theorem s_F{X:L2.Cx}(hu:X.A.units+20<cLine):Set3 X jV0:=(uVg hu).imp λ_ _ _ _ _=>uQc
noncomputable def rLeF:R3:=λx y G Q=>∃b,(match x,y with
 | .int i,.int j=>some (decide (i<=j))
 | .tup [.int a,.int b],.tup [.int c,.int d]=>some (HT.lexLe [a,b] [c,d])
 | _,_=>none)=some b/\Q (.bl b) G
theorem uVy{x y:T}{G:Gp}{Q:VK3}(h:rLeF x y G Q):rLeA x y G Q:=by
 obtain⟨b,hb,q⟩:=h;split at hb
 .cases hb;exact .inl ⟨_,_,rfl,rfl,q⟩
 .cases hb;exact .inr ⟨_,_,rfl,rfl,q⟩
 .cases hb
theorem qQn{X:L2.Cx}(hu:X.A.units+20<cLine):Op3 X (compareOp .LtE) rLeF:=(uVu hu).imp λ_ _ _ _=>uVy
noncomputable def inR(G:Gp)(x y:T):Option Bool:=match seqT G y with
 | some xs=>if jVd x=true/\xs.all jVd=true then some (inT x xs) else none
 | none=>match dAt G y x with
  | some o=>some o.isSome
  | none=>none
def kU5:R3:=λx y G Q=>∃b,inR G x y=some b/\Q (.bl b) G
def jUd:R3:=λx y G Q=>∃b,inR G x y=some b/\Q (.bl (!b)) G
theorem uV1{x y:T}{G:Gp}{Q:VK3}(h:kU5 x y G Q):rInL x y G Q:=by
 obtain⟨b,hb,q⟩:=h;unfold inR at hb;split at hb
 .rename_i xs hx
  split at hb
  .rename_i hc;cases hb;exact .inl ⟨xs,hx,hc.1,hc.2,q⟩
  .cases hb
 .split at hb
  .rename_i o ho;cases hb;exact .inr ⟨o,ho,q⟩
  .cases hb
theorem qXi{x y:T}{G:Gp}{Q:VK3}(h:jUd x y G Q):qK6 x y G Q:=by
 obtain⟨b,hb,q⟩:=h;unfold inR at hb;split at hb
 .rename_i xs hx
  split at hb
  .rename_i hc;cases hb;exact .inl ⟨xs,hx,hc.1,hc.2,q⟩
  .cases hb
 .split at hb
  .rename_i o ho;cases hb;exact .inr ⟨o,ho,q⟩
  .cases hb
theorem qQo{X:L2.Cx}(hu:X.A.units+20<cLine):Op3 X (compareOp .In) kU5:=(o_in hu).imp λ_ _ _ _=>uV1
theorem jYp{X:L2.Cx}(hu:X.A.units+20<cLine):Op3 X (compareOp .NotIn) jUd:=(uJk hu).imp λ_ _ _ _=>qXi
noncomputable def slR(G:Gp)(x:T)(lo hi:Option Int):Option Res:=match x with
 | .tup xs=>some (.val (.tup (cutT xs lo hi)))
 | .scr xs=>some (.newL (cutT xs lo hi))
 | .ref p=>match G p with
  | some (.lst xs)=>some (.newL (cutT xs lo hi))
  | _=>none
 | _=>none
def rSlF:T->Option Int->Option Int->Gp->VK3->Prop:=λx lo hi G Q=>∃r,slR G x lo hi=some r/\fin3 r G Q
theorem uVd{x:T}{lo hi:Option Int}{G:Gp}{Q:VK3}(h:rSlF x lo hi G Q):rSlA x lo hi G Q:=by
 obtain⟨r,hr,q⟩:=h;unfold slR at hr;split at hr
 .cases hr;exact .inr ⟨_,rfl,q⟩
 .cases hr;exact .inl ⟨_,rfl,q⟩
 .split at hr
  .rename_i xs h1;cases hr;exact .inl ⟨xs,by simp only[jU2,h1,asL],q⟩
  .cases hr
 .cases hr
theorem sl_F{X:L2.Cx}:Sl3 X rSlF:=sl_any.imp λ_ _ _ _ _=>uVd
end L3
namespace L2
open PySem PySem.Spec PyProof.Rows
def Its(lo c:Int)(n:Nat):It:=⟨λi _=>i<n,λi H x H'=>H'=H/\x= .int (lo+i*c),λi _=>n<=i⟩
theorem kXf{P:Program}{w:World}{K:PySem.W.Frag}{tg:Expr}(it:Addr)(lo c:Int)(n:Nat):Turn P w K tg (Its lo c n) [it] it (λi h=>IsRangeIter h it (lo+(i:Nat)*c) ((n:Int)-(i:Nat)) c) where
 mem:=by simp
 obj:=λi h st b hb=>by
  have e:b=it:=by simpa using hb
  subst e
  exact⟨_,st,λv z=>by
   have z':Data.fields _=Data.cell v:=z;cases z'⟩
 keep:=λi h h' st k=>k it (by simp) _ st
 item:=by
  intro X hP hw hK hc i pins s σ H E I hf st hg;subst hP hw hK;obtain⟨f0,f1,f2,f3,f4,f5⟩:=hf it (by simp)
  have W:=Walks.range (prog:=X.prog) (w:=X.w) (I.ok.hd hc) it lo c n;refine W.item i s _ _ hg st λv h' tk hv st' kk=> ?_
  obtain⟨t,rfl⟩:=hv;have I1:Inv X pins σ H {s with heap:=h',toks:=tk}:=I.turned (λb o hb e=>kk b o (by simpa using hb) e) f0 f1 f3 f4 f5
  exact⟨_,rfl,qX7 (s:={s with heap:=h',toks:=tk}) (n:="range_iterator") st' rfl rfl (by decide) ⟨.int (lo+i*c),H,I1,⟨t,rfl⟩,⟨rfl,rfl⟩,st',λb hb=>(hf b hb).1⟩⟩
 done:=by
  intro X hP hw hK hc i pins s σ H E I hf st hg;subst hP hw hK;obtain⟨f0,f1,f2,f3,f4,f5⟩:=hf it (by simp)
  exact wpAny_pyNext_range_end (I.ok.hd hc) st (by have:n<=i:=hg;omega) λh' eb=>⟨rfl,I.turned (t':=s.toks) (λb o hb e=>eb b o hb e) f0 f1 f3 f4 f5⟩
 self:=λ_ _ _ _ _ st h=>wpAny_pyIter_rangeiter st h
section
variable {X:Cx}{tg:Expr}
theorem qK4{pins:List (Addr×Obj)}{σ:St}{H:Hp}{s:Shared}{R:It->Hp->Prop}{E:Value->Shared->Prop}{lo hi c:Int}{t u v:Tok}{tk:Nat}(I:Inv X pins σ H s)(hsm:Builtin.Range.small lo hi c=true)
  (q:R (Its lo c (Builtin.Range.rangeSize lo hi c).toNat) H):wpAny (model X.prog X.w) X.A (pyIter (.ref s.heap.objs.size)) (PIE X pins σ tg R) E {s with heap:=s.heap.push {cls:= .type "range",data:= .fields #[.int lo t,.int hi u,.int c v]},toks:=tk}:=by
 refine wpAny_pyIter_range (IsRange.new ..) hsm ?_;have I1:Inv X pins σ H {s with heap:=s.heap.push {cls:= .type "range",data:= .fields #[.int lo t,.int hi u,.int c v]},toks:=tk}:=I.kept λb o e=>lJj _ e
 refine⟨(s.heap.push {cls:= .type "range",data:= .fields #[.int lo t,.int hi u,.int c v]}).objs.size,[(s.heap.push {cls:= .type "range",data:= .fields #[.int lo t,.int hi u,.int c v]}).objs.size],_,_,H,rfl,
  I1.kept (t':=tk) λb o e=>lJj _ e,kXf _ lo c (Builtin.Range.rangeSize lo hi c).toNat,?_,λb hb=> ?_,q⟩
 .show IsRangeIter _ _ (lo+((0:Nat):Int)*c) ((((Builtin.Range.rangeSize lo hi c).toNat:Nat):Int)-((0:Nat):Int)) c
  rw[<-rangeSize_toNat,show lo+((0:Nat):Int)*c=lo by simp,show Builtin.Range.rangeSize lo hi c-((0:Nat):Int)=Builtin.Range.rangeSize lo hi c by simp]
  exact lJ1 _ rfl
 .have e:b=(s.heap.push {cls:= .type "range",data:= .fields #[.int lo t,.int hi u,.int c v]}).objs.size:=by simpa using hb
  subst e;exact I1.fpOk (lJg _) (I1.hok.fresh (lJg _))
end
end L2
namespace L3
open PySem PySem.Spec PyProof.Rows L2
def rngS(lo c:Int)(n:Nat):List T:=(List.range n).map λ(k:Nat)=>T.int (lo+k*c)
noncomputable def qX3(ta:TA3):TI3:=λτ G R=>ta τ G λvs G1=>∃i j c:Int,vs=[.int i,.int j,.int c]/\(c≠0/\c.natAbs<1073741824/\Builtin.Range.small i j c=true)/\R (rngS i c (Builtin.Range.rangeSize i j c).toNat) (λ_=>True) G1
theorem qJr{K:PySem.W.Frag}{H:Hp}(lo c:Int)(n:Nat):uKt K H (Its lo c n) (rngS lo c n) λ_=>True:=by
 intro i H' G e g _;have hl:(rngS lo c n).length=n:=by simp[rngS]
 refine⟨λh=>by rw[hl] at h;exact h,λh=>by rw[hl] at h;exact h,λhi x H2 ⟨eH,ex⟩=> ?_⟩
 rw[hl] at hi;subst eH;subst ex;exact⟨.refl _,g,.int (lo+i*c),by simp[rngS,hi],rfl⟩
theorem qX1{X:Cx}{tg:Expr}{pos:Pos}{a b c:Expr}{ta:TA3}{p:Pos}(hg:Gl X "range")(hm:X.mg "range"=none)(ha:PA3 X [a,b,c] ta)(hs:starEach [a,b,c] X.env=[(false,eval a X.env),(false,eval b X.env),(false,eval c X.env)]:=by rfl)(hs2:starEach [b,c] X.env=[(false,eval b X.env),(false,eval c X.env)]:=by rfl):
  PI3 X tg (.Call (.Name "range" p) [a,b,c] [] pos) (qX3 ta):=by
 intro pins s τ G H R I h;obtain⟨σ,I0,hs0,hg0⟩:=id I;refine Call_ (jU9 I0 hg hm boot_range (lKy (thn (ha pos pins s τ G H _ I h) λus s1 w_=>w_.el λxs G1 H1 e1 i_ r_ q1=>i_.el λσ I1 hs1 hg1=>r_.el λas ras rvs=> ?_) (by rw[hs,hs2]) (by rw[hs2];rfl)))
 obtain⟨i,j,k,e,⟨q1,q2,q3⟩,q⟩:=q1;subst e;obtain⟨v,as1,rfl,rv,ras1⟩:=ras;obtain⟨w,z,rfl,rw',rz⟩:=kQ0 ras1;cases (show v= .int i from rv);cases (show w= .int j from rw');cases (show z= .int k from rz)
 cases rvs with
 | cons ru rvs=>
  obtain⟨u',u'',rfl,ru',ru''⟩:=Vals.two rvs;obtain⟨t,rfl⟩:=ru;obtain⟨t',rfl⟩:=ru';obtain⟨t'',rfl⟩:=ru'';refine call_range_3 q1 (thn (qK4 (tg:=tg) (R:=λJ H'=>J=Its i k (Builtin.Range.rangeSize i j k).toNat/\H'=H1) I1 q3 ⟨rfl,rfl⟩) λitv s2 z=> ?_) (Or.inl (lYj q2))
  obtain⟨it,fp,tn,J,H',ei,I2,T0,st,fk,eJ,eH⟩:=z;subst eJ;subst eH;exact⟨it,fp,tn,_,rngS i k (Builtin.Range.rangeSize i j k).toNat,λ_=>True,G1,H',ei,e1,⟨σ,I2,hs1,hg1⟩,T0,st,fk,qJr i k _,q⟩
def Draw(P:Program)(w:World)(A:Around)(i:Addr)(r:Option Value)(S S':Heap->Prop):Prop:=
 ∀(s:Shared)(Q E:Value->Shared->Prop),S s.heap->
  (∀x g,r=some x->S' g->Heap.SameBut i s.heap g->Q x {s with heap:=g})->
  (∀g e o,r=none->Heap.ExtBut i s.heap g->g.get? e=some o->o.cls= .type "StopIteration"->E (.ref e) {s with heap:=g})->
  wpAny (model P w) A (Builtin.SmallTypes.nextOf (.ref i)) Q E s
def qJ1(i t:Addr)(k:Nat)(xs:Array Value)(h:Heap):Prop:=h.IsTupleIter i t k/\h.IsTuple t xs
theorem kQm{P:Program}{w:World}{A:Around}{i t:Addr}{k:Nat}{xs:Array Value}(hh:A.handled=none)(ne:t≠i):Draw P w A i xs[k]? (qJ1 i t k xs) (qJ1 i t (k+1) xs):=by
 rintro s Q E ⟨⟨o,ho,hc,hd⟩,q,hq,hqc,n,hn⟩ item stop;have ty:s.TypeIs (.ref i) "tuple_iterator":=⟨o,ho,hc⟩;refine lJa (lVs (name:=Str.ofString "__next__") ty lZe (lQy lZe ty F.entry_tuple_iterator_next ?_ (F.args_tuple_iterator_next_1 _)));refine (show wpAny _ _ (field (.ref i) 0 >>= _) _ _ s from lJa (lKv ho hd (x:= .ref t) rfl ?_))
 refine (show wpAny _ _ (if (Value.ref t == Value.none)=true then _ else field (.ref i) 1 >>= _) _ _ s from ?_)
 rw[lJb (by exact lJl)]
 refine lJa (lKv ho hd (x:= .int k 0) rfl (show wpAny _ _ (seqItems? (.ref t) >>= _) _ _ s from lJa (lX7 hq hn ?_)))
 cases hx:xs[k]? with
 | some x=>
  simp only[hx,lYr]
  have up:qJ1 i t (k+1) xs (s.heap.update i (Obj.mapFields (·.setIfInBounds 1 (rawInt ((k:Int)+1))))):=by
   refine⟨⟨_,lK2 _ ho (Obj.isFreed_of_fields (Obj.data_mapFields hd _)),(Obj.cls_mapFields ..).trans hc,?_⟩,q,(lVk ..).extBut t q ne hq,hqc,n,hn⟩;rw[Obj.data_mapFields hd];simp[rawInt]
  exact lJa (wpAny_setField ho hd (by simp) (lJd ⟨x,rfl,lJd (item x _ hx up (lVk ..))⟩))
 | none=>
  simp only[hx,lYr];refine lJa (lVc (lJa (wpAny_setField ho hd (by simp) (show wpAny _ _ (newExc (.type "StopIteration") [] >>= _) _ _ _ from lJa ?_))))
  simp only[newExc,newTuple,raiseNew];refine lJa (lK1 (lJa (m:=firstArgMember _ _) (wpAny_of_eq (a:=Value.none) (by first | rfl | (simp only[firstArgMember];rfl)) (lK1 ?_ (by size_fits)))) (by size_fits))
  refine lJa (wpAny_handled ?_);rw[show A.in1.handled=none from hh]
  exact lJa (lJd (wpAny_throw (stop _ _ _ hx (((lVk ..).extBut.push _).push _) (lJ1 _ rfl) rfl)))
def itOf(t:Addr):Obj:={cls:= .type "tuple_iterator",data:= .fields #[.ref t,.int 0 0]}
theorem uKx{n a b:Nat}(ha:a<n)(hb:b<n):ZipApart (n+4) (n+2) (n+3) n (n+1) a b:=by
 constructor<;>(show @Ne Nat _ _;omega)
def zipT(xs ys:List T):List T:=(xs.zip ys).map λp=>T.tup [p.1,p.2]
end L3
namespace L3
open PySem
theorem atN{α:Type}{xs:List α}{n:Nat}:L2.atI xs (n:Int)=xs[n]? :=by
 unfold L2.atI L2.ixN
 by_cases h:n<xs.length
 .simp[h]
 .simp[h]
theorem at0{α:Type}{x:α}{xs:List α}:L2.atI (x::xs) 0=some x:=(atN (n:=0)).trans rfl
theorem at1{α:Type}{x y:α}{xs:List α}:L2.atI (x::y::xs) 1=some y:=(atN (n:=1)).trans rfl
theorem at2{α:Type}{x y z:α}{xs:List α}:L2.atI (x::y::z::xs) 2=some z:=(atN (n:=2)).trans rfl
theorem atZ{α:Type}{xs:List α}{i:Int}(h:0<=i):L2.atI xs i=xs[i.toNat]? :=by
 obtain⟨n,rfl⟩:=lKz h
 simpa using atN
theorem uKo{α:Type}{xs:List α}{y:α}:L2.atI (xs++[y]) (-1)=some y:=by
 unfold L2.atI L2.ixN;have:¬ (0:Int)<= -1:=by decide
 simp only[this,lJt];rw[lJc (by simp;omega)]
 have e:(-1+((xs++[y]).length:Int)).toNat=xs.length:=by simp;omega
 rw[e];simp
theorem kVk{n k:Nat}(h:k<n):L2.ixN n (k:Int)=some k:=by simp[L2.ixN,h]
theorem ix0{n:Nat}:L2.ixN (n+1) 0=some 0:=kVk (k:=0) (by omega)
theorem ix1{n:Nat}:L2.ixN (n+2) 1=some 1:=kVk (k:=1) (by omega)
theorem ix2{n:Nat}:L2.ixN (n+3) 2=some 2:=kVk (k:=2) (by omega)
theorem ix30:L2.ixN 3 0=some 0:=ix0
theorem ix31:L2.ixN 3 1=some 1:=ix1
theorem ix32:L2.ixN 3 2=some 2:=ix2
theorem ixZ{n:Nat}{k:Int}(h0:0<=k)(h:k<n):L2.ixN n k=some k.toNat:=by simp[L2.ixN,h0,h]
theorem qYs{G:Gp}{i j:Int}:addR G (.int i) (.int j)=some (.val (.int (i+j))):=rfl
theorem qYr{G:Gp}{p q:Addr}{xs ys:List T}(h1:G p=some (.lst xs))(h2:G q=some (.lst ys))(hz:xs.length+ys.length<=sizeLine):addR G (.ref p) (.ref q)=some (.newL (xs++ys)):=by simp only[addR,h1,h2,hz,lJ7]
theorem qXj{G:Gp}{i j:Int}:mulR G (.int i) (.int j)=some (.val (.int (i*j))):=rfl
theorem qXl{i j:Int}:mulC (.int i) (.int j)=L2.CMul i j:=rfl
theorem qXk{p:Addr}{j:Int}:mulC (.ref p) (.int j)=True:=rfl
theorem uJ7{t:T}{G:Gp}{Q:VK3}:fin3 (.val t) G Q=Q t G:=rfl
theorem qUf{xs:List T}{G:Gp}{Q:VK3}:fin3 (.newL xs) G Q=∀p,G p=none->Q (.ref p) (gup G p (.lst xs)):=rfl
theorem uJv{G:Gp}{xs:List T}{i:Int}:ixR G (.tup xs) (.int i)=L2.atI xs i:=rfl
theorem uJw{G:Gp}{xs:List T}{i:Int}:ixR G (.scr xs) (.int i)=L2.atI xs i:=rfl
theorem jKp{G:Gp}{p:Addr}{xs:List T}{i:Int}(h:G p=some (.lst xs)):ixR G (.ref p) (.int i)=L2.atI xs i:=by simp only[ixR,seqT,h,asL]
theorem jYh{G:Gp}{p:Addr}{xs:List T}{k:Int}{j:Nat}{v:T}(h:G p=some (.lst xs))(hj:L2.ixN xs.length k=some j):setR G (.ref p) (.int k) v=some (gup G p (.lst (xs.set j v))):=by simp only[setR,h,hj]
theorem qVv{G:Gp}{xs:List T}:seqT G (.tup xs)=some xs:=rfl
theorem jJo{G:Gp}{p:Addr}{xs:List T}(h:G p=some (.lst xs)):seqT G (.ref p)=some xs:=by simp only[seqT,h,asL]
theorem qY3{G:Gp}{p:Addr}{xs:List T}{k:Int}{v:T}(h:G p=some (.lst xs)):setR G (.ref p) (.int k) v=(L2.ixN xs.length k).map λj=>gup G p (.lst (xs.set j v)):=by
 cases e:L2.ixN xs.length k with
 | none=>simp only[setR,h,e,lXr]
 | some j=>simp only[setR,h,e,lQv]
theorem qVt{G:Gp}{p:Addr}{xs:List T}{k:Int}{v:T}:setR (gup G p (.lst xs)) (.ref p) (.int k) v=(L2.ixN xs.length k).map λj=>gup G p (.lst (xs.set j v)):=by
 rw[qY3 jJg];simp only[jYa]
theorem uJx{G:Gp}{p:Addr}{xs:List T}{i:Int}:ixR (gup G p (.lst xs)) (.ref p) (.int i)=L2.atI xs i:=jKp jJg
theorem qVw{G:Gp}{p:Addr}{xs:List T}:seqT (gup G p (.lst xs)) (.ref p)=some xs:=jJo jJg
def uKu(g:TG3)(tb:TS3)(D:Ends3)(τ:St3)(xs:List T)(stay:Gp->Prop)(G:Gp):Prop:=∃P:Nat->St3->Gp->Prop,P 0 τ G/\(∀i τ G,i<=xs.length->P i τ G->stay G)/\
 (∀i x τ G,xs[i]? =some x->P i τ G->g x τ G λτ2 G2=>tb {D with nx:=P (i+1),ct:=P (i+1),bk:=D.nx} τ2 G2)/\∀ τ G,P xs.length τ G->D.nx τ G
theorem jJ7{wi:TI3}{g:TG3}{tb:TS3}{D:Ends3}{τ:St3}{G:Gp}:tFor wi g tb D τ G=wi τ G λxs stay G1=>uKu g tb D τ xs stay G1:=rfl
def kZ5(mask:List Bool)(g:TG3)(tif:TT3)(te:TE3)(τ:St3)(xs:List T)(stay:Gp->Prop)(G:Gp)(Q:VK3):Prop:=kXk mask g tif te τ xs stay G Q
theorem qVm{mask:List Bool}{wi:TI3}{g:TG3}{tif:TT3}{te:TE3}{τ:St3}{G:Gp}{Q:VK3}:jQx mask wi g tif te τ G Q=wi τ G λxs stay G1=>kZ5 mask g tif te τ xs stay G1 Q:=rfl
def Sub(G G':Gp):Prop:=∀c o,G c=some o->G' c=some o
theorem Sub.refl(G:Gp):Sub G G:=λ_ _ h=>h
theorem Sub.trans{G G1 G2:Gp}(h:Sub G G1)(h':Sub G1 G2):Sub G G2:=λc o e=>h' c o (h c o e)
theorem Sub.new{p:Addr}{G:Gp}{o:GO}(hp:G p=none):Sub G (gup G p o):=λc u e=>by rw[jJl];exact e;rintro rfl;rw[hp] at e;cases e
theorem Sub.over{p:Addr}{G G':Gp}{o:GO}(h:Sub G G')(hp:G p=none):Sub G (gup G' p o):=λc u e=>by rw[jJl];exact h c u e;rintro rfl;rw[hp] at e;cases e
theorem Sub.none{G G':Gp}{p:Addr}(h:Sub G G')(hp:G' p=none):G p=none:=by
 cases e:G p with
 | none=>rfl
 | some o=>rw[h p o e] at hp;cases hp
theorem jJ4{G:Gp}{a p:Addr}{o:GO}(h:gup G a o p=none):p≠a/\G p=none:=by
 by_cases e:p=a
 .subst e;rw[jJg] at h;cases h
 .rw[jJl e] at h;exact⟨e,h⟩
theorem jJf{G:Gp}{a p:Addr}{o:GO}(h:G a=some o)(hp:G p=none):a≠p:=by rintro rfl;rw[h] at hp;cases hp
theorem jK4{α β:Type}{enc:α->β}{es:List α}{i:Nat}{x:β}(h:(es.map enc)[i]? =some x):∃e,es[i]? =some e/\x=enc e:=by
 rw[lJr] at h;cases e1:es[i]? with
 | none=>rw[e1] at h;cases h
 | some e=>rw[e1] at h;exact⟨e,rfl,(lJn h).symm⟩
theorem jUt{α:Type}{mask:List Bool}{g:TG3}{tif:TT3}{te:TE3}{τ:St3}{es:List α}{enc:α->T}{stay:Gp->Prop}{G:Gp}{Q:VK3}(f:α->Option T)(hz:es.length<=sizeLine)(hst:∀G',Sub G G'->stay G')
  (h:∀(i:Nat) e,es[i]? =some e->∀G' (K:T->Gp->Prop) (K0:Gp->Prop),Sub G G'->(∀y G4,f e=some y->Sub G' G4->K y G4)->(f e=none->∀G4,Sub G' G4->K0 G4)->g (enc e) (msk mask τ) G' λτ2 G2=>tif τ2 G2 λb G3=>if b=true then te τ2 G3 K else K0 G3)
  (hq:∀D G',G D=none->G' D=some (.lst (es.filterMap f))->Sub G G'->Q (.ref D) G'):kZ5 mask g tif te τ (es.map enc) stay G Q:=by
 intro D hD;refine⟨λi acc G'=>acc=(es.take i).filterMap f/\G' D=some (.lst acc)/\Sub G G',⟨by simp,jJg,.new hD⟩,?_,?_,?_⟩
 .rintro i acc G' hi ⟨ea,eg,hs⟩;exact⟨hst G' hs,eg⟩
 .rintro i x acc G' hx0 ⟨ea,eg,hs⟩;obtain⟨e,hx,rfl⟩:=jK4 hx0;have hi:i<es.length:=(lJe.mp hx).1;have tk:es.take (i+1)=es.take i++[e]:=by rw[lV3,hx];rfl
  have hlen:acc.length<sizeLine:=by
   have h1:acc.length<=(es.take i).length:=by rw[ea];exact lXs _ _
   rw[lVz] at h1;omega
  refine h i e hx G' _ _ hs (λy G4 hy h4=>⟨h4 D _ eg,hlen,?_,jJg,(hs.trans h4).over hD⟩) λhn G4 h4=>⟨?_,h4 D _ eg,hs.trans h4⟩
  .rw[tk,lK9,<-ea];simp[hy]
  .rw[tk,lK9,<-ea];simp[hn]
 .rintro acc G' ⟨ea,eg,hs⟩;rw[lJf,lVl] at ea;rw[ea] at eg;exact hq D G' hD eg hs
theorem jQ2{α:Type}{mask:List Bool}{g:TG3}{tif:TT3}{te:TE3}{τ:St3}{es:List α}{enc:α->T}{stay:Gp->Prop}{G:Gp}{Q:VK3}(f:α->T)(hz:es.length<=sizeLine)(hst:∀G',Sub G G'->stay G')
  (h:∀(i:Nat) e,es[i]? =some e->∀G' (K:T->Gp->Prop) (K0:Gp->Prop),Sub G G'->(∀G4,Sub G' G4->K (f e) G4)->g (enc e) (msk mask τ) G' λτ2 G2=>tif τ2 G2 λb G3=>if b=true then te τ2 G3 K else K0 G3)
  (hq:∀D G',G D=none->G' D=some (.lst (es.map f))->Sub G G'->Q (.ref D) G'):kZ5 mask g tif te τ (es.map enc) stay G Q:=by
 refine jUt (λe=>some (f e)) hz hst (λi e he G' K K0 hs hk _=>h i e he G' K K0 hs λG4 h4=>hk _ G4 rfl h4) λD G' hD h1 h2=>hq D G' hD ?_ h2
 rw[h1];congr 2;induction es with
 | nil=>rfl
 | cons a as ih=>simp
theorem jKx{G:Gp}{p:Addr}{xs:List T}(h:G p=some (.lst xs)):tyT G "list" (.ref p)=True:=by simp[tyT,h]
theorem qZo{G:Gp}{p:Addr}{xs:List T}:tyT (gup G p (.lst xs)) "list" (.ref p)=True:=jKx jJg
theorem kQd{α:Type}{mask:List Bool}{g:TG3}{tif:TT3}{te:TE3}{τ:St3}{es:List α}{enc:α->T}{stay:Gp->Prop}{G:Gp}{Q:VK3}(f:α->List T)(hz:es.length<=sizeLine)(hst:∀G',Sub G G'->stay G')
  (h:∀(i:Nat) e,es[i]? =some e->∀G' (K:T->Gp->Prop) (K0:Gp->Prop),Sub G G'->(∀p G4,G' p=none->G4 p=some (.lst (f e))->Sub G' G4->K (.ref p) G4)->g (enc e) (msk mask τ) G' λτ2 G2=>tif τ2 G2 λb G3=>if b=true then te τ2 G3 K else K0 G3)
  (hq:∀D rs G',G D=none->G' D=some (.lst (rs.map T.ref))->Sub G G'->rs.length=es.length->(D::rs).Nodup->(∀(i:Nat)(r:Addr)(e:α),rs[i]? =some r->es[i]? =some e->G r=none/\G' r=some (.lst (f e)))->Q (.ref D) G'):kZ5 mask g tif te τ (es.map enc) stay G Q:=by
 intro D hD;refine⟨λi acc G'=>∃rs:List Addr,acc=rs.map T.ref/\rs.length=i/\G' D=some (.lst acc)/\Sub G G'/\(D::rs).Nodup/\(∀(i:Nat)(r:Addr)(e:α),rs[i]? =some r->es[i]? =some e->G r=none/\G' r=some (.lst (f e))),⟨[],rfl,rfl,jJg,.new hD,by simp,by simp⟩,?_,?_,?_⟩
 .rintro i acc G' hi ⟨rs,ea,hl,eg,hs,hn,hr⟩;exact⟨hst G' hs,eg⟩
 .rintro i x acc G' hx0 ⟨rs,ea,hl,eg,hs,hn,hr⟩;obtain⟨e,hx,rfl⟩:=jK4 hx0;have hi:i<es.length:=(lJe.mp hx).1;have hlen:acc.length<sizeLine:=by rw[ea,lJf];omega
  refine h i e hx G' _ _ hs λp G4 hp h4 s4=>⟨s4 D _ eg,hlen,rs++[p],by simp[ea],by simp[hl],jJg,(hs.trans s4).over hD,?_,?_⟩
  .have hDp:D≠p:=jJf eg hp
   have hpr:p∉rs:=by
    intro hm;obtain⟨j,hj⟩:∃j:Nat,_:=lJ4 hm
    have hjl:j<rs.length:=(lJe.mp hj).1;have:=(hr j p es[j] hj (lJh (by omega))).2
    rw[hp] at this;cases this
   rw[lKk] at hn;simp only[lKk,lKt,lJ5,not_or,lQa,lJ2,not_false_eq_true,lV0,and_true];exact⟨⟨hn.1,hDp⟩,hn.2,trivial,λa ha b hb=>by subst hb;rintro rfl;exact hpr ha⟩
  .intro j r e' hj he';have hjl:j<rs.length+1:=by have:=(lJe.mp hj).1;simpa using this
   by_cases hjr:j<rs.length
   .rw[lKe hjr] at hj;obtain⟨q1,q2⟩:=hr j r e' hj he';have:r≠D:=by rintro rfl;exact (lKk.mp hn).1 (lJm hj)
    exact⟨q1,by rw[jJl this];exact s4 _ _ q2⟩
   .have hj2:j=rs.length:=by omega
    subst hj2;rw[lQk (lJg _)] at hj;simp at hj;subst hj;rw[hl,hx] at he';cases he';exact⟨hs.none hp,by rw[jJl (jJf eg hp).symm];exact h4⟩
 .rintro acc G' ⟨rs,ea,hl,eg,hs,hn,hr⟩;rw[ea] at eg;exact hq D rs G' hD eg hs (by simpa using hl) hn hr
end L3
namespace L3
open PySem PySem.Spec PyProof.Rows L2
section
variable {X:Cx}
def uQl:R3:=λx y G Q=>∃ys,x= .tup []/\y= .tup ys/\Q (.tup ys) G
theorem uQ7:Op3 X (binaryOp .Add) uQl:=by
 rintro pins s τ G H x y v u Q ⟨σ,I,hs,hg⟩ ⟨a,ra,rv⟩ ⟨b,rb,ru⟩ ⟨ys,ex,ey,q⟩;subst ex;subst ey;obtain⟨pa,vs,rfl,h1,r1⟩:=(show ∃p vs,a= .ref p/\H p=some (.tup vs)/\Reps X.K H [] vs from ra)
 obtain⟨pb,ws,rfl,h2,r2⟩:=(show ∃p vs,b= .ref p/\H p=some (.tup vs)/\Reps X.K H ys vs from rb)
 cases rv;cases ru;obtain⟨its,q1,p1,_⟩:=I.tuple (.of h1);obtain⟨its2,q2,p2,_⟩:=I.tuple (.of h2)
 have e0:its.toArray.isEmpty=true:=by
  have e1:=r1.length;have e2:=q1.length;have:its=[]:=List.eq_nil_of_length_eq_zero (by simp at e1;omega)
  rw[this];rfl
 obtain⟨⟨cls,dd,data,sl⟩,ho,hc,n,hd⟩:=id p1;obtain⟨⟨cls2,dd2,data2,sl2⟩,ho2,hc2,n2,hd2⟩:=id p2;simp only at hc hd hc2 hd2;subst hc hd hc2 hd2
 exact concat_meets ⟨_,ho,rfl⟩ ⟨_,ho2,rfl⟩ lY4 seq_tuple_add lYm lYn (lYo _ _) (tuple_addW0 pa pb its.toArray its2.toArray n n2 dd dd2 sl sl2 e0)
  ⟨ho,ho2,.tup ys,G,H,.refl H,⟨σ,I,hs,hg⟩,⟨.ref pb,⟨pb,ws,rfl,h2,r2⟩,rfl⟩,q⟩
def qZ8:R3:=λx y G Q=>jKz x y G Q\/uQl x y G Q
theorem uQ6:Op3 X (binaryOp .Add) qZ8:=o_addF.or uQ7
end
theorem qUr{P:Program}{w:World}{A:Around}(hh:A.handled=none)(it t:Addr)(ne:t≠it)(xs:Array Value):Draws P w A it [it,t] xs.size (λi v=>xs[i]? =some v) (λi h=>qJ1 it t i xs h) where
 live:=λ_ _ ⟨⟨o,ho,_⟩,_⟩=>⟨o,ho⟩
 frame:=λ_ _ _ ⟨⟨o,ho,r⟩,⟨q,hq,r'⟩⟩ k=>⟨⟨o,k it (by simp) o ho,r⟩,⟨q,k t (by simp) q hq,r'⟩⟩
 item:=λi s Q E hi st hQ=>kQm hh ne s Q E st (λx g e s' b=>hQ x g s.toks e s' b) λ_ _ _ e=>by rw[lYs hi] at e;cases e
 done:=λs Q E st hE=>kQm hh ne s Q E st (λx _ e=>by rw[Array.getElem?_eq_none (lJg _)] at e;cases e) λg e o _ b he hc=>hE g e b ⟨o,he,hc⟩
def kZt(i:Addr):Obj:={cls:= .type "enumerate",data:= .fields #[.none,.bool false,.ref i,rawInt 0,.none,.none]}
theorem qYg(t:Addr)(xs:Array Value):
  Meets (Builtin.«enumerate.__new__» ⟨[.type "enumerate",.ref t],[]⟩) λ_ R s=>s.heap.IsTuple t xs/\R (.ok (.ret (.ref (s.heap.push (itOf t)).objs.size))) {s with heap:=(s.heap.push (itOf t)).push (kZt s.heap.objs.size)}:=by
 refine .of_wp λP w A R s ⟨ht,h⟩=> ?_
 obtain⟨g,a1,a2,a3,a4⟩:=s;have sb:=sub_enumerate;have m1:Heap.IsTuple (Shared.heap ⟨g,a1,a2,a3,a4⟩) t xs:=ht;obtain⟨⟨c,dct,dt,sl⟩,hl,hc,n,hd⟩:=id ht
 replace hc:c= .type "tuple":=hc
 replace hd:dt= .seq xs n:=hd
 subst hc hd
 wp_walk using AutoSeq1.wpAny_loadPart' hl
 refine wpAny_stack_any (λstk=>lJd ?_)
 split
 .rename_i k _ _ _ _ _
  cases (k == Value.type "enumerate")<;>(wp_walk using AutoSeq1.wpAny_loadPart' hl,wpAny_pyIter_tuple m1;exact⟨_,rfl,h⟩)
 .wp_walk using AutoSeq1.wpAny_loadPart' hl,wpAny_pyIter_tuple m1;exact⟨_,rfl,h⟩
theorem qUl{P:Program}{w:World}{A:Around}{s:Shared}{t:Addr}{xs:Array Value}{Q E:Value->Shared->Prop}(ht:s.heap.IsTuple t xs)
  (h:∀g n,n=s.heap.objs.size->IsEnum g (n+1) n 0 .none->qJ1 n t 0 xs g->(∀c o,s.heap.get? c=some o->g.get? c=some o)->Q (.ref (n+1)) {s with heap:=g}):wpAny (model P w) A (call (.type "enumerate") [.ref t]) Q E s:=by
 refine callType_new F.called_enumerate (by decide) (F.typeCall_enumerate_1 _) (F.newCall_enumerate_1 _) (λobj=>lYt obj _) F.entry_enumerate_new (qYg t xs) ⟨ht,?_⟩
 have hn:∀(g:Heap)(o:Obj),(g.push o).objs.size=g.objs.size+1:=λ_ _=>lVy ..
 have up:∀{g:Heap}{o q:Obj}{c:Addr},g.get? c=some q->(g.push o).get? c=some q:=λe=>lJj _ e
 obtain⟨q,hq,hr⟩:=ht;have c0:((s.heap.push (itOf t)).push (kZt s.heap.objs.size)).get? s.heap.objs.size=some (itOf t):=up (lJ1 _ rfl);have c1:((s.heap.push (itOf t)).push (kZt s.heap.objs.size)).get? (s.heap.push (itOf t)).objs.size=some (kZt s.heap.objs.size):=lJ1 _ rfl;show _/\_
 simp only[hn] at c1 ⊢;exact⟨⟨_,c1,rfl⟩,h _ _ rfl c1 ⟨⟨_,c0,rfl,rfl⟩,q,up (up hq),hr⟩ λc o e=>up (up e)⟩
theorem jVf{P:Program}{w:World}{A:Around}{s:Shared}{e it t:Addr}{i:Int}{k:Nat}{old:Value}{xs:Array Value}{Q:Option Value->Shared->Prop}{E:Value->Shared->Prop}(hh:A.handled=none)(ne:t≠it)(he:IsEnum s.heap e it i old)(st:qJ1 it t k xs s.heap)(hk:xs.size<=k)
  (hQ:∀g,Heap.ExtBut it s.heap g->Q none {s with heap:=g}):wpAny (model P w) A (pyNext (.ref e)) Q E s:=by
 have ty:s.TypeIs (.ref e) "enumerate":=⟨_,he,rfl⟩;refine lJa (lYa (lVs (name:=Str.ofString "__next__") ty F.slot_enumerate_next (lQy F.slot_enumerate_next ty F.entry_enumerate_next ?_ (F.args_enumerate_next_1 _))));refine (show wpAny _ _ (field (.ref e) 2 >>= _) _ _ _ from lJa (lKv he rfl (x:= .ref it) rfl (lJa ?_)))
 refine kQm (A:=A.in1) hh ne s _ _ st (λx _ e=>by rw[Array.getElem?_eq_none hk] at e;cases e) λg x o _ b hx hc=> ?_
 exact lJa (lXb (T:="StopIteration") (b:=true) ⟨o,hx,hc⟩ isSubtype_stop (lJd (hQ g b)))
noncomputable def Itn(K:PySem.W.Frag)(a:Addr):It:=
 ⟨λi H=>∃xs x,SqT K H a xs/\xs[i]? =some x,λi H x H'=>∃p y,H p=none/\x= .ref p/\(∀xs,SqT K H a xs->xs[i]? =some y)/\H'=upd H p (.tup [.int i,y]),λi H=>∃xs,SqT K H a xs/\xs.length<=i⟩
theorem kZs{h:Heap}{a e it:Addr}{i:Int}{old:Value}{k:Nat}{xs:Array Value}(he:IsEnum h e it i old)(hi:h.IsTupleIter it a k)(ht:h.IsTuple a xs):a≠it/\e∉[it,a]:=by
 obtain⟨o,ho,hc,_⟩:=hi;obtain⟨q,hq,hqc,_⟩:=ht;refine⟨λz=> ?_,λm=> ?_⟩
 .subst z;rw[ho] at hq;cases hq;rw[hc] at hqc;simp at hqc
 .simp only[lJk,lJ2,lKs] at m
  rcases m with rfl | rfl
  .rw[he] at ho;cases ho;simp at hc
  .rw[he] at hq;cases hq;simp at hqc
theorem qJa{P:Program}{w:World}{K:PySem.W.Frag}{elts:List Expr}{k:Nat}{pos:Pos}(a e it:Addr)(hei:e≠it):
  Turn P w K (.Tuple elts k pos) (Itn K a) [e,it] e (λi h=>(∃old,IsEnum h e it i old)/\h.IsTupleIter it a i) where
 mem:=lKg ..
 obj:=λi h ⟨⟨old,h1⟩,h2⟩ b hb=>by
  simp only[lJ2,lJk,lKs] at hb
  rcases hb with rfl | rfl
  .exact⟨_,h1,λv z=>nomatch (show Data.fields _=Data.cell v from z)⟩
  .obtain⟨o,e2,c,d⟩:=h2;exact⟨o,e2,λv z=>by rw[d] at z;cases z⟩
 keep:=λi h h' ⟨⟨old,h1⟩,h2⟩ kp=>⟨⟨old,kp e (by simp) _ h1⟩,h2.at λo q=>kp it (by simp) o q⟩
 item:=by
  rintro X hP hw hK hc i pins s σ H E I hf ⟨⟨old,he⟩,hit⟩ ⟨xs,x,hq,hx⟩;subst hP hw hK;obtain⟨its,rv,p,hz⟩:=I.tuple hq;obtain⟨u,hu,ru⟩:=rv.get hx;have p':s.heap.IsTuple a its.toArray:=p;obtain⟨nei,hef⟩:=kZs he hit p';have hlt:i<its.toArray.size:=by simpa using (lJe.mp hu).1
  refine wpAny_pyNext_enum_itemD (qUr (A:=X.A.in1) (I.ok.hd hc) it a nei its.toArray) he ⟨hit,p'⟩ hlt hei hef λx' h1 tk hx' ho hit1 hT hsz hk=> ?_
  obtain rfl:u=x':=by simpa[hu] using hx'
  refine⟨_,rfl,lZg ho λh2 he2 hs2=> ?_⟩
  have hel:e<s.heap.objs.size:=lJi he
  have hp2:∀b o,b∉[e,it]->s.heap.get? b=some o->h2.get? b=some o:=λb o hb q=>by
   simp only[lJk,lJ2,lKs,not_or] at hb;exact (hs2.2 b hb.1).trans (hk b o hb.1 hb.2 q)
  have hT2:h2.get? s.heap.objs.size=some {cls:= .type "tuple",data:= .seq #[.int i tk,u]}:=(hs2.2 _ (lQr hel)).trans hT;have I2:=jZ3 (t':=tk+1) (h':=h2) (p:=s.heap.objs.size) (vs:=[.int i,x]) (us:=[.int i tk,u]) I hp2 hf (lJg _) ⟨_,hT2,rfl,_,rfl,rfl⟩ (.cons ⟨_,rfl⟩ (.cons ru .nil)) (by show 2<=sizeLine;decide)
  refine⟨.ref s.heap.objs.size,_,I2,rfl,⟨_,x,I.hok.fresh (lJg _),rfl,λys hy=>by rw[I.tuple_inj hy hq];exact hx,rfl⟩,⟨⟨u,by simpa using he2⟩,hit1.1.at λo q=>(hs2.2 it hei.symm).trans q⟩,λb hb=> ?_⟩
  have hbs:∃o,s.heap.get? b=some o:=by
   have hb':=hb;simp only[lJ2,lJk,lKs] at hb'
   rcases hb' with rfl | rfl
   .exact⟨_,he⟩
   .obtain⟨o,q,_⟩:=hit;exact⟨o,q⟩
  obtain⟨o,q⟩:=hbs;rw[jJt (lJp (lJi q))];exact (hf b hb).1
 done:=by
  rintro X hP hw hK hc i pins s σ H E I hf ⟨⟨old,he⟩,hit⟩ ⟨xs,hq,hx⟩;subst hP hw hK;obtain⟨its,rv,p,hz⟩:=I.tuple hq;have p':s.heap.IsTuple a its.toArray:=p;obtain⟨nei,hef⟩:=kZs he hit p';have hl:=rv.length;refine jVf (I.ok.hd hc) nei he ⟨hit,p'⟩ (by simp;omega) λh1 hx1=>⟨rfl,jZ4 (t':=s.toks) I (λb o hb q=>hx1 b o (λz=>hb (by simp[z])) q) hf⟩
 self:=λ_ _ _ _ _ ⟨⟨old,he⟩,_⟩ h=>lX8 he h
def iEnT(ta:TA3):TI3:=λτ G R=>ta τ G λvs G1=>∃xs,vs=[.tup xs]/\R (numT xs) (λ_=>True) G1
theorem qQ7{X:Cx}{elts:List Expr}{k:Nat}{tpos pos p:Pos}{a:Expr}{ta:TA3}(hg:Gl X "enumerate")(hm:X.mg "enumerate"=none)(hv:bootBuiltins "enumerate"=some (.type "enumerate"))(ha:PA3 X [a] ta)(hs:starEach [a] X.env=[(false,eval a X.env)]:=by rfl):
  PI3 X (.Tuple elts k tpos) (.Call (.Name "enumerate" p) [a] [] pos) (iEnT ta):=by
 intro pins s τ G H R I h;obtain⟨σ0,I0,_,_⟩:=id I;refine Call_ (jU9 I0 hg hm hv (lKy (thn (ha pos pins s τ G H _ I h) λus s1 w_=>w_.el λxs' G1 H1 e1 i_ r_ q1=>i_.el λσ I1 hs1 hg1=>r_.el λas ras rvs=> ?_) hs rfl))
 obtain⟨xs,e,q⟩:=q1;subst e;obtain⟨v,rfl,rv⟩:=jU7 ras;obtain⟨u,rfl,ru⟩:=rvs.one;obtain⟨pa,vs,rfl,hq,r⟩:=(show ∃p vs,v= .ref p/\H1 p=some (.tup vs)/\Reps X.K H1 xs vs from rv)
 cases ru;obtain⟨its,rvv,pl,hz⟩:=I1.tuple (.of hq);refine qUl (show s1.heap.IsTuple pa its.toArray from pl) λh1 n hn he hit hk=> ?_
 subst hn;have I2:Inv X pins σ H1 {s1 with heap:=h1}:=I1.kept (t':=s1.toks) hk
 refine lX8 (Q:=PIE3 X pins τ H (.Tuple elts k tpos) R) he ?_
 have fr:∀b∈[s1.heap.objs.size+1,s1.heap.objs.size],FpOk X pins H1 b:=λb hb=>by
  simp only[lJ2,lJk,lKs] at hb;have hle:s1.heap.objs.size<=b:=by omega
  exact I1.fpOk hle (I1.hok.fresh hle)
 refine⟨s1.heap.objs.size+1,[s1.heap.objs.size+1,s1.heap.objs.size],_,_,numT xs,λ_=>True,G1,H1,rfl,e1,⟨σ,I2,hs1,hg1⟩,qJa pa _ _ (Nat.succ_ne_self _),⟨⟨.none,he⟩,hit.1⟩,fr,?_,q⟩
 intro i H2 G2 e2 g2 _;obtain⟨pb,ws,eb,h1',h2⟩:=(show ∃p vs,V.ref pa= .ref p/\H2 p=some (.tup vs)/\Reps X.K H2 xs vs from Rep.mono e2 _ rv)
 cases eb;have hlen:=h2.length;refine⟨λhi=> ?_,λhi=>⟨ws,.of h1',by rw[jKm] at hi;omega⟩,λhi y H' ⟨pp,z,hn,ey,hy,eH⟩=> ?_⟩
 .rw[jKm] at hi;exact⟨ws,ws[i]'(by omega),.of h1',by simp[hlen▸hi]⟩
 .subst ey;subst eH;obtain⟨t,ht,rt⟩:=h2.get' (hy ws (.of h1'));exact⟨.upd (.none hn),g2.tupNew hn,_,jVr ht,Rep.tupNew ⟨_,_,rfl,rfl,_,_,rfl,rt,rfl⟩ hn⟩
section
variable {X:Cx}
theorem qU7{K:PySem.W.Frag}{H:Hp}{y:T}{b:V}(ry:Rep K H y b)(fy:jVd y=true):∀{xs:List T}{vs:List V}{us:List Value},Reps K H xs vs->Vals vs us->xs.all jVd=true->∀(m:Nat)(x:T)(u:Value),xs[m]? =some x->us[m]? =some u->eqU b u=eqT x y
 | [],_,_,_,_,_=>λm x u h=>by simp at h
 | x::xs,_,_,⟨v,ws,e,r1,r2⟩,q,f=>by
  subst e;cases q with
  | cons q1 q2=>
   rw[lQl,lKl] at f;intro m z u hz hu;cases m with
   | zero=>cases hz;cases hu;rw[kZp q1 (jXo r1 f.1),kYd r1 ry f.1 fy]
   | succ m=>exact qU7 ry fy r2 q2 f.2 m z u hz hu
noncomputable def kJk:T->List T->Gp->VK3->Prop:=λx as G Q=>∃(p:Addr)(xs:List T)(y z:T)(j:Nat),x= .ref p/\as=[y]/\G p=some (.lst xs)/\jVd y=true/\xs.all jVd=true/\xs[j]? =some z/\eqT z y=true/\(∀(m:Nat)(t:T),m<j->xs[m]? =some t->eqT t y=false)/\Q (.int j) G
theorem kUc:Mt3 X "list.index" kJk:=by
 rintro pins s τ G H x as v us Q ⟨σ,I,hs,hg⟩ ⟨a,ra,rv⟩ ⟨bs,rbs,rus⟩ ⟨p,xs,y,z,j,ex,ea,hp,fy,fs,hj,hit,hno,q⟩;subst ex;subst ea;cases (show a= .ref p from ra);cases rv
 obtain⟨b,rfl,rb⟩:=jU7 rbs;obtain⟨u,rfl,ru⟩:=rus.one;obtain⟨vs,h1,h2⟩:=hg.lst hp;obtain⟨hz,its,n,r,hl,e⟩:=I.lstM h1;have fl:=(jZu rb fy h2 fs).1;have hlen:its.length=xs.length:=by have:=r.length;have:=h2.length;omega
 have hjl:j<xs.length:=(lJe.mp hj).1;have hsl:=kJs;refine lQ9 F.slot_list_index ⟨_,e,rfl⟩ F.entry_list_index (F.args_list_index_2 _ _) (SeqAt.list_indexAt p its.toArray n none #[] u (eqU b) j (by simp;omega) (by omega) ?_ ?_) ⟨e,λw hw=>jVt ru (jXo rb fy) r fl w (by simpa using hw),?_⟩
 .rw[qU7 rb fy h2 r fs j z _ hj (by simp)];exact hit
 .intro m hm hmj;have hx:xs[m]? =some xs[m]:=lJh (by omega)
  rw[qU7 rb fy h2 r fs m xs[m] _ hx (by simp)];exact hno m _ hmj hx
 .exact⟨.int _,G,H,.refl H,⟨σ,I.tok _,hs,hg⟩,⟨.int _,rfl,s.toks,rfl⟩,q⟩
noncomputable def qKl(tk tv:TE3):TE3:=λτ G Q=>∀p,G p=none->tk τ (gup G p (.dck [])) λx G1=>tv τ G1 λy G2=>∃k,jZl x=some k/\G2 p=some (.dck [])/\Q (.ref p) (gup G2 p (.dck [(k,y)]))
theorem uKb{pos:Pos}{k v:Expr}{tk tv:TE3}(hk:PE3 X k tk)(hv:PE3 X v tv):PE3 X (.Dict [some k] [v] pos) (qKl tk tv):=by
 rintro pins s τ G H Q ⟨σ,I,hs,hg⟩ h;have hn:=I.hok.fresh (lJg s.heap.objs.size);have I1:=I.laid (a:=s.heap.objs.size) (o:= .dK []) (h':=s.heap.push {cls:= .type "dict",data:= .dict #[]}) (t':=s.toks) (λ_ _ q=>lJj _ q) (lJg _) (kZw s.heap I.big)
 have I3:Inv3 X pins τ (gup G s.heap.objs.size (.dck [])) (upd H s.heap.objs.size (.dK [])) {s with heap:=s.heap.push {cls:= .type "dict",data:= .dict #[]},toks:=s.toks}:=
  ⟨σ,I1,hs.mono (.upd (.none hn)),hg.upd (.none hn) (go:= .dck []) ⟨[],jJy,.nil⟩⟩
 refine wpAny_Dict_walk (knd:=jK8 X.prog X.w) rfl rfl (by simp) (by simp) (pairTrees_cons_walk (thn (hk pins _ τ _ _ _ I3 (h _ (hg.fresh hn))) λu s1 w_=>w_.el λx G1 H1 e1 J1 ru q1=>thn (hv pins s1 τ G1 H1 _ J1 q1) λu2 s2 w_=>w_.el λy G2 H2 e2 i_ ru2 ⟨key,hkey,hd,q2⟩=>i_.el λσ2 J2 hs2 hg2=>pairTrees_nil_walk ?_))
 obtain⟨ws,hH2,pk⟩:=(show ∃ws,H2 s.heap.objs.size=some (.dK ws)/\PKV X.K H2 [] ws from hg2 _ _ hd)
 cases pk;obtain⟨a,ra,rva⟩:=ru.mono e2;obtain⟨c,rc,rvc⟩:=ru2;obtain rfl:=jYr hkey ra;obtain⟨rs,cr,rk⟩:=kQg (P:=X.prog) (w:=X.w) (kvs:=[(key,c)]) (ws:=[(u,u2)]) (.cons ⟨rva,rvc⟩ .nil);obtain⟨z,hdd,vs0,r0,dd⟩:=uKc J2.hok hH2;cases r0;refine⟨rs,cr,dd,λh' dd' hsb=> ?_⟩
 have he:∃q,h'.get? s.heap.objs.size=some q:=let ⟨q,_,_,hq,_⟩:=dd';⟨q,hq⟩
 have JJ:=kUn (t':=s2.toks+[(u,u2)].length) J2 (by rw[hH2];exact True.intro) hsb he (qZf (kvs:=[(key,c)]) (by rw[lQf];exact Nat.succ_le_of_lt (Nat.succ_pos _)) hdd (rk.merge .nil) dd')
 have ext:Ext H2 (upd H2 s.heap.objs.size (.dK [(key,c)])):= .upd (.dK hH2);exact⟨.ref s.heap.objs.size,_,_,(((Ext.upd (.none hn)).trans e1).trans e2).trans ext,⟨σ2,JJ,hs2.mono ext,hg2.upd (.dK hH2) (go:= .dck [(key,y)]) ⟨_,jJy,PKV.put (kvs:=[]) .nil key (Rep.mono ext _ rc)⟩⟩,⟨.ref _,rfl,rfl⟩,q2⟩
end
section
variable {X:Cx}
theorem uVz{P:Program}{w:World}{k:Key}{u:Value}(h:(jK8 P w).is k u=true):RelV (kV k) u:=by
 cases k with
 | inl i=>exact Value.isInt_shape h
 | inr x=>
  have h':Value.isStrOf x u=true:=h;cases u<;>simp[Value.isStrOf] at h'
  subst h';exact⟨_,rfl⟩
theorem kU0:∀(us:List Value)(ks:List Key),us.length=ks.length->(∀(j:Nat)(v:Value)(k:Key),us[j]? =some v->ks[j]? =some k->RelV (kV k) v)->Vals (ks.map kV) us
 | [],[],_,_=> .nil
 | u::us,k::ks,hl,h=> .cons (h 0 u k rfl rfl) (kU0 us ks (by simpa using hl) λj v k' h1 h2=>h (j+1) v k' h1 h2)
 | [],_::_,e,_=>by simp at e
 | _::_,[],e,_=>by simp at e
theorem jZ9{K:PySem.W.Frag}{H:Hp}:∀ks:List Key,Reps K H (ks.map kT) (ks.map kV)
 | []=>rfl
 | .inl i::ks=>⟨_,_,rfl,rfl,jZ9 ks⟩
 | .inr x::ks=>⟨_,_,rfl,rfl,jZ9 ks⟩
theorem KV.keys{kvs:List (Key×V)}{vs:List (Key×Value)}(h:KV kvs vs):vs.map Prod.fst=kvs.map Prod.fst:=by
 unfold KV at h
 induction h with
 | nil=>rfl
 | cons h t ih=>rw[lJv,lJv,ih,h.1]
theorem PKV.keys{K:PySem.W.Frag}{H:Hp}{kvs:List (Key×T)}{ws:List (Key×V)}(h:PKV K H kvs ws):ws.map Prod.fst=kvs.map Prod.fst:=by
 unfold PKV at h
 induction h with
 | nil=>rfl
 | cons h t ih=>rw[lJv,lJv,ih,h.1]
noncomputable def qK7:List T->Gp->VK3->Prop:=λxs G Q=>∃(p:Addr)(kvs:List (Key×T)),xs=[.ref p]/\G p=some (.dck kvs)/\∀q,G q=none->Q (.ref q) (gup G q (.lst (kvs.map λkv=>kT kv.1)))
theorem uKl(hc:X.calm=true):Call3 X (.type "list") qK7:=by
 rintro pins s τ G H xs us Q ⟨σ,I,hs,hg⟩ ⟨as,ras,rvs⟩ ⟨p,kvs,e,hp,q⟩;subst e;obtain⟨v,rfl,rv⟩:=jU7 ras;obtain⟨u,rfl,ru⟩:=rvs.one;cases (show v= .ref p from rv);cases ru
 obtain⟨ws,h1,h2⟩:=(show ∃ws,H p=some (.dK ws)/\PKV X.K H kvs ws from hg p _ hp)
 obtain⟨z,hd,vs,kv,dd⟩:=uKc I.hok h1;obtain⟨ep,dat⟩:=dd.dictAt;have hk:=KV.keys kv;have hk2:ws.map Prod.fst=kvs.map Prod.fst:=PKV.keys h2;have hlen:vs.length=ws.length:=by simpa using lJx List.length hk
 refine PySem.W.kdl_call (PySem.W.kdl_dict (knd:=jK8 X.prog X.w) (kvs:=vs) (ep:=ep) hd) (I.ok.hd hc) dat (by omega) λh' tk acc c' kp hn it=> ?_
 have hv:Vals ((kvs.map Prod.fst).map kV) acc.toList:=kU0 _ _ (by rw[<-hk2,<-hk];simpa using it.1) λj v k h1 h2=>by
  obtain⟨k',x,e1,e2⟩:=it.2 j v (by simpa using h1)
  rw[<-hk2,<-hk,lJr,e1] at h2;cases h2;exact uVz e2
 have fr:=I.hok.fresh (lJg s.heap.objs.size);have hkl:(kvs.map Prod.fst).length=ws.length:=by rw[<-hk2];simp
 have I3:=I.laid (a:=s.heap.objs.size) (o:= .lst ((kvs.map Prod.fst).map kV)) (h':=h') (t':=tk) kp (lJg _) ⟨by rw[lJf,hkl];exact z,acc.toList,c',hv,by simpa using hn⟩
 have ext:Ext H (upd H s.heap.objs.size (.lst ((kvs.map Prod.fst).map kV))):= .upd (.none fr);refine⟨.ref _,_,_,ext,⟨σ,I3,hs.mono ext,hg.lstNew (jZ9 _) (.none fr)⟩,⟨.ref _,rfl,rfl⟩,?_⟩;have:=q _ (hg.fresh fr);rw[lKf];exact this
end
end L3
namespace L3
open PySem PySem.Spec PyProof.Rows L2 MeetsSeq
section
variable {X:Cx}
end
end L3
namespace L3
open PySem PySem.Spec PyProof.Rows L2
section
variable {X:Cx}
end
theorem qJo:typeLookup (.type "list_reverseiterator") "__len__"=pure none:=by rw[lYb,lYc];kernel_rfl
theorem kX7:typeLookup (.type "list_reverseiterator") "__length_hint__"=pure (some (.builtin "list_reverseiterator.__length_hint__")):=by rw[lYb,lYc];kernel_rfl
theorem qX5{P:Program}{w:World}{A:Around}{E:Value->Shared->Prop}{s:Shared}{it:Addr}{Q:Bool->Shared->Prop}(ty:s.TypeIs (.ref it) "list_reverseiterator")(h:Q false s):wpAny (model P w) A (Builtin.List.listLengthHint (.ref it)) Q E s:=by
 (unfold Builtin.List.listLengthHint)
 refine lJa (lQo ty qJo ?_);refine (show wpAny _ A (specialOf (Value.ref it) (Str.ofString "__length_hint__") >>= _) _ _ _ from lJa (lQo ty kX7 ?_))
 generalize hn:("list_reverseiterator.__length_hint__":String)=nm
 wp_delta
 rw[show splitId nm=some ("list_reverseiterator","__length_hint__") by subst hn;decide +kernel];subst hn
 refine lJa (lXb (T:="list_reverseiterator") (b:=true) ty (by rw[isSubtype_type];kernel_rfl) (lYd (λz=>absurd z (by decide)) λ_=> ?_))
 exact lYd (λ_=>lYd (λz=>absurd z (by decide +kernel)) λ_=>lJd h) λz=>absurd (by decide +kernel) z
theorem qJv{P:Program}{w:World}{A:Around}{s:Shared}{R:Result->Shared->Prop}{it l S:Addr}{xs:Array Value}(hh:A.handled=none)(hi:s.heap.IsRevIter it l ((xs.size:Int)-1))(hl:s.heap.IsList l xs)(hz:xs.size<=sizeLine)(res:Value)(c0:Nat)
  (hS:s.heap.get? S=some {cls:= .type "list",data:= .seq #[] c0}) (hSl:S≠l)
  (hR:∀(g:Heap)(tk:Nat)(acc:Array Value)(c':Nat),(∀d o,d≠S->d≠it->s.heap.get? d=some o->g.get? d=some o)->g.get? S=some {cls:= .type "list",dict:=none,data:= .seq acc c',slots:= #[]}->ItemsOf (λi v=>xs[xs.size-1-i]? =some v) acc xs.size->R (.ok (.ret res)) {s with heap:=g,toks:=tk}):
  wpAny (model P w) A.in1 (Builtin.List.listExtendWith (.ref S) (.ref it) res) (λfin z=>match fin with | .done f=>R (.ok f) z | .again c'=>c'.quiet=true/\codeAny (model P w) A c' R z) (λe z=>R (.error e) z) s:=by
 have hSi:S≠it:=by
  rintro rfl;obtain⟨o,ho,hc,_⟩:=hi;rw[hS] at ho;cases ho;exact absurd hc (show ¬ Value.type "list"=Value.type "list_reverseiterator" by decide)
 have ne:l≠it:=by
  rintro rfl;obtain⟨o,ho,hc,_⟩:=hi;obtain⟨o',ho',hc',_⟩:=hl;rw[ho] at ho';cases ho';rw[hc] at hc';exact absurd hc' (by decide)
 have Wk:=(Walks.listRev (prog:=P) (w:=w) (A:=A.in1) hh it l ne xs).toS;have hSf:S∉[it,l]:=by simp[hSi,hSl]
 (unfold Builtin.List.listExtendWith)
 refine lJa (lQp hi.typeIs ?_);have z1:Builtin.List.listSameRef (.ref S) (.ref it)=false:=by simp[Builtin.List.listSameRef,hSi]
 have z2:(Value.type "list_reverseiterator" == Value.type "list")=false:=by decide
 have z3:(Value.type "list_reverseiterator" == Value.type "tuple")=false:=by decide
 simp only[z1,z2,z3,Bool.or_false,lKp,lJt];refine lJa (wpAny_pyIter_revIter hi (lJa (lKo (qX5 hi.typeIs ?_))));refine lYd (λz=>absurd z (by decide +kernel)) λ_=>lJd ⟨lVe F.plain_extend_loop _,?_⟩
 refine codeAny_extend_loopS Wk hz S hSf res xs.size 0 _ #[] c0 rfl (lJ0 _) ⟨lJ0 _,by simpa using hi,hl⟩ hS (ItemsOf.nil _) λz acc c' hm hS' hacc=> ?_
 rw[Moved.eq_with hm];exact hR z.heap z.toks acc c' (λb o h1 h2 e=>hm.heap b o (by simp[h1,h2]) e) hS' hacc
theorem kYl{P:Program}{w:World}{A:Around}{E:Value->Shared->Prop}{s:Shared}{it l:Addr}{xs:Array Value}{Q:List Value->Shared->Prop}(hh:A.handled=none)(hi:s.heap.IsRevIter it l ((xs.size:Int)-1))(hl:s.heap.IsList l xs)(hz:xs.size<=sizeLine)
  (hQ:∀(g:Heap)(tk:Nat)(acc:Array Value),(∀d o,d≠it->s.heap.get? d=some o->g.get? d=some o)->s.heap.objs.size<g.objs.size->ItemsOf (λi v=>xs[xs.size-1-i]? =some v) acc xs.size->Q acc.toList {s with heap:=g,toks:=tk}):wpAny (model P w) A (collect (.ref it)) Q E s:=by
 have key:∀R:Result->Shared->Prop,(∀(g:Heap)(tk:Nat)(acc:Array Value)(c':Nat),(∀d o,d≠it->s.heap.get? d=some o->g.get? d=some o)->g.get? s.heap.objs.size=some {cls:= .type "list",dict:=none,data:= .seq acc c',slots:= #[]}->ItemsOf (λi v=>xs[xs.size-1-i]? =some v) acc xs.size->R (.ok (.ret (.ref s.heap.objs.size))) {s with heap:=g,toks:=tk})->
   codeAny (model P w) A (.builtin "proto.collect" ⟨[.ref it],[]⟩) R s:=by
  intro R hR;refine lQz F.entry_proto_collect ?_;rw[lQw F.plain_proto_collect _];refine (show wpAny _ A.in1 (newList [] >>= λl=>again (.builtin "list.__iadd__" ⟨[l,.ref it],[]⟩)) _ _ s from lJa (lK1 (lJd ⟨lVe F.plain_list_iadd _,lQz F.entry_list_iadd ?_⟩)))
  rw[lQw F.plain_list_iadd _];have hS:(s.heap.push {cls:= .type "list",data:= .seq ([]:List Value).toArray}).get? s.heap.objs.size=some {cls:= .type "list",data:= .seq ([]:List Value).toArray}:=lJ1 _ rfl;obtain⟨ol,hol,hcl⟩:=id hl;exact qJv (A:=A) (R:=R) hh (hi.at λo e=>lJj _ e) ⟨ol,lJj _ hol,hcl⟩ hz (.ref s.heap.objs.size) _ hS (lQr (lJi hol)) λg tk acc c' kp hS' itm=>hR g tk acc c' (λd o h1 e=>kp d o (lJp (lJi e)) h1 (lJj _ e)) hS' itm
 unfold collect;exact lJa (wpAny_runValue (key _ λg tk acc c' kp hS' itm=>(show wpAny _ A (load s.heap.objs.size >>= _) _ _ _ from lJa (wpAny_load hS' (lJd (hQ g tk acc kp (lJi hS') itm))))))
theorem qKg{P:Program}{w:World}{A:Around}{E:Value->Shared->Prop}{s:Shared}{it l:Addr}{xs:Array Value}{Q:Value->Shared->Prop}(hh:A.handled=none)(hi:s.heap.IsRevIter it l ((xs.size:Int)-1))(hl:s.heap.IsList l xs)(hz:xs.size<=sizeLine)
  (hQ:∀(g:Heap)(tk:Nat)(acc:Array Value),(∀d o,d≠it->s.heap.get? d=some o->g.get? d=some o)->s.heap.objs.size<g.objs.size->ItemsOf (λi v=>xs[xs.size-1-i]? =some v) acc xs.size->Q (.ref g.objs.size) {s with heap:=g.push {cls:= .type "tuple",data:= .seq acc},toks:=tk}):
  wpAny (model P w) A (call (.type "tuple") [.ref it]) Q E s:=by
 refine callType_codes (Q₁:=λobj z=>z.TypeIs obj "tuple"/\Q obj z) lVm (F.typeCall_tuple_1 _) F.entry_object_init (lY7 ?_) λobj z hz=>⟨hz.1,lYt obj _,object_init_meets lVm.init.lookup lVm.made (by decide) P w A.in1 _ z ⟨hz.1,rfl,hz.2⟩⟩
 refine (show wpAny _ A.in1.in1 (do checkBuiltinCall "tuple.__new__" ⟨[.type "tuple",.ref it],[]⟩;again (.builtin "tuple.__new__" ⟨[.type "tuple",.ref it],[]⟩)) _ _ s from lJa (wpAny_of_eq (F.newCall_tuple_1 _) (lJd ⟨lVe lXt _,lQz F.entry_tuple_new ?_⟩)))
 rw[lQw lXt _];have h1:=sub_tuple_self;have h2:=init_tuple_lookup;have h3:=madeHere_tuple;have ty:=hi.typeIs
 wp_walk using wpAny_typeOf ty,kYl (A:=A.in1.in1) hh hi hl hz
 intro g tk acc kp big itm;refine (show wpAny _ _ (Builtin.Tuple.tupleExact acc.toList.toArray >>= λx=>ret x) _ _ _ from ?_)
 unfold Builtin.Tuple.tupleExact;refine lJa (lK1 (lJd ?_) (by show acc.toList.toArray.size<=sizeLine;simp only[Array.toArray_toList];rw[itm.1];exact hz))
 rw[show acc.toList.toArray=acc by simp]
 exact⟨⟨_,lJ1 _ rfl,rfl⟩,hQ g tk acc kp big itm⟩
section
variable {X:Cx}
def qZr(ta:TA3):TE3:=λτ G Q=>ta τ G λvs G1=>∃x xs,vs=[x]/\jU2 G1 x=some xs/\Q (.tup xs.reverse) G1
theorem uUt{pos pos' p p':Pos}{a:Expr}{ta:TA3}(hc:X.calm=true)(hl:Gl X "tuple")(hlm:X.mg "tuple"=none)(hg:Gl X "reversed")(hm:X.mg "reversed"=none)(hv:bootBuiltins "reversed"=some (.type "reversed"))(ha:PA3 X [a] ta)(hs:starEach [a] X.env=[(false,eval a X.env)]:=by rfl)
  (hs':starEach [Expr.Call (.Name "reversed" p) [a] [] pos] X.env=[(false,eval (.Call (.Name "reversed" p) [a] [] pos) X.env)]:=by rfl):
  PE3 X (.Call (.Name "tuple" p') [.Call (.Name "reversed" p) [a] [] pos] [] pos') (qZr ta):=by
 intro pins s τ G H Q I h;obtain⟨σ,I0,_,_⟩:=id I;refine Call_ (jU9 I0 hl hlm rfl (lKy ?_ hs' rfl));rw[hs'];refine Calls.spliced_cons (Call_ (jU9 I0 hg hm hv (lKy (thn (ha pos pins s τ G H _ I h) λus s1 w_=>w_.el λys G1 H1 e1 i_ r_ q1=>i_.el λσ1 I1 hs1 hg1=>r_.el λas ras rvs=> ?_) hs rfl)))
 obtain⟨x,xs,e,hx,q⟩:=q1;subst e;obtain⟨v,rfl,rv⟩:=jU7 ras;obtain⟨u,rfl,ru⟩:=rvs.one;obtain⟨pa,vs,rfl,hq,r⟩:=jVu hg1 rv hx;cases ru;obtain⟨its,rvv,pl,hz⟩:=I1.list hq;have hlen:its.length=xs.length:=by have:=rvv.length;have:=r.length;omega
 refine call_reversed_list pl.isList (Calls.spliced_nil ?_);obtain⟨ol,hol,hcl⟩:=id pl.isList;refine qKg (l:=pa) (xs:=its.toArray) (I1.ok.hd hc) ⟨_,lJ1 _ rfl,rfl,rfl⟩ ⟨ol,lJj _ hol,hcl⟩ (by have:=rvv.length;simp;omega) λg tk acc kp big itm=> ?_
 have hacc:acc.toList=its.reverse:=by
  apply lQh;intro i
  by_cases hi:i<its.length
  .have hia:i<acc.size:=by rw[itm.1];simpa using hi
   have e1:acc.toList[i]? =some acc[i]:=by simp[hia]
   have e2:=itm.2 i acc[i] (by simp[hia])
   rw[e1,List.getElem?_reverse hi]
   simpa using e2.symm
  .rw[lJz (by have:=itm.1;simp at this ⊢; omega),lJz (by simp;omega)]
 have hge:s1.heap.objs.size<=g.objs.size:=by rw[lVy] at big;omega
 have fr:=I1.hok.fresh hge;have hvl:=rvv.length;have I3:=I1.laid (a:=g.objs.size) (o:= .tup vs.reverse) (h':=g.push {cls:= .type "tuple",data:= .seq acc}) (t':=tk) (λb o e=>lJj _ (kp b o (lJp (lJi e)) (lJj _ e))) hge ⟨by simp;omega,acc.toList,by rw[hacc];exact rvv.reverse,by simpa using TupD.new g acc⟩
 have ext:Ext H1 (upd H1 g.objs.size (.tup vs.reverse)):= .upd (.none fr);exact⟨.tup xs.reverse,G1,_,e1.trans ext,⟨σ1,I3,hs1.mono ext,hg1.tupNew fr⟩,⟨.ref g.objs.size,Rep.tupNew r.reverse fr,rfl⟩,q⟩
end
section
variable {P:Program}{w:World}{A:Around}{E:Value->Shared->Prop}{s:Shared}{d:Addr}
end
section
variable {X:Cx}
end
section
variable {X:Cx}
end
section
variable {X:Cx}
end
section
variable {X:Cx}
end
section
variable {X:Cx}{pos:Pos}
end
theorem szle{n:Nat}(h:Nat.ble n 16777216=true):n<=sizeLine:=by rw[PySem.sizeLine_eq];exact Nat.le_of_ble_eq_true h
end L3
namespace L3
theorem xe1{A0:Type}{σ:Type}{f:A0->σ}{p:A0->Prop}{τ:σ}{C:σ->Prop}(h:∃a0,τ=f a0/\p a0)(k:∀a0,p a0->C (f a0)):C τ:=by
 obtain⟨a0,e,h⟩:=h;rw[e];exact k _ h
theorem xe2{A0 A1:Type}{σ:Type}{f:A0->A1->σ}{p:A0->A1->Prop}{τ:σ}{C:σ->Prop}(h:∃a0 a1,τ=f a0 a1/\p a0 a1)(k:∀a0 a1,p a0 a1->C (f a0 a1)):C τ:=by
 obtain⟨a0,a1,e,h⟩:=h;rw[e];exact k _ _ h
theorem xi2{A0 A1:Type}{σ:Type}{f:A0->A1->σ}{p:A0->A1->Prop}{τ:σ}(a0:A0)(a1:A1)(e:τ=f a0 a1)(h:p a0 a1):∃a0 a1,τ=f a0 a1/\p a0 a1:=⟨a0,a1,e,h⟩
theorem xe3{A0 A1 A2:Type}{σ:Type}{f:A0->A1->A2->σ}{p:A0->A1->A2->Prop}{τ:σ}{C:σ->Prop}(h:∃a0 a1 a2,τ=f a0 a1 a2/\p a0 a1 a2)(k:∀a0 a1 a2,p a0 a1 a2->C (f a0 a1 a2)):C τ:=by
 obtain⟨a0,a1,a2,e,h⟩:=h;rw[e];exact k _ _ _ h
theorem xe4{A0 A1 A2 A3:Type}{σ:Type}{f:A0->A1->A2->A3->σ}{p:A0->A1->A2->A3->Prop}{τ:σ}{C:σ->Prop}(h:∃a0 a1 a2 a3,τ=f a0 a1 a2 a3/\p a0 a1 a2 a3)(k:∀a0 a1 a2 a3,p a0 a1 a2 a3->C (f a0 a1 a2 a3)):C τ:=by
 obtain⟨a0,a1,a2,a3,e,h⟩:=h;rw[e];exact k _ _ _ _ h
theorem xi4{A0 A1 A2 A3:Type}{σ:Type}{f:A0->A1->A2->A3->σ}{p:A0->A1->A2->A3->Prop}{τ:σ}(a0:A0)(a1:A1)(a2:A2)(a3:A3)(e:τ=f a0 a1 a2 a3)(h:p a0 a1 a2 a3):∃a0 a1 a2 a3,τ=f a0 a1 a2 a3/\p a0 a1 a2 a3:=⟨a0,a1,a2,a3,e,h⟩
theorem xe5{A0 A1 A2 A3 A4:Type}{σ:Type}{f:A0->A1->A2->A3->A4->σ}{p:A0->A1->A2->A3->A4->Prop}{τ:σ}{C:σ->Prop}(h:∃a0 a1 a2 a3 a4,τ=f a0 a1 a2 a3 a4/\p a0 a1 a2 a3 a4)(k:∀a0 a1 a2 a3 a4,p a0 a1 a2 a3 a4->C (f a0 a1 a2 a3 a4)):C τ:=by
 obtain⟨a0,a1,a2,a3,a4,e,h⟩:=h;rw[e];exact k _ _ _ _ _ h
theorem xe6{A0 A1 A2 A3 A4 A5:Type}{σ:Type}{f:A0->A1->A2->A3->A4->A5->σ}{p:A0->A1->A2->A3->A4->A5->Prop}{τ:σ}{C:σ->Prop}(h:∃a0 a1 a2 a3 a4 a5,τ=f a0 a1 a2 a3 a4 a5/\p a0 a1 a2 a3 a4 a5)(k:∀a0 a1 a2 a3 a4 a5,p a0 a1 a2 a3 a4 a5->C (f a0 a1 a2 a3 a4 a5)):C τ:=by
 obtain⟨a0,a1,a2,a3,a4,a5,e,h⟩:=h;rw[e];exact k _ _ _ _ _ _ h
theorem xi6{A0 A1 A2 A3 A4 A5:Type}{σ:Type}{f:A0->A1->A2->A3->A4->A5->σ}{p:A0->A1->A2->A3->A4->A5->Prop}{τ:σ}(a0:A0)(a1:A1)(a2:A2)(a3:A3)(a4:A4)(a5:A5)(e:τ=f a0 a1 a2 a3 a4 a5)(h:p a0 a1 a2 a3 a4 a5):∃a0 a1 a2 a3 a4 a5,τ=f a0 a1 a2 a3 a4 a5/\p a0 a1 a2 a3 a4 a5:=⟨a0,a1,a2,a3,a4,a5,e,h⟩
theorem xe7{A0 A1 A2 A3 A4 A5 A6:Type}{σ:Type}{f:A0->A1->A2->A3->A4->A5->A6->σ}{p:A0->A1->A2->A3->A4->A5->A6->Prop}{τ:σ}{C:σ->Prop}(h:∃a0 a1 a2 a3 a4 a5 a6,τ=f a0 a1 a2 a3 a4 a5 a6/\p a0 a1 a2 a3 a4 a5 a6)(k:∀a0 a1 a2 a3 a4 a5 a6,p a0 a1 a2 a3 a4 a5 a6->C (f a0 a1 a2 a3 a4 a5 a6)):C τ:=by
 obtain⟨a0,a1,a2,a3,a4,a5,a6,e,h⟩:=h;rw[e];exact k _ _ _ _ _ _ _ h
theorem xi7{A0 A1 A2 A3 A4 A5 A6:Type}{σ:Type}{f:A0->A1->A2->A3->A4->A5->A6->σ}{p:A0->A1->A2->A3->A4->A5->A6->Prop}{τ:σ}(a0:A0)(a1:A1)(a2:A2)(a3:A3)(a4:A4)(a5:A5)(a6:A6)(e:τ=f a0 a1 a2 a3 a4 a5 a6)(h:p a0 a1 a2 a3 a4 a5 a6):∃a0 a1 a2 a3 a4 a5 a6,τ=f a0 a1 a2 a3 a4 a5 a6/\p a0 a1 a2 a3 a4 a5 a6:=⟨a0,a1,a2,a3,a4,a5,a6,e,h⟩
theorem xe8{A0 A1 A2 A3 A4 A5 A6 A7:Type}{σ:Type}{f:A0->A1->A2->A3->A4->A5->A6->A7->σ}{p:A0->A1->A2->A3->A4->A5->A6->A7->Prop}{τ:σ}{C:σ->Prop}(h:∃a0 a1 a2 a3 a4 a5 a6 a7,τ=f a0 a1 a2 a3 a4 a5 a6 a7/\p a0 a1 a2 a3 a4 a5 a6 a7)(k:∀a0 a1 a2 a3 a4 a5 a6 a7,p a0 a1 a2 a3 a4 a5 a6 a7->C (f a0 a1 a2 a3 a4 a5 a6 a7)):C τ:=by
 obtain⟨a0,a1,a2,a3,a4,a5,a6,a7,e,h⟩:=h;rw[e];exact k _ _ _ _ _ _ _ _ h
theorem xe10{A0 A1 A2 A3 A4 A5 A6 A7 A8 A9:Type}{σ:Type}{f:A0->A1->A2->A3->A4->A5->A6->A7->A8->A9->σ}{p:A0->A1->A2->A3->A4->A5->A6->A7->A8->A9->Prop}{τ:σ}{C:σ->Prop}(h:∃a0 a1 a2 a3 a4 a5 a6 a7 a8 a9,τ=f a0 a1 a2 a3 a4 a5 a6 a7 a8 a9/\p a0 a1 a2 a3 a4 a5 a6 a7 a8 a9)(k:∀a0 a1 a2 a3 a4 a5 a6 a7 a8 a9,p a0 a1 a2 a3 a4 a5 a6 a7 a8 a9->C (f a0 a1 a2 a3 a4 a5 a6 a7 a8 a9)):C τ:=by
 obtain⟨a0,a1,a2,a3,a4,a5,a6,a7,a8,a9,e,h⟩:=h;rw[e];exact k _ _ _ _ _ _ _ _ _ _ h
theorem xe11{A0 A1 A2 A3 A4 A5 A6 A7 A8 A9 A10:Type}{σ:Type}{f:A0->A1->A2->A3->A4->A5->A6->A7->A8->A9->A10->σ}{p:A0->A1->A2->A3->A4->A5->A6->A7->A8->A9->A10->Prop}{τ:σ}{C:σ->Prop}(h:∃a0 a1 a2 a3 a4 a5 a6 a7 a8 a9 a10,τ=f a0 a1 a2 a3 a4 a5 a6 a7 a8 a9 a10/\p a0 a1 a2 a3 a4 a5 a6 a7 a8 a9 a10)(k:∀a0 a1 a2 a3 a4 a5 a6 a7 a8 a9 a10,p a0 a1 a2 a3 a4 a5 a6 a7 a8 a9 a10->C (f a0 a1 a2 a3 a4 a5 a6 a7 a8 a9 a10)):C τ:=by
 obtain⟨a0,a1,a2,a3,a4,a5,a6,a7,a8,a9,a10,e,h⟩:=h;rw[e];exact k _ _ _ _ _ _ _ _ _ _ _ h
theorem xe13{A0 A1 A2 A3 A4 A5 A6 A7 A8 A9 A10 A11 A12:Type}{σ:Type}{f:A0->A1->A2->A3->A4->A5->A6->A7->A8->A9->A10->A11->A12->σ}{p:A0->A1->A2->A3->A4->A5->A6->A7->A8->A9->A10->A11->A12->Prop}{τ:σ}{C:σ->Prop}(h:∃a0 a1 a2 a3 a4 a5 a6 a7 a8 a9 a10 a11 a12,τ=f a0 a1 a2 a3 a4 a5 a6 a7 a8 a9 a10 a11 a12/\p a0 a1 a2 a3 a4 a5 a6 a7 a8 a9 a10 a11 a12)(k:∀a0 a1 a2 a3 a4 a5 a6 a7 a8 a9 a10 a11 a12,p a0 a1 a2 a3 a4 a5 a6 a7 a8 a9 a10 a11 a12->C (f a0 a1 a2 a3 a4 a5 a6 a7 a8 a9 a10 a11 a12)):C τ:=by
 obtain⟨a0,a1,a2,a3,a4,a5,a6,a7,a8,a9,a10,a11,a12,e,h⟩:=h;rw[e];exact k _ _ _ _ _ _ _ _ _ _ _ _ _ h
theorem ae2{a0 a1 C:Prop}(k:a0->a1->C)(h:a0/\a1):C:=k h.1 h.2
theorem ae3{a0 a1 a2 C:Prop}(k:a0->a1->a2->C)(h:a0/\a1/\a2):C:=k h.1 h.2.1 h.2.2
theorem ae4{a0 a1 a2 a3 C:Prop}(k:a0->a1->a2->a3->C)(h:a0/\a1/\a2/\a3):C:=k h.1 h.2.1 h.2.2.1 h.2.2.2
theorem ae5{a0 a1 a2 a3 a4 C:Prop}(k:a0->a1->a2->a3->a4->C)(h:a0/\a1/\a2/\a3/\a4):C:=k h.1 h.2.1 h.2.2.1 h.2.2.2.1 h.2.2.2.2
theorem ae6{a0 a1 a2 a3 a4 a5 C:Prop}(k:a0->a1->a2->a3->a4->a5->C)(h:a0/\a1/\a2/\a3/\a4/\a5):C:=k h.1 h.2.1 h.2.2.1 h.2.2.2.1 h.2.2.2.2.1 h.2.2.2.2.2
theorem ae7{a0 a1 a2 a3 a4 a5 a6 C:Prop}(k:a0->a1->a2->a3->a4->a5->a6->C)(h:a0/\a1/\a2/\a3/\a4/\a5/\a6):C:=k h.1 h.2.1 h.2.2.1 h.2.2.2.1 h.2.2.2.2.1 h.2.2.2.2.2.1 h.2.2.2.2.2.2
theorem ae8{a0 a1 a2 a3 a4 a5 a6 a7 C:Prop}(k:a0->a1->a2->a3->a4->a5->a6->a7->C)(h:a0/\a1/\a2/\a3/\a4/\a5/\a6/\a7):C:=k h.1 h.2.1 h.2.2.1 h.2.2.2.1 h.2.2.2.2.1 h.2.2.2.2.2.1 h.2.2.2.2.2.2.1 h.2.2.2.2.2.2.2
theorem ae9{a0 a1 a2 a3 a4 a5 a6 a7 a8 C:Prop}(k:a0->a1->a2->a3->a4->a5->a6->a7->a8->C)(h:a0/\a1/\a2/\a3/\a4/\a5/\a6/\a7/\a8):C:=k h.1 h.2.1 h.2.2.1 h.2.2.2.1 h.2.2.2.2.1 h.2.2.2.2.2.1 h.2.2.2.2.2.2.1 h.2.2.2.2.2.2.2.1 h.2.2.2.2.2.2.2.2
theorem ae10{a0 a1 a2 a3 a4 a5 a6 a7 a8 a9 C:Prop}(k:a0->a1->a2->a3->a4->a5->a6->a7->a8->a9->C)(h:a0/\a1/\a2/\a3/\a4/\a5/\a6/\a7/\a8/\a9):C:=k h.1 h.2.1 h.2.2.1 h.2.2.2.1 h.2.2.2.2.1 h.2.2.2.2.2.1 h.2.2.2.2.2.2.1 h.2.2.2.2.2.2.2.1 h.2.2.2.2.2.2.2.2.1 h.2.2.2.2.2.2.2.2.2
theorem ae11{a0 a1 a2 a3 a4 a5 a6 a7 a8 a9 a10 C:Prop}(k:a0->a1->a2->a3->a4->a5->a6->a7->a8->a9->a10->C)(h:a0/\a1/\a2/\a3/\a4/\a5/\a6/\a7/\a8/\a9/\a10):C:=k h.1 h.2.1 h.2.2.1 h.2.2.2.1 h.2.2.2.2.1 h.2.2.2.2.2.1 h.2.2.2.2.2.2.1 h.2.2.2.2.2.2.2.1 h.2.2.2.2.2.2.2.2.1 h.2.2.2.2.2.2.2.2.2.1 h.2.2.2.2.2.2.2.2.2.2
end L3
namespace L3
open PySem PySem.Spec PyProof.Rows L2
section
variable {X:Cx}
end
section
variable {X:Cx}
def jY9:TS3:=λ_ _ _=>False
end
section
variable {X:Cx}
end
section
variable {X:Cx}
end
section
variable {P:Program}{w:World}{A:Around}{E:Value->Shared->Prop}{s:Shared}{d it:Addr}{o:Obj}{es:Array DictEntry}{ep i:Nat}
theorem qJk{K:Type}[DecidableEq K](knd:HeapKind P w K)(a:Addr)(hd:(d == sysModules)=false):
  MeetsIn P w (Builtin.«dict.get» ⟨[.ref d,.ref a],[]⟩) (λA R s=>knd.room A.in1/\∃k xs,knd.is s.heap k a/\s.heap.DictOfH knd d xs/\R (.ok (.ret (((atKey xs k).map (·.2)).getD .none))) {s with toks:=s.toks+knd.draws k}):=
 .of_wp λA R (s) ⟨hu,k,xs,hkey,hm,h⟩=>by
  unfold Builtin.«dict.get»; refine lJa ?_;unfold Builtin.Dict.keyAndDefault;refine lJa (lYe hm.typeIs ?_);refine (show wpAny _ _ (pure (d,Value.ref a,none)) _ _ s from lJd ?_)
  refine lJa (m:=dictGet d (.ref a)) (wpAny_dictGet_heap hu hkey hm ?_);cases e:(atKey xs k).map (·.2) with
  | some v=>rw[e] at h;exact lJd ⟨_,rfl,h⟩
  | none=>
   rw[e] at h;refine lJa (m:=Builtin.Dict.missed d (.ref a)) ?_;unfold Builtin.Dict.missed;rw[lJb (by rw[hd];exact (lJl))]
   exact lJd (lJd ⟨_,rfl,h⟩)
end
section
variable {X:Cx}
def qZ7:T->List T->Gp->VK3->Prop:=λx as G Q=>∃p ys o,x= .ref p/\as=[.tup ys]/\dAt G (.ref p) (.tup ys)=some o/\Q (o.getD .non) G
theorem uUe(hu:X.A.units+20<cLine):Mt3 X "dict.get" qZ7:=by
 rintro pins s τ G H x as v us Q ⟨σ,I,hs,hg⟩ ⟨a,ra,rv⟩ ⟨bs,rbs,rus⟩ ⟨p,ys,o,ex,ea,hd,q⟩;subst ex;subst ea;cases (show a= .ref p from ra);cases rv
 obtain⟨b,rfl,rb⟩:=jU7 rbs;obtain⟨u1,rfl,ru1⟩:=rus.one;obtain⟨p',ov,ep,g,e1,e2⟩:=kKa hg ra rb hd;cases ep;obtain⟨q',vs,e,h3,h4⟩:=(show ∃q vs,b= .ref q/\H q=some (.tup vs)/\Reps X.K H ys vs from rb)
 subst e;cases (show u1=Value.ref q' from ru1)
 rcases g with ⟨kvs,k,e,ey,l⟩ | ⟨kvs,k,b,e,ey,eb,l⟩
 .cases k<;>cases ey
 .cases ey;obtain⟨z,hdd,xs,rel,dd⟩:=kYf I.hok e;refine call_meetsIn lV4 dd.typeIs PySem.F.entry_dict_get (PySem.F.args_dict_get_2 _ _) (qJk (jKn X.prog X.w) q' hdd) ⟨jJ0 hu,k,xs,jYq I.hok eb,dd,?_⟩;have ro:=rel.val k;rw[<-l] at ro;cases ov with
  | none=>
   cases o with
   | some t=>cases e1
   | none=>
    cases ea:atKey xs k with
    | some pp=>rw[ea] at ro;exact (show False from ro).elim
    | none=>exact⟨.non,G,H,.refl H,⟨σ,I.tok _,hs,hg⟩,⟨.non,rfl,rfl⟩,q⟩
  | some wv=>
   cases o with
   | none=>cases e1
   | some t=>
    obtain⟨wv',e',rt⟩:=e2 t rfl;cases e';cases ea:atKey xs k with
    | none=>rw[ea] at ro;exact (show False from ro).elim
    | some pp=>rw[ea] at ro;exact⟨t,G,H,.refl H,⟨σ,I.tok _,hs,hg⟩,⟨wv,rt,ro⟩,q⟩
theorem jY1{α β:Type}{F:α->β->Prop}:∀{l:List α}{m:List β}{i:Nat}{x:α},Paired F l m->l[i]? =some x->∃y,m[i]? =some y/\F x y
 | _,_,_,_,.nil,h=>by simp at h
 | _,_,0,_,.cons r t,h=>by cases h;exact⟨_,rfl,r⟩
 | _,_,i+1,_,.cons r t,h=>jY1 (i:=i) t h
end
section
open PySem.SeqAt
open PySem.AutoSeq1 (wpAny_loadPart')
open PySem.MeetsSeq PySem.MeetsSeq2 PySem.MeetsSeq3
end
section
variable {prog:Program}{w:World}{A:Around}{E:Value->Shared->Prop}{s:Shared}
end
section
variable {X:Cx}
end
section
variable {X:Cx}
end
def CN(K:PySem.W.Frag)(cn:Str)(C:Addr):Prop:=PySem.W.nsIn K mainGlobals cn=some (some (.ref C))
theorem CN.one{K:PySem.W.Frag}{cn:Str}{C D:Addr}(h:CN K cn C)(h':CN K cn D):C=D:=by
 unfold CN at h h';rw[h] at h';cases h';rfl
structure ObF (K:PySem.W.Frag) (cn f:Str):Prop where
 ex:∃C,CN K cn C/\Cls K C/\NoAttr K C f
def jYl(f:Str)(t:T):List (Str×T)->List (Str×T)
 | []=>[(f,t)]
 | (g,x)::r=>if g=f then (g,t)::r else (g,x)::jYl f t r
def fldT(f:Str):List (Str×T)->Option T
 | []=>none
 | (g,x)::r=>if g=f then some x else fldT f r
theorem kJm{K:PySem.W.Frag}{H:Hp}{fs:List (Str×T)}{ws:List (Str×V)}(h:PKV K H fs ws)(f:Str):
  (fldT f fs=none->ws.lookup f=none)/\∀t,fldT f fs=some t->∃v,ws.lookup f=some v/\Rep K H t v:=by
 unfold PKV at h
 induction h with
 | nil=>exact⟨λ_=>rfl,λt e=>by cases e⟩
 | @cons a b l m r _ ih=>
  obtain⟨g,x⟩:=a;obtain⟨g',v⟩:=b;obtain⟨e,rv⟩:=r;cases e
  by_cases q:g=f
  .subst q;refine⟨λe=> ?_,λt e=> ?_⟩
   .simp[fldT] at e
   .simp only[fldT,lJ7] at e;cases e;exact⟨v,by simp[List.lookup],rv⟩
  .have e2:List.lookup f ((g,v)::m)=List.lookup f m:=by
    have:(f == g)=false:=by simp;exact λz=>q z.symm
    simp only[List.lookup,this]
   rw[e2];simp only[fldT,q,lJt];exact ih
theorem qZ9{K:PySem.W.Frag}{H:Hp}{fs:List (Str×T)}{ws:List (Str×V)}(h:PKV K H fs ws)(f:Str){t:T}{v:V}(r:Rep K H t v):PKV K H (jYl f t fs) (putF f v ws):=by
 unfold PKV at h ⊢
 induction h with
 | nil=>exact .cons ⟨rfl,r⟩ .nil
 | @cons a b l m r0 ht ih=>
  obtain⟨g,x⟩:=a;obtain⟨g',u⟩:=b;obtain⟨e,rv⟩:=r0;cases e
  by_cases q:g=f
  .simp only[jYl,putF,q,lJ7];exact .cons ⟨rfl,r⟩ ht
  .simp only[jYl,putF,q,lJt];exact .cons ⟨rfl,rv⟩ ih
def fldR(cn f:Str)(G:Gp):T->Option T
 | .ref a=>match G a with
  | some (.ins c fs)=>if c=cn then fldT f fs else none
  | _=>none
 | _=>none
noncomputable def jZ8(cn f:Str)(G:Gp)(x y:T):Option Gp:=match x with
 | .ref a=>match G a with
  | some (.ins c fs)=>if c=cn/\fs.length<1000 then some (gup G a (.ins c (jYl f y fs))) else none
  | _=>none
 | _=>none
def obR(cn m:Str)(G:Gp):T->Bool
 | .ref a=>match G a with
  | some (.ins c fs)=>decide (c=cn)&&(fldT m fs).isNone
  | _=>false
 | _=>false
theorem qJu{cn f:Str}{G:Gp}{x t:T}(h:fldR cn f G x=some t):∃a fs,x= .ref a/\G a=some (.ins cn fs)/\fldT f fs=some t:=by
 unfold fldR at h;split at h
 .rename_i a
  split at h
  .rename_i c fs hG
   split at h
   .rename_i e;subst e;exact⟨a,fs,rfl,hG,h⟩
   .cases h
  .cases h
 .cases h
theorem kXm{cn f:Str}{G G':Gp}{x t:T}(h:jZ8 cn f G x t=some G'):∃a fs,x= .ref a/\G a=some (.ins cn fs)/\fs.length<1000/\G'=gup G a (.ins cn (jYl f t fs)):=by
 unfold jZ8 at h;split at h
 .rename_i a
  split at h
  .rename_i c fs hG
   split at h
   .rename_i e;obtain⟨e,l⟩:=e;subst e;cases h;exact⟨a,fs,rfl,hG,l,rfl⟩
   .cases h
  .cases h
 .cases h
theorem jYo{cn m:Str}{G:Gp}{x:T}(h:obR cn m G x=true):∃a fs,x= .ref a/\G a=some (.ins cn fs)/\fldT m fs=none:=by
 unfold obR at h;split at h
 .rename_i a
  split at h
  .rename_i c fs hG
   rw[lKl,decide_eq_true_iff] at h;obtain⟨e,l⟩:=h;subst e;exact⟨a,fs,rfl,hG,by simpa using l⟩
  .cases h
 .cases h
def tFld(cn f:Str)(ta:TE3):TE3:=λτ G Q=>ta τ G λx G1=>∃t,fldR cn f G1 x=some t/\Q t G1
def kQq(cn f:Str)(ta tv:TE3):TS3:=λD τ G=>tv τ G λy G1=>ta τ G1 λx G2=>∃G3,jZ8 cn f G2 x y=some G3/\D.nx τ G3
def jJ1(cn m:Str)(sp:Sp3)(ta:TE3)(t:TA3):TE3:=λτ G Q=>ta τ G λx G1=>obR cn m G1 x=true/\t τ G1 λxs G2=>sp (x::xs) G2 Q
def qZs(cn:Str)(sp:Sp3)(t:TA3):TE3:=λτ G Q=>t τ G λxs G1=>∀x,G1 x=none->sp (.ref x::xs) (gup G1 x (.ins cn [])) λv G2=>v= .non/\Q (.ref x) G2
section
variable {X:Cx}{cn f m:Str}{pos pos' apos p:Pos}{e o value:Expr}{es:List Expr}{ta tv:TE3}{t:TA3}{k:Nat}{ps:List Str}{sp:Sp3}
theorem jQr(c:ObF X.K cn f)(he:PE3 X e ta)(hb:attributeBase e f X.env (eval e X.env)=eval e X.env:=by rfl):PE3 X (.Attribute e f pos) (tFld cn f ta):=by
 intro pins s τ G H Q I h;obtain⟨C,hC,hc,hn⟩:=c.ex;refine qU6 hb (thn (he pins s τ G H _ I h) λu s1 w_=>w_.el λx G1 H1 e1 i_ r_ q=>i_.el λσ I1 hs1 hg1=>r_.el λv rv ru=> ?_)
 obtain⟨t,ht,q⟩:=q;obtain⟨a,fs,rfl,hG,hf⟩:=qJu ht;cases (show v= .ref a from rv)
 obtain rfl:u=Value.ref a:=ru;obtain⟨C',dx,ws,hH,hC',pk⟩:=(show ∃C dx ws,H1 a=some (.ins C dx ws)/\CN X.K cn C/\PKV X.K H1 fs ws from hg1 a _ hG)
 cases hC.one hC';obtain⟨v',hl,rv'⟩:=(kJm pk f).2 t hf;exact qJt I1 hH hc hn hl λu' s2 I2 ru'=>⟨t,G1,H1,e1,⟨σ,I2,hs1,hg1⟩,⟨v',rv',ru'⟩,q⟩
theorem qJd(c:ObF X.K cn f)(ha:PE3 X o ta)(hv:PE3 X value tv)(hs:swapsWith value (some (.Attribute o f pos')) pos.line X.env=pure false:=by rfl):PS3 X (.Assign [.Attribute o f pos'] value pos) (kQq cn f ta tv):=by
 intro pins s τ G H D I h;obtain⟨C,hC,hc,hn⟩:=c.ex;refine lZh (thn (hv pins s τ G H _ I h) λu s1 w_=>w_.el λy G1 H1 e1 I1 ry q1=>thn (ha pins s1 τ G1 H1 _ I1 q1) λov s2 w_=>w_.el λx G2 H2 e2 i_ r_ q=>i_.el λσ I2 hs2 hg2=>r_.el λv rv ru=> ?_) hs
 obtain⟨G3,ht,q⟩:=q;obtain⟨a,fs,rfl,hG,hl,rfl⟩:=kXm ht;cases (show v= .ref a from rv)
 obtain rfl:ov=Value.ref a:=ru;obtain⟨C',dx,ws,hH,hC',pk⟩:=(show ∃C dx ws,H2 a=some (.ins C dx ws)/\CN X.K cn C/\PKV X.K H2 fs ws from hg2 a _ hG)
 cases hC.one hC';obtain⟨vy,rvy,ruy⟩:=ry.mono e2;refine qJc I2 hH hc hn (by rw[<-show fs.length=ws.length from lQq pk];exact hl) ruy λs3 I3=> ?_
 have ext:Ext H2 (upd H2 a (.ins C dx (putF f vy ws))):= .upd (.ins hH);exact⟨τ,_,_,(e1.trans e2).trans ext,⟨σ,I3,hs2.mono ext,hg2.upd (.ins hH) (go:= .ins cn (jYl f y fs)) ⟨C,dx,_,jJy,hC,(qZ9 pk f rvy).mono ext⟩⟩,q⟩
structure CalM (P:Program) (w:World) (K:PySem.W.Frag) (mg:Str->Option Value) (base:Heap) (k:Nat) (cn m:Str) (ps:List Str) (sp:Sp3):Prop where
 ex:∃C f fd,CN K cn C/\Cls K C/\Meth K C m f/\Fn3 P w K mg base k f fd ps sp/\Binds K fd ps []
 mono:Mono sp
 len:∀xs G Q,sp xs G Q->xs.length=ps.length
structure CalC (P:Program) (w:World) (K:PySem.W.Frag) (mg:Str->Option Value) (base:Heap) (k:Nat) (cn:Str) (ps:List Str) (sp:Sp3):Prop where
 ex:∃C f fd,CN K cn C/\mg cn=some (.ref C)/\Mk K C f/\Fn3 P w K mg base k f fd ps sp/\Binds K fd ps []
 mono:Mono sp
 len:∀xs G Q,sp xs G Q->xs.length=ps.length
theorem kJ6{pl:Sem Bool}(M:CalM X.prog X.w X.K X.mg X.base k cn m ps sp)(hr:Room k X.A)(he:PE3 X o ta)(ha:PA3 X (e::es) t)
  (hst:starEach (e::es) X.env=(false,eval e X.env)::starEach es X.env:=by rfl) (hpl:(backTo pos (starEach es X.env)).any (·.1)=false:=by rfl)
  (ht:eval (.Call (.Attribute o m apos) (e::es) [] pos) X.env=(do
   let ov <-eval o X.env
   standAt apos.atName
   let (f,first) <-holding [ov] (getMethod ov m pl)
   callWith pos f first (backTo pos (starEach (e::es) X.env)) (backToKw pos (keywordEach [] X.env))):=by rfl):
  PE3 X (.Call (.Attribute o m apos) (e::es) [] pos) (jJ1 cn m sp ta t):=by
 intro pins s τ G H Q I h;obtain⟨C,f,fd,hC,hc,hm,F,hb⟩:=M.ex;refine lV5 (pl:=pl) (thn (he pins s τ G H _ I h) λu s1 w_=>w_.el λx G1 H1 e1 I1 r_ q=>r_.el λv rv ru=> ?_) ht
 obtain⟨ob,q⟩:=q;obtain⟨a,fs,rfl,hG,hf⟩:=jYo ob;cases (show v= .ref a from rv)
 obtain rfl:u=Value.ref a:=ru;obtain⟨σ,J1,hs1,hg1⟩:=id I1;obtain⟨C',dx,ws,hH,hC',pk⟩:=(show ∃C dx ws,H1 a=some (.ins C dx ws)/\CN X.K cn C/\PKV X.K H1 fs ws from hg1 a _ hG)
 cases hC.one hC';refine jXn J1 hH hc hm ((kJm pk m).1 hf) ?_;refine lV2 (first:=[.ref a]) (h₀:=X.base) J1.ok.mod.kin hm.kp (thn (ha pos pins s1 τ G1 H1 _ I1 q) λus s2 w_=>w_.el λxs G2 H2 e2 i_ r_ q2=>i_.el λσ2 I2 hs2 hg2=>r_.el λas ras rvs=>⟨I2.kIn,?_⟩) hst hpl
 refine thn (qKv (us:= .ref a::us) (vs:= .ref a::as) (dvs:=[]) (ds:=[]) (E:=E0) (Q:=up X.K H2 Q) F hr hb .nil qXb I2 (.cons rfl rvs) ?_) λu s' z=>(jVq hs2 z).ext (e1.trans e2)
 rw[lKx];have rr:Reps X.K H2 (.ref a::xs) (.ref a::as):=⟨_,_,rfl,rfl,ras⟩;exact⟨by rw[<-rr.length];exact M.len _ _ _ q2,_,G2,rr,hg2,M.mono _ _ _ _ (λt G' hq v H' e g r=>⟨t,G',e,g,r,hq⟩) q2⟩
theorem jQg{pl:Sem Bool}(M:CalM X.prog X.w X.K X.mg X.base k cn m ps sp)(hr:Room k X.A)(he:PE3 X o ta)
  (ht:eval (.Call (.Attribute o m apos) [] [] pos) X.env=(do
   let ov <-eval o X.env
   standAt apos.atName
   let (f,first) <-holding [ov] (getMethod ov m pl)
   callWith pos f first (backTo pos (starEach [] X.env)) (backToKw pos (keywordEach [] X.env))):=by rfl):
  PE3 X (.Call (.Attribute o m apos) [] [] pos) (jJ1 cn m sp ta tNil):=by
 intro pins s τ G H Q I h;obtain⟨C,f,fd,hC,hc,hm,F,hb⟩:=M.ex;refine lV5 (pl:=pl) (thn (he pins s τ G H _ I h) λu s1 w_=>w_.el λx G1 H1 e1 i_ r_ q=>i_.el λσ J1 hs1 hg1=>r_.el λv rv ru=> ?_) ht
 obtain⟨ob,q⟩:=q;obtain⟨a,fs,rfl,hG,hf⟩:=jYo ob;cases (show v= .ref a from rv)
 obtain rfl:u=Value.ref a:=ru;obtain⟨C',dx,ws,hH,hC',pk⟩:=(show ∃C dx ws,H1 a=some (.ins C dx ws)/\CN X.K cn C/\PKV X.K H1 fs ws from hg1 a _ hG)
 cases hC.one hC';refine jXn J1 hH hc hm ((kJm pk m).1 hf) ?_;refine PySem.W.callWith_K0 (first:=[.ref a]) J1.kIn hm.kp ?_
 refine thn (qKv (us:=[.ref a]) (vs:=[.ref a]) (dvs:=[]) (ds:=[]) (E:=E0) (Q:=up X.K H1 Q) F hr hb .nil qXb J1 (.cons rfl .nil) ?_) λu s' z=>(jVq hs1 z).ext e1
 rw[lKx];have rr:Reps X.K H1 [.ref a] [.ref a]:=⟨_,_,rfl,rfl,rfl⟩;exact⟨by rw[<-rr.length];exact M.len _ _ _ q,_,G1,rr,hg1,M.mono _ _ _ _ (λt G' hq v H' e g r=>⟨t,G',e,g,r,hq⟩) q⟩
theorem uUu(M:CalC X.prog X.w X.K X.mg X.base k cn ps sp)(hr:Room (k+1) X.A)(ha:PA3 X (e::es) t)(hg:Gl X cn:=by rfl)
  (hdb:(cn == ("__debug__":Str))=false:=by decide) (he:starEach (e::es) X.env=(false,eval e X.env)::starEach es X.env:=by rfl) (hpl:(backTo pos (starEach es X.env)).any (·.1)=false:=by rfl):
  PE3 X (.Call (.Name cn p) (e::es) [] pos) (qZs cn sp t):=by
 intro pins s τ G H Q I h;obtain⟨C,f,fd,hC,hm,hmk,F,hb⟩:=M.ex;obtain⟨σ0,I0,hs0,hg0⟩:=id I;refine lXd (kJv I0 hg hm ?_ hdb);refine lV2 (h₀:=X.base) I0.ok.mod.kin hmk.kp (thn (ha pos pins s τ G H _ I h) λus s1 w_=>w_.el λxs G1 H1 e1 i_ r_ q=>i_.el λσ I1 hs1 hg1=>r_.el λas ras rvs=>⟨I1.kIn,?_⟩) he hpl
 refine thn (qVx (dvs:=[]) (ds:=[]) (E:=E0) (Q:=up X.K H1 Q) hmk F hr hb .nil qXb I1 rvs λx dx hx hdx ne=> ?_) λu s' z=>(jVq hs1 z).ext e1
 rw[lKx];have x1:Ext H1 (upd H1 dx (.own x)):= .upd (.none hdx);have hx1:upd H1 dx (.own x) x=none:=by rw[jJt ne.symm];exact hx
 have x2:Ext (upd H1 dx (.own x)) (upd (upd H1 dx (.own x)) x (.ins C dx [])):= .upd (.none hx1)
 have g1:GRel X.K (upd H1 dx (.own x)) G1:=λb u eb=>by
  have hb:b≠dx:=by rintro rfl;exact (hg1 b u eb).some hdx
  exact (hg1 b u eb).move x1 (jJt hb)
 have g2:GRel X.K (upd (upd H1 dx (.own x)) x (.ins C dx [])) (gup G1 x (.ins cn [])):=g1.upd (.none hx1) ⟨C,dx,[],jJy,hC,.nil⟩;have rr:Reps X.K (upd (upd H1 dx (.own x)) x (.ins C dx [])) (.ref x::xs) (.ref x::as):=⟨_,_,rfl,rfl,Reps.mono (x1.trans x2) _ ras⟩;have q':=q x (hg1.fresh hx);refine⟨by rw[<-rr.length];exact M.len _ _ _ q',_,_,rr,g2,M.mono _ _ _ _ (λt G' hq v H' e g r=> ?_) q'⟩
 obtain⟨e0,hq⟩:=hq;subst e0;exact⟨r,.ref x,G',(x1.trans x2).trans e,g,rfl,hq⟩
end
end L3
namespace L3
open PySem PySem.Spec PyProof.Rows L2 PySem.W
noncomputable def Dk{α:Type}:Sem α->Prop
 | .pure _=>True
 | .raise _=>True
 | .unsupported _=>True
 | .finish _=>True
 | .rule _ k=>Dk (k ())
 | .at _ k=>Dk (k ())
 | .load _ _ k=>∀o,Dk (k o)
 | .update _ _ f k=>(∀o,(f o).dict=o.dict/\(f o).isFreed=o.isFreed)/\Dk (k ())
 | .alloc _ k=>∀a,Dk (k a)
 | .loadIfAlive _ k=>∀o,Dk (k o)
 | .point _ k=>Dk (k ())
 | .register _ _=>True
 | .fresh k=>∀t,Dk (k t)
 | .ask k=>∀x,Dk (k x)
 | .choose _ _ k=>∀n,Dk (k n)
 | .os _ _ k=>∀r,Dk (k r)
 | .call _ _ _ _ _=>False
 | .handled _ k=>∀v,Dk (k v)
 | .newGen _ k=>∀n,Dk (k n)
 | .genState _ k=>∀x,Dk (k x)
 | .resume _ _ _ _=>False
 | .yield _ _ _ _=>True
 | .stack k=>∀l,Dk (k l)
 | .fork _ _=>True
 | .thread k=>∀n,Dk (k n)
 | .await _ _ _ _ _=>True
def kKi(e:Addr)(d:Option Addr)(h:Heap):Prop:=∃o,h.get? e=some o/\o.dict=d
theorem qYp{h:Heap}{e:Addr}{o:Obj}(q:h.get? e=some o):o.isFreed=false:=(Heap.get?_some_iff.mp q).2
theorem Dk.wp{M:Model}{Γ:PySem.Ctx}{e:Addr}{d:Option Addr}{α:Type}{t:Sem α}(hk:Dk t):∀{Q:α->Pos->Shared->Prop}{E:Value->Pos->Shared->Prop}{p:Pos}{s:Shared},Sem.wp M Γ t Q E p s->kKi e d s.heap->Sem.wp M Γ t (λa p s'=>Q a p s'/\kKi e d s'.heap) E p s:=by
 induction t with
 | pure a=>intro Q E p s h hd;rw[Sem.wp] at h ⊢; exact⟨h,hd⟩
 | raise v=>intro Q E p s h hd;rw[Sem.wp] at h ⊢; exact h
 | unsupported w=>intro Q E p s h hd;rw[Sem.wp] at h;exact h.elim
 | finish w=>intro Q E p s h hd;rw[Sem.wp] at h;exact h.elim
 | rule t k ih=>intro Q E p s h hd;rw[Sem.wp] at h ⊢; exact ih () hk h hd
 | «at» q k ih=>intro Q E p s h hd;rw[Sem.wp] at h ⊢; exact ih () hk h hd
 | load a pt k ih=>intro Q E p s h hd;rw[Sem.wp] at h ⊢; obtain⟨o,h1,h2⟩:=h;exact⟨o,h1,ih o (hk o) h2 hd⟩
 | update a pt f k ih=>
  intro Q E p s h hd;rw[Sem.wp] at h ⊢;refine⟨h.1,ih () hk.2 h.2 ?_⟩;obtain⟨o,ho,q⟩:=hd
  by_cases z:e=a
  .subst z;exact⟨f o,lK2 f ho ((hk.1 o).2.trans (qYp ho)),(hk.1 o).1.trans q⟩
  .exact⟨o,(lQ2 _ _ (Ne.symm z)).trans ho,q⟩
 | alloc o k ih=>
  intro Q E p s h hd;rw[Sem.wp] at h ⊢;obtain⟨u,hu,q⟩:=hd;exact ih _ (hk _) h ⟨u,lJj _ hu,q⟩
 | loadIfAlive a k ih=>intro Q E p s h hd;rw[Sem.wp] at h ⊢; exact ih _ (hk _) h hd
 | point l k ih=>intro Q E p s h hd;rw[Sem.wp] at h ⊢; exact ih () hk h hd
 | register a k ih=>intro Q E p s h hd;rw[Sem.wp] at h;exact h.elim
 | fresh k ih=>intro Q E p s h hd;rw[Sem.wp] at h ⊢; exact ih _ (hk _) h hd
 | ask k ih=>intro Q E p s h hd;rw[Sem.wp] at h ⊢; exact ih _ (hk _) h hd
 | choose src n k ih=>intro Q E p s h hd;rw[Sem.wp] at h ⊢; exact⟨h.1,ih _ (hk _) h.2 hd⟩
 | os q l k ih=>intro Q E p s h hd;rw[Sem.wp] at h ⊢; exact ih _ (hk _) h hd
 | call c hh g l k ih=>exact hk.elim
 | handled own k ih=>intro Q E p s h hd;rw[Sem.wp] at h ⊢; exact ih _ (hk _) h hd
 | newGen c k ih=>intro Q E p s h hd;rw[Sem.wp] at h ⊢; exact ih _ (hk _) h hd
 | genState g k ih=>intro Q E p s h hd;rw[Sem.wp] at h ⊢; obtain⟨o,h1,h2⟩:=h;exact⟨o,h1,ih _ (hk _) h2 hd⟩
 | resume g r l k ih=>exact hk.elim
 | yield v g l k ih=>intro Q E p s h hd;rw[Sem.wp] at h;exact h.elim
 | stack k ih=>intro Q E p s h hd;rw[Sem.wp] at h ⊢; exact ih _ (hk _) h hd
 | fork c k ih=>intro Q E p s h hd;rw[Sem.wp] at h;exact h.elim
 | thread k ih=>intro Q E p s h hd;rw[Sem.wp] at h ⊢; exact ih _ (hk _) h hd
 | await a t tm l k ih=>intro Q E p s h hd;rw[Sem.wp] at h;exact h.elim
theorem Dk.any{M:Model}{A:Around}{e:Addr}{d:Option Addr}{α:Type}{t:Sem α}(hk:Dk t){Q:α->Shared->Prop}{E:Value->Shared->Prop}{s:Shared}(h:wpAny M A t Q E s)(hd:kKi e d s.heap):wpAny M A t (λa s'=>Q a s'/\kKi e d s'.heap) E s:=λΓ p hΓ=>hk.wp (h Γ p hΓ) hd
theorem Dk.bind{α β:Type}{t:Sem α}{f:α->Sem β}(ht:Dk t)(hf:∀a,Dk (f a)):Dk (t >>= f):=by
 show Dk (t.bind f)
 induction t with
 | pure a=>exact hf a
 | raise v=>trivial
 | unsupported w=>trivial
 | finish w=>trivial
 | rule t k ih=>exact ih () ht
 | «at» q k ih=>exact ih () ht
 | load a pt k ih=>exact λo=>ih o (ht o)
 | update a pt g k ih=>exact⟨ht.1,ih () ht.2⟩
 | alloc o k ih=>exact λa=>ih a (ht a)
 | loadIfAlive a k ih=>exact λo=>ih o (ht o)
 | point l k ih=>exact ih () ht
 | register a k ih=>trivial
 | fresh k ih=>exact λo=>ih o (ht o)
 | ask k ih=>exact λo=>ih o (ht o)
 | choose src n k ih=>exact λo=>ih o (ht o)
 | os q l k ih=>exact λo=>ih o (ht o)
 | call c hh g l k ih=>exact ht.elim
 | handled own k ih=>exact λo=>ih o (ht o)
 | newGen c k ih=>exact λo=>ih o (ht o)
 | genState g k ih=>exact λo=>ih o (ht o)
 | resume g r l k ih=>exact ht.elim
 | yield v g l k ih=>trivial
 | stack k ih=>exact λo=>ih o (ht o)
 | fork c k ih=>trivial
 | thread k ih=>exact λo=>ih o (ht o)
 | await a t tm l k ih=>trivial
theorem jQa{α:Type}{a:α}:Dk (Pure.pure a:Sem α):=trivial
theorem jXv{α:Type}{w:String}:Dk (unsupported w:Sem α):=trivial
theorem kYh{a:Addr}:Dk (load a):=λ_=>trivial
theorem kYi{v:Value}:Dk (fieldsOf v):=by
 unfold fieldsOf;split
 .refine Dk.bind kYh λo=> ?_
  split
  .exact jQa
  .exact jXv
 .exact jXv
theorem jZv{v:Value}{i:Nat}:Dk (field v i):=by
 unfold field;refine Dk.bind kYi λvs=> ?_
 split
 .exact jQa
 .exact jXv
theorem kVg(f:Array Value->Array Value)(o:Obj):(Obj.mapFields f o).dict=o.dict/\(Obj.mapFields f o).isFreed=o.isFreed:=by
 obtain⟨c,d,da,sl⟩:=o;cases da<;>exact⟨rfl,rfl⟩
theorem jYc{v:Value}{i:Nat}{x:Value}:Dk (setField v i x):=by
 unfold setField;split
 .unfold updateField;refine Dk.bind kYh λo=> ?_
  split
  .split
   .exact⟨kVg _,trivial⟩
   .exact jXv
  .exact jXv
 .exact jXv
theorem dk_setFlight{e:Value}{f:Option Addr}:Dk (setFlight e f):=by
 unfold setFlight;refine Dk.bind jZv λtb=> ?_
 split
 .exact jYc
 .exact jQa
theorem kVw{ty:String}{vs:List Value}:Dk (newFields ty vs):=by
 unfold newFields newObj
 dsimp only
 have rest:Dk (newObjAsIs (.type ty) (.fields vs.toArray)):=by
  unfold newObjAsIs;exact λa=>trivial
 split
 .exact jXv
 .exact rest
theorem kZv:∀l:List Env,Dk (readyFrames l)
 | []=>trivial
 | env::outer=>by
  unfold readyFrames;split
  .refine Dk.bind kYh λo=> ?_
   split
   .exact jQa
   .refine Dk.bind ?_ λi=>Dk.bind ?_ λb=>Dk.bind ⟨λo=>⟨rfl,by obtain⟨c,d,da,sl⟩:=o;cases da<;>rfl⟩,trivial⟩ λ_=>kZv outer
    .unfold behindIsImport;split
     .exact jQa
     .split
      .exact jQa
      .exact Dk.bind jZv λ_=>jQa
    .unfold keptBack;split
     .split
      .exact jQa
      .exact Dk.bind (Dk.bind (λl=>trivial) λ_=>jQa) λ_=>jQa
     .exact jQa
  .exact jXv
theorem qJx{env:Env}:Dk (PySem.frameOf env):=by
 unfold PySem.frameOf;refine Dk.bind ?_ λl=>Dk.bind ?_ λr=> ?_
 .unfold frameEnvs;exact Dk.bind (λl=>trivial) λ_=>jQa
 .unfold frameObject;split
  .exact jQa
  .exact Dk.bind (kZv _) λ_=>jQa
 .split
  .exact jQa
  .exact jXv
theorem kUm{f:Addr}{b:Bool}:Dk (entryPlaceOf f b):=by
 unfold entryPlaceOf;refine Dk.bind (λl=>trivial) λacts=> ?_
 split
 .exact jQa
 .exact jQa
theorem dk_noteFrame{e:Value}{env:Env}:Dk (noteFrame e env):=by
 unfold noteFrame;split
 .refine Dk.bind jZv λhead=> ?_
  have fin:Dk (do setField e 1 (<-EntryCells.newEntry head (<-PySem.frameOf env) .none (rawInt ‹Addr›) .none (<-entryPlaceOf ‹Addr› (head != .none)))):=
   Dk.bind qJx λ_=>Dk.bind kUm λ_=>Dk.bind kVw λ_=>jYc
  split
  .refine Dk.bind jZv λv=> ?_
   split
   .exact jQa
   .exact Dk.bind jYc λ_=>fin
  .exact fin
 .exact jXv
theorem dk_leaving{env:Env}{e:Value}:Dk (leaving env e):=by
 unfold leaving;exact Dk.bind dk_noteFrame λ_=>dk_setFlight
structure Lies (P:Program) (w:World) (outer:List Env) (H:Hp) (s:Shared) (a C:Addr) (B:Heap) (a0:Value×Option Addr) (H':Hp) (s':Shared):Prop where
 os:s'.os=s.os
 bare:AllBare s'.gens
 fly:Heap.FlyingW B outer a (.ref C) a0.1 s'.heap
 dct:kKi a a0.2 s'.heap
 hok:HOk P w H' B
 keep:∀b o,s.heap.get? b=some o->H b=none->b∉frs outer->B.get? b=some o
 there:∀b o,s.heap.get? b=some o->b∉frs outer->∃o',B.get? b=some o'
 slot:∀b o,s.heap.get? b=some o->b∈frs outer->∃sl,s'.heap.get? b=some {o with slots:=sl}
 free:∀b o,s.heap.get? b=some o->H b=none->H' b=none
 tups:∀b xs,H b=some (.tup xs)->H' b=some (.tup xs)
 frzs:∀b o u,H b=some (.frz o u)->H' b=some (.frz o u)
 tbls:∀b ps,H b=some (.tbl ps)->∃more,H' b=some (.tbl (ps++more))
section
variable {P:Program}{w:World}{outer:List Env}{H H':Hp}{s s':Shared}{a C:Addr}{B:Heap}{a0:Value×Option Addr}
theorem Lies.un(l:Lies P w outer H s a C B a0 H' s'):Un (frs outer) [] H H' s.heap s'.heap where
 keep:=λb o h n f _=>l.fly.1 b o (l.keep b o h n f)
 slot:=λb o h _ f _=>l.slot b o h f
 free:=λb o h n _=>l.free b o h n
 there:=λb o h _=>by
  by_cases f:b∈frs outer
  .obtain⟨sl,e⟩:=l.slot b o h f;exact⟨_,e⟩
  .obtain⟨o',e⟩:=l.there b o h f;exact⟨o',l.fly.1 b o' e⟩
 tups:=l.tups
 frzs:=l.frzs
 tbls:=l.tbls
theorem kU9{P:Program}{w:World}{H:Hp}{h:Heap}{a:Addr}{o:HO}(x:ObjOk P w H h a o):∃u,h.get? a=some u:=by
 induction o with
 | lst xs=>obtain⟨z,its,n,r,e⟩:=x;exact⟨_,e⟩
 | tup xs=>obtain⟨z,its,r,ob,e,c⟩:=x;exact⟨_,e⟩
 | dK kvs=>obtain⟨z,y,vs,r,ob,es,ep,e,c⟩:=x;exact⟨_,e⟩
 | dT kvs=>obtain⟨z,y,xs,r,ob,es,ep,e,c⟩:=x;exact⟨_,e⟩
 | set S n=>obtain⟨ob,es,ep,t,e,c⟩:=x;exact⟨_,e⟩
 | ins C dx fs=>obtain⟨d,z,ne,e,_⟩:=x;exact⟨_,e⟩
 | own y=>exact x
 | xd fs=>obtain⟨mA,⟨od,es,ep,e,c⟩,r⟩:=x;exact⟨_,e⟩
 | rng lo hi=>obtain⟨t,u,v,e⟩:=x;exact⟨_,e⟩
 | frz ob u ih=>obtain⟨e,q⟩:=x;exact⟨_,e⟩
 | tbl ps=>exact⟨_,x⟩
 | met f y=>exact⟨_,x⟩
 | ext φ=>obtain⟨p,e,st⟩:=x;exact e
theorem Lies.na(l:Lies P w outer H s a C B a0 H' s'):H' a=none:=by
 cases e:H' a with
 | none=>rfl
 | some o=>
  obtain⟨u,hu⟩:=kU9 (l.hok a o e);rw[l.fly.2.1] at hu;cases hu
end
section
variable {X:Cx}{pins:List (Addr×Obj)}{σ:L2.St}{H H':Hp}{s s':Shared}{a C:Addr}{B:Heap}{a0:Value×Option Addr}{E:Value->Shared->Prop}
theorem qUc{l:List Env}:∀env∈l,∀b,env.frame=some b->b∈frs l:=λenv he b hb=>lQs.mpr ⟨env,he,hb⟩
theorem qXq(I:Inv X pins σ H s)(hs:X.stack=X.env::X.outer)(hf:X.env.frame=some X.env.locals)(hex:X.ex=[]){args:List Value}(hm:Heap.MadeExcOf s.heap s'.heap a (.ref C) args)(ho:s'.os=s.os)(hg:s'.gens=s.gens){Q:Unit->Shared->Prop}
  (k:∀B a0 h',Lies X.prog X.w X.outer X.H₀ X.s₀ a C B a0 H {s' with heap:=h'}->Q () {s' with heap:=h'}):wpAny (model X.prog X.w) X.A (leaving X.env (.ref a)) Q E s':=by
 have hst:=I.stack;have hfr:X.A.frames=some (X.env::X.outer):=by rw[I.ok.frames,hs]
 rw[hs] at hst
 have sub:∀b,b∈frs (X.env::X.outer)↔b=X.env.locals\/b∈frs X.outer:=λb=>by
  unfold frs;rw[lQ1,hf];exact lJk
 have inB:∀b o,s.heap.get? b=some o->b≠X.env.locals->b∉frs X.outer->(hideAll s.heap (frs (X.env::X.outer))).get? b=some o:=λb o h n f=>
  lYf _ h λz=>((sub b).mp z).elim n f
 have nex:∀b,b∉X.ex:=λb=>by rw[hex];exact lJ2
 have old:∀b o,X.s₀.heap.get? b=some o->b≠X.env.locals:=λb o h z=>by
  rw[z] at h;exact absurd (lJi h) (lQ4.mpr I.ok.above)
 have hdn:kKi a none s'.heap:=let ⟨_,q,_⟩:=hm.there;⟨_,q,rfl⟩
 refine lJ6 (dk_leaving.any (wpAny_leaves_madeW (Q:=λ_ s2=>∃(h':Heap)(t:Addr),s2={s' with heap:=h'}/\Heap.FlyingW (hideAll s.heap (frs (X.env::X.outer))) X.outer a (.ref C) (.ref t) h'/\s'.heap.UpToSlots h') hfr hf (λb o h=>of_hideAll _ h) (funFrames_hide hst λenv he b hb=>qUc env he b hb) hm λh' t fl tp nt up=>⟨h',t,rfl,fl,up⟩) hdn) (λ_ s2 ⟨⟨h',t,e,fl,up⟩,hdc⟩=> ?_) λ_ _ z=>z
 subst e;refine k (hideAll s.heap (frs (X.env::X.outer))) (.ref t,none) h' ⟨ho.trans I.os,by rw[show ({s' with heap:=h'}:Shared).gens=s.gens from hg];exact I.bare,fl,hdc,?_,?_,?_,?_,λb o h n=>I.base.free b o h n (nex b),I.base.tups,I.base.frzs,I.base.tbls⟩
 .intro b o e;refine (I.hok b o e).stay (λc u hc h=>lYf _ h λz=> ?_) (λ_ q=>q) λ_ _ q=>q
  have hn:=I.stkFree c (by rw[hs];exact z)
  rcases hc with rfl | hc
  .rw[e] at hn;cases hn
  .rw[hc] at hn;cases hn
 .intro b o h n f;exact inB b o (I.base.keep b o h n f (nex b)) (old b o h) f
 .intro b o h f;obtain⟨o',h'⟩:=I.base.there b o h (nex b);exact⟨o',inB b o' h' (old b o h) f⟩
 .intro b o h f;obtain⟨sl,e1⟩:=I.base.slot b o h (I.ok.frf b f) f (nex b);obtain⟨_,o',ho',hd⟩:=I.funs.mem f;rw[e1] at ho';cases ho';obtain⟨sl',e2⟩:=(Heap.UpToSlots.of_keeps hm.keeps).trans up b _ e1 hd;exact⟨sl',e2⟩
theorem uJq(I:Inv X pins σ H s)(hs:X.stack=X.env::X.outer)(hf:X.env.frame=some X.env.locals)(hex:X.ex=[])(l:Lies X.prog X.w X.stack H s a C B a0 H' s'){Q:Unit->Shared->Prop}
  (k:∀h',Lies X.prog X.w X.outer X.H₀ X.s₀ a C B a0 H' {s' with heap:=h'}->Q () {s' with heap:=h'}):wpAny (model X.prog X.w) X.A (leaving X.env (.ref a)) Q E s':=by
 have hfr:X.A.frames=some (X.env::X.outer):=by rw[I.ok.frames,hs]
 have sub:∀b,b∈frs X.stack↔b=X.env.locals\/b∈frs X.outer:=λb=>by
  rw[hs];unfold frs;rw[lQ1,hf];exact lJk
 have nex:∀b,b∉X.ex:=λb=>by rw[hex];exact lJ2
 have old:∀b o,X.s₀.heap.get? b=some o->b≠X.env.locals:=λb o h z=>by
  rw[z] at h;exact absurd (lJi h) (lQ4.mpr I.ok.above)
 have nst:∀b o,X.s₀.heap.get? b=some o->b∉frs X.outer->b∉frs X.stack:=λb o h f z=>((sub b).mp z).elim (old b o h) f
 refine lJ6 (dk_leaving.any (wpAny_leaves_onW (Q:=λ_ s2=>∃h':Heap,s2={s' with heap:=h'}/\Heap.FlyingW B X.outer a (.ref C) a0.1 h'/\s'.heap.UpToSlots h') hfr hf (by rw[<-hs];exact l.fly) λh' fl up=>⟨h',rfl,fl,up⟩) l.dct) (λ_ s2 ⟨⟨h',e,fl,up⟩,hdc⟩=> ?_) λ_ _ z=>z
 subst e;refine k h' ⟨l.os.trans I.os,l.bare,fl,hdc,l.hok,?_,?_,?_,?_,?_,?_,?_⟩
 .intro b o h n f;exact l.keep b o (I.base.keep b o h n f (nex b)) (I.base.free b o h n (nex b)) (nst b o h f)
 .intro b o h f;obtain⟨o',e⟩:=I.base.there b o h (nex b);exact l.there b o' e (nst b o h f)
 .intro b o h f;obtain⟨sl,e1⟩:=I.base.slot b o h (I.ok.frf b f) f (nex b);obtain⟨sl',e2⟩:=l.slot b _ e1 ((sub b).mpr (.inr f));obtain⟨_,o',ho',hd⟩:=I.funs.mem f;rw[e1] at ho';cases ho';obtain⟨sl3,e3⟩:=up b _ e2 hd;exact⟨sl3,e3⟩
 .intro b o h n;obtain⟨o',e⟩:=I.base.there b o h (nex b);exact l.free b o' e (I.base.free b o h n (nex b))
 .exact λb xs h=>l.tups b xs (I.base.tups b xs h)
 .exact λb o u h=>l.frzs b o u (I.base.frzs b o u h)
 .intro b ps h;obtain⟨m1,e1⟩:=I.base.tbls b ps h;obtain⟨m2,e2⟩:=l.tbls b _ e1;exact⟨m1++m2,by rw[e2,Array.append_assoc]⟩
theorem qQw(I:Inv X pins σ H s)(l:Lies X.prog X.w X.stack H s a C B a0 H' s')(hs:X.stack=X.env::X.outer)(hf:X.env.frame=some X.env.locals){Q:Unit->Shared->Prop}
  (k:∀h',Inv X pins σ H' {s' with heap:=h'}->Lies X.prog X.w X.stack H s a C B a0 H' {s' with heap:=h'}->Q () {s' with heap:=h'}):
  wpAny (model X.prog X.w) X.A (noteFrame (.ref a) X.env) (λ_ s2=>wpAny (model X.prog X.w) X.A (setFlight (.ref a) none) Q E s2) E s':=by
 have hfr:X.A.frames=some (X.env::X.outer):=by rw[I.ok.frames,hs]
 refine lJ6 (dk_noteFrame.any (wpAny_looks_onW (Q:=λ_ s2=>∃h1:Heap,s2={s' with heap:=h1}/\Heap.HeldW B (X.env::X.outer) a (.ref C) a0.1 X.env.locals h1/\s'.heap.UpToSlots h1) hfr hf (by rw[<-hs];exact l.fly) λh1 hd up1=>⟨h1,rfl,hd,up1⟩) l.dct) (λ_ s2 ⟨⟨h1,e1,hd,up1⟩,hdc1⟩=> ?_) λ_ _ z=>z
 subst e1;refine lJ6 (dk_setFlight.any (wpAny_landsW (s:={s' with heap:=h1}) (Q:=λ_ s2=>∃h2:Heap,s2={s' with heap:=h2}/\Heap.FlyingW B (X.env::X.outer) a (.ref C) a0.1 h2/\h1.UpToSlots h2) hd λh2 fl up2=>⟨h2,rfl,fl,up2⟩) hdc1) (λ_ s2 ⟨⟨h2,e2,fl,up2⟩,hdc⟩=> ?_) λ_ _ z=>z
 subst e2
 have l2:Lies X.prog X.w X.stack H s a C B a0 H' {s' with heap:=h2}:=by
  refine⟨l.os,l.bare,by rw[hs];exact fl,hdc,l.hok,l.keep,l.there,λb o h f=> ?_,l.free,l.tups,l.frzs,l.tbls⟩
  obtain⟨sl,e⟩:=l.slot b o h f;obtain⟨_,o',ho',hd'⟩:=I.stack.mem f;rw[h] at ho';cases ho';obtain⟨sl2,e2⟩:=(up1.trans up2) b _ e hd';exact⟨sl2,e2⟩
 exact k h2 (I.call' l2.os l2.un (l2.hok.kept λb u e=>l2.fly.1 b u e) l2.bare λb z=>absurd z lJ2) l2
end
abbrev exOb(C t:Addr)(dx:Option Addr):Obj:={cls:= .ref C,dict:=dx,data:= .fields #[.ref t,.none,.none,.none,.bool false,.none]}
def ExO(C e:Addr)(dx:Option Addr)(h:Heap):Prop:=∃t,h.get? e=some (exOb C t dx)
def off(e:Addr)(H:Hp):Hp:=λb=>if b=e then none else H b
theorem qXf{e:Addr}{H:Hp}:off e H e=none:=lJc rfl
theorem jYn{e b:Addr}{H:Hp}(h:b≠e):off e H b=H b:=lJb h
section
variable {X:Cx}{pins:List (Addr×Obj)}{σ:L2.St}{H:Hp}{s:Shared}{E:Value->Shared->Prop}
theorem qQv(I:Inv X pins σ H s)(hs:X.stack=X.env::X.outer)(hf:X.env.frame=some X.env.locals)(hex:X.ex=[]){e C:Addr}{dx:Option Addr}(he:H e=some (.ext (ExO C e dx)))(hn:X.s₀.heap.get? e=none){Q:Unit->Shared->Prop}
  (k:∀B a0 h',Lies X.prog X.w X.outer X.H₀ X.s₀ e C B (a0,dx) (off e H) {s with heap:=h'}->Q () {s with heap:=h'}):wpAny (model X.prog X.w) X.A (leaving X.env (.ref e)) Q E s:=by
 have hst:=I.stack;have hfr:X.A.frames=some (X.env::X.outer):=by rw[I.ok.frames,hs]
 rw[hs] at hst;obtain⟨⟨t,ho⟩,_⟩:=(show ExO C e dx s.heap/\_ from I.hok e _ he)
 have sub:∀b,b∈frs (X.env::X.outer)↔b=X.env.locals\/b∈frs X.outer:=λb=>by
  unfold frs;rw[lQ1,hf];exact lJk
 have inB:∀b o,s.heap.get? b=some o->b≠e->b≠X.env.locals->b∉frs X.outer->(hideAll s.heap (e::frs (X.env::X.outer))).get? b=some o:=λb o h ne n f=>
  lYf _ h λz=>(lJk.mp z).elim ne λz=>((sub b).mp z).elim n f
 have nex:∀b,b∉X.ex:=λb=>by rw[hex];exact lJ2
 have old:∀b o,X.s₀.heap.get? b=some o->b≠X.env.locals:=λb o h z=>by
  rw[z] at h;exact absurd (lJi h) (lQ4.mpr I.ok.above)
 have olde:∀b o,X.s₀.heap.get? b=some o->b≠e:=λb o h z=>by rw[z,hn] at h;cases h
 have hdn:kKi e dx s.heap:=⟨_,ho,rfl⟩;have hBe:(hideAll s.heap (e::frs (X.env::X.outer))).get? e=none:=hideAll_none _ (.head _)
 refine lJ6 (dk_leaving.any (wpAny_leaving_firstW (base:=hideAll s.heap (e::frs (X.env::X.outer))) (Q:=λ_ s2=>∃h':Heap,s2={s with heap:=h'}/\Heap.FlyingW (hideAll s.heap (e::frs (X.env::X.outer))) X.outer e (.ref C) (.ref t) h'/\s.heap.UpToSlots h') hfr
  (funFrames_hide hst λenv he b hb=>lJ8 _ (qUc env he b hb)) hf ho (λb o h=>of_hideAll _ h) hBe rfl rfl rfl λh' hL=> ?_) hdn) (λ_ s2 ⟨⟨h',e1,fl,up⟩,hdc⟩=> ?_) λ_ _ z=>z
 .obtain⟨k1,⟨_,_,k2⟩,k3,k4⟩:=hL;exact⟨h',rfl,⟨k1,hBe,k2,k3⟩,k4⟩
 subst e1;refine k (hideAll s.heap (e::frs (X.env::X.outer))) (.ref t) h' ⟨I.os,I.bare,fl,hdc,?_,?_,?_,?_,?_,?_,?_,?_⟩
 .intro b o eo;have hbe:b≠e:=λz=>by rw[z,qXf] at eo;cases eo
  rw[jYn hbe] at eo;refine (I.hok b o eo).stay (λc u hc h=>lYf _ h λz=> ?_) (λc q=> ?_) λc xs q=> ?_
  .have hce:c≠e:=λz=>by
    rcases hc with rfl | hc
    .exact hbe z
    .rw[z,he] at hc;cases hc
   rcases (lJk.mp z) with z | z
   .exact hce z
   have hn:=I.stkFree c (by rw[hs];exact z)
   rcases hc with rfl | hc
   .rw[eo] at hn;cases hn
   .rw[hc] at hn;cases hn
  .rw[jYn (λz=>by rw[z,he] at q;cases q)];exact q
  .rw[jYn (λz=>by rw[z,he] at q;cases q)];exact q
 .intro b o h n f;exact inB b o (I.base.keep b o h n f (nex b)) (olde b o h) (old b o h) f
 .intro b o h f;obtain⟨o',h'⟩:=I.base.there b o h (nex b);exact⟨o',inB b o' h' (olde b o h) (old b o h) f⟩
 .intro b o h f;obtain⟨sl,e1⟩:=I.base.slot b o h (I.ok.frf b f) f (nex b);obtain⟨_,o',ho',hd⟩:=I.funs.mem f;rw[e1] at ho';cases ho';obtain⟨sl',e2⟩:=up b _ e1 hd;exact⟨sl',e2⟩
 .intro b o h n;rw[jYn (olde b o h)];exact I.base.free b o h n (nex b)
 .intro b xs q;have q2:=I.base.tups b xs q;rw[jYn (λz=>by rw[z,he] at q2;cases q2)];exact q2
 .intro b o u q;have q2:=I.base.frzs b o u q;rw[jYn (λz=>by rw[z,he] at q2;cases q2)];exact q2
 .intro b ps q;obtain⟨more,q2⟩:=I.base.tbls b ps q;exact⟨more,by rw[jYn (λz=>by rw[z,he] at q2;cases q2)];exact q2⟩
end
abbrev XK3:=Str->Gp->Prop
abbrev SpX:=List T->Gp->VK3->XK3->Prop
def vmro:List Value:=[.type "ValueError",.type "Exception",.type "BaseException",.type "object"]
theorem uJm{K:PySem.W.Frag}{h h':Heap}{N:Addr}{m:Str->Option Value}(X:K.In h)(X':K.In h')(e:nsOkIn K N=true)(hn:h.Ns N m):h'.Ns N m:=by
 unfold nsOkIn at e;split at e
 .rename_i ho
  obtain⟨o,es,ep,h1,r⟩:=hn;have:=X _ _ ho;rw[h1] at this;cases this;exact⟨_,es,ep,X' _ _ ho,r⟩
 .cases e
theorem qKh{h:Heap}{bm:List Value}(t:OwnTail h vmro bm):bm.contains (.type "BaseException")=true:=t.hasType (by decide)
def CX(K:PySem.W.Frag)(cn:Str)(C:Addr):Prop:=PySem.W.nsIn K mainGlobals (nmOf cn)=some (some (.ref C))
theorem CX.one{K:PySem.W.Frag}{cn:Str}{C D:Addr}(h:CX K cn C)(h':CX K cn D):C=D:=by
 unfold CX at h h';rw[h] at h';cases h';rfl
theorem uVw{cn:Str}(h:jUb cn=none):nmOf cn=cn:=by unfold nmOf;rw[h];rfl
theorem uXa{K:PySem.W.Frag}{cn:Str}{C:Addr}(h:jUb cn=none)(q:CN K cn C):CX K cn C:=by unfold CX;rw[uVw h];exact q
theorem qVe{H:Hp}{cn:Str}{d:Option Addr}(h:jUb cn=none):WhyH H (jUb cn) d:=λy q=>by rw[h] at q;cases q
def dv:Option Addr->Value
 | none=> .none
 | some d=> .ref d
theorem uUy:∀{a b:Option Addr},dv a=dv b->a=b
 | none,none,_=>rfl
 | some _,some _,h=>by cases h;rfl
 | none,some _,h=>by cases h
 | some _,none,h=>by cases h
def CXX(P:Program)(w:World):CXT:=λouter H s E e s'=>∃a C B a0 H',e= .ref a/\Lies P w outer H s a C B a0 H' s'/\E (dv a0.2) (some C) H'
structure XR (X:Cx) (R:XK3):Prop where
 raise_:∀(pins:List (Addr×Obj))(σ:L2.St)(H1:Hp)(G1:Gp)(s1 s':Shared)(a C:Addr)(cn:Str)(args:List Value),Inv X pins σ H1 s1->GRel X.K H1 G1->CX X.K cn C->jUb cn=none->Heap.MadeExcOf s1.heap s'.heap a (.ref C) args->s'.os=s1.os->s'.gens=s1.gens->R cn G1->X.xe (.ref a) s'
 pass:∀(pins:List (Addr×Obj))(σ:L2.St)(H1:Hp)(s1 s':Shared)(a C:Addr)(cn:Str)(B:Heap)(a0:Value×Option Addr)(H':Hp)(G':Gp),Inv X pins σ H1 s1->Lies X.prog X.w X.stack H1 s1 a C B a0 H' s'->GRel X.K H' G'->CX X.K cn C->WhyH H' (jUb cn) a0.2->R cn G'->X.xe (.ref a) s'
 raiseW:∀(pins:List (Addr×Obj))(σ:L2.St)(H1:Hp)(G1:Gp)(s1:Shared)(e C:Addr)(cn:Str)(dx:Option Addr),Inv X pins σ H1 s1->H1 e=some (.ext (ExO C e dx))->(∀b o,X.s₀.heap.get? b=some o->b∉X.ex->b≠e)->GRel X.K (off e H1) G1->CX X.K cn C->WhyH (off e H1) (jUb cn) dx->R cn G1->X.xe (.ref e) s1
 own:PassesOwn (model X.prog X.w) X.A X.env X.xe
noncomputable def dnX(K:PySem.W.Frag)(n:Nat)(sp:SpX):Sp:=λvs H Q E=>vs.length=n/\∃xs G,Reps K H xs vs/\GRel K H G/\sp xs G (λt G'=>∀v H',Ext H H'->GRel K H' G'->Rep K H' t v->Q v H') (λcn G'=>∀d C H',Ext H H'->GRel K H' G'->CX K cn C->WhyH H' (jUb cn) d->E (dv d) (some C) H')
def FnX(P:Program)(w:World)(K:PySem.W.Frag)(mg:Str->Option Value)(base:Heap)(k:Nat)(f:Addr)(fd:FuncData)(ps:List Str)(sp:SpX):Prop:=FnOk P w K mg base (CXX P w) k f fd ps (dnX K ps.length sp)
theorem fnX{P:Program}{w:World}{K:PySem.W.Frag}{mg:Str->Option Value}{base:Heap}{x qual:Str}{st:Stmt}{f:Addr}{fd:FuncData}{N ps:List Str}{k:Nat}{sp:SpX}(F:Fun K x qual st f fd)(S:FnScope N ps (jJk st))
  (hbody:∀(cdv:Value)(A:Around)(outer:List Env)(s:Shared)(H:Hp)(E:XK)(R:XK3),Room k (A.deeper (envOfC qual (jJk st) s.heap.objs.size f cdv))->XR (cxOf (CXX P w) P w K mg base N qual (jJk st) f cdv A outer s H E) R->
   ∃t,PSs3 (cxOf (CXX P w) P w K mg base N qual (jJk st) f cdv A outer s H E) (jKq st) t/\∀xs G Q,sp xs G Q R->t {nx:=λ_ G'=>Q .non G',rt:=Q} (jUq N xs) G):FnX P w K mg base (k+1) f fd ps sp:=by
 obtain⟨oc,od,kV,doc,pm,an,cdv,ct,osl,rfl,lk,hcd⟩:=F.ex;refine uUo (sp:=dnX K ps.length sp) lk hcd S (λvs H Q E h=>h.1) λA outer s H vs Q E hr hsp=> ?_
 obtain⟨hl,xs,G,rs,hg,hsp⟩:=hsp
 have hXR:XR (cxOf (CXX P w) P w K mg base N qual (jJk st) f cdv A outer s H E) (λcn G'=>∀d C H',Ext H H'->GRel K H' G'->CX K cn C->WhyH H' (jUb cn) d->E (dv d) (some C) H'):=by
  refine⟨?_,?_,?_,PassesOwn.leaving⟩
  .intro pins σ H1 G1 s1 s' a C cn args I g1 hc hw hm ho hg' hR;exact qXq I rfl rfl rfl hm ho hg' λB a0 h' l=>⟨a,C,B,a0,H1,rfl,l,hR a0.2 C H1 ⟨I.base.tups,I.base.frzs⟩ g1 hc (qVe hw)⟩
  .intro pins σ H1 s1 s' a C cn B a0 H' G' I l g1 hc hw hR;refine uJq I rfl rfl rfl l λh' l'=>⟨a,C,B,a0,H',rfl,l',hR a0.2 C H' ⟨l'.tups,l'.frzs⟩ g1 hc hw⟩
  .intro pins σ H1 G1 s1 e C cn dx I he hn g1 hc hw hR
   have hn':s.heap.get? e=none:=by
    cases q:s.heap.get? e with
    | none=>rfl
    | some o=>exact absurd rfl (hn e o q lJ2)
   exact qQv I rfl rfl rfl he hn' λB a0 h' l=>⟨e,C,B,(a0,dx),off e H1,rfl,l,hR dx C (off e H1) ⟨l.tups,l.frzs⟩ g1 hc hw⟩
 obtain⟨t,ht,hq⟩:=hbody cdv A outer s H E _ hr hXR
 .refine⟨λD σ H1=>D.nx=(λ_ H'=>Q .non H')/\D.rt=Q/\σ=L2.start N vs/\H1=H,?_,rfl,rfl,rfl,rfl⟩
  rintro pins s1 σ1 H1 D I ⟨e1,e2,e3,e4⟩;subst e3;subst e4;have I3:Inv3 (cxOf (CXX P w) P w K mg base N qual (jJk st) f cdv A outer s H1 E) pins (jUq N xs) G H1 s1:=⟨_,I,kU2 rs,hg⟩;refine thn (ht pins s1 _ G H1 _ I3 (hq xs G _ hsp)) λfl s2 z=> ?_
  cases fl with
  | next=>obtain⟨τ',G',H',e',⟨σ',I',a,b⟩,q⟩:=z;exact⟨σ',H',I',by rw[e1];exact q .non H' e' b rfl⟩
  | brk=>obtain⟨τ',G',H',e',_,q⟩:=z;exact q.elim
  | cont=>obtain⟨τ',G',H',e',_,q⟩:=z;exact q.elim
  | ret u=>obtain⟨x',τ',G',H',e',⟨σ',I',a,b⟩,⟨v,rv,ru⟩,q⟩:=z;exact⟨v,σ',H',I',ru,by rw[e2];exact q v H' e' b rv⟩
def qVb(sp:SpX):Prop:=∀xs G Q Q' R R',(∀t G',Q t G'->Q' t G')->(∀c G',R c G'->R' c G')->sp xs G Q R->sp xs G Q' R'
section
variable {X:Cx}
theorem qKu{k:Nat}{f:Addr}{fd:FuncData}{ps:List Str}{sp:SpX}{pins:List (Addr×Obj)}{σ:L2.St}{τ:St3}{H1:Hp}{G1:Gp}{s1:Shared}{xs:List T}{as:List V}{us:List Value}{Q:VK3}{R:XK3}{E:Value->Shared->Prop}(F:FnX X.prog X.w X.K X.mg X.base k f fd ps sp)(hr:Room k X.A)(hb:Binds X.K fd ps [])(mono:qVb sp)(len:∀xs G Q R,sp xs G Q R->xs.length=ps.length)
  (I1:Inv X pins σ H1 s1) (hs1:SRel X.K H1 σ τ) (hg1:GRel X.K H1 G1) (ras:Reps X.K H1 xs as) (rvs:Vals as us) (q:sp xs G1 Q R)
  (hE:∀a C cn B a0 H' G' s',Lies X.prog X.w X.stack H1 s1 a C B a0 H' s'->Ext H1 H'->GRel X.K H' G'->CX X.K cn C->WhyH H' (jUb cn) a0.2->R cn G'->E (.ref a) s'):
  wpAny (model X.prog X.w) X.A (call (.ref f) us) (EP3 X pins τ H1 Q) E s1:=by
 have hl:us.length=ps.length:=by rw[<-rvs.length,<-ras.length];exact len _ _ _ _ q
 refine lQ8 (lVr (F.run X.A X.stack s1 H1 ⟨us,[]⟩ (us++[]) as (up X.K H1 Q) (λv c H'=>∃cn C d G',v=dv d/\c=some C/\CX X.K cn C/\WhyH H' (jUb cn) d/\Ext H1 H'/\GRel X.K H' G'/\R cn G') hr I1.env0 (hb s1 us I1.kIn (by rw[lKx];exact hl)) (by rw[lKx];exact rvs) ?_) λr s' hq=> ?_)
 .exact⟨by rw[<-ras.length];exact len _ _ _ _ q,xs,G1,ras,hg1,mono _ _ _ _ _ _ (λt G' hq v H' e g r=>⟨t,G',e,g,r,hq⟩) (λcn G' hR d C H' e1 g hc hw=>⟨cn,C,d,G',rfl,rfl,hc,hw,e1,g,hR⟩) q⟩
 .cases r with
  | error e=>
   obtain⟨a,C,B,a0,H',rfl,l,cn,C',d,G',ed,ec,hc,hw,e1,g,hR⟩:=(show CXX X.prog X.w X.stack H1 s1 (λv c H'=>∃cn C d G',v=dv d/\c=some C/\CX X.K cn C/\WhyH H' (jUb cn) d/\Ext H1 H'/\GRel X.K H' G'/\R cn G') e s' from hq)
   cases ec;rw[<-uUy ed] at hw;exact hE a C cn B a0 H' G' s' l e1 g hc hw hR
  | ok fl=>
   cases fl with
   | ret u=>exact jVq hs1 (I1.after hq)
   | next=>exact False.elim hq
   | brk=>exact False.elim hq
   | cont=>exact False.elim hq
def jYv(R:XK3)(cn:Str):TS3:=λ_ _ G=>R cn G
end
abbrev RX3:=Str->St3->Gp->Prop
abbrev TEx:=St3->Gp->VK3->RX3->Prop
abbrev TSx:=Ends3->RX3->St3->Gp->Prop
section
variable {X:Cx}
def XP(X:Cx)(pins:List (Addr×Obj))(H:Hp)(R:RX3)(e:Value)(s':Shared):Prop:=∃a C cn B a0 τ' G1 H1 s1 G' H',e= .ref a/\Ext H H1/\Inv3 X pins τ' G1 H1 s1/\Lies X.prog X.w X.stack H1 s1 a C B a0 H' s'/\Ext H1 H'/\GRel X.K H' G'/\CX X.K cn C/\WhyH H' (jUb cn) a0.2/\R cn τ' G'
def PEx(X:Cx)(e:Expr)(t:TEx):Prop:=∀(pins:List (Addr×Obj))(s:Shared)(τ:St3)(G:Gp)(H:Hp)(Q:VK3)(R:RX3),Inv3 X pins τ G H s->t τ G Q R->wpAny (model X.prog X.w) X.A (eval e X.env) (EP3 X pins τ H Q) (XP X pins H R) s
def PSx(X:Cx)(st:Stmt)(t:TSx):Prop:=∀(pins:List (Addr×Obj))(s:Shared)(τ:St3)(G:Gp)(H:Hp)(D:Ends3)(R:RX3),Inv3 X pins τ G H s->t D R τ G->wpAny (model X.prog X.w) X.A (exec st X.env) (SP3 X pins H D) (XP X pins H R) s
def PSsx(X:Cx)(st:List Stmt)(t:TSx):Prop:=∀(pins:List (Addr×Obj))(s:Shared)(τ:St3)(G:Gp)(H:Hp)(D:Ends3)(R:RX3),Inv3 X pins τ G H s->t D R τ G->wpAny (model X.prog X.w) X.A (execs st X.env) (SP3 X pins H D) (XP X pins H R) s
def Calm(X:Cx):Prop:=∀e s,¬ X.xe e s
theorem Calm.any(h:Calm X){α:Type}{m:Sem α}{Q:α->Shared->Prop}{E:Value->Shared->Prop}{s:Shared}(w:wpAny (model X.prog X.w) X.A m Q X.xe s):wpAny (model X.prog X.w) X.A m Q E s:=
 lJ6 w (λ_ _ z=>z) λe s z=>absurd z (h e s)
def qKk(te:TEx):TSx:=λD R τ G=>te τ G (λ_ G1=>D.nx τ G1) R
theorem qZv{e:Expr}{te:TEx}{pos:Pos}(he:PEx X e te)(hs:swapsWith e none pos.line X.env=pure false:=by rfl):PSx X (.Expr e pos) (qKk te):=by
 intro pins s τ G H D R I h;obtain⟨σ,I0,hs0,hg0⟩:=id I;exact wpAny_Expr_any (thn (he pins s τ G H _ R I h) λv s1 w_=>w_.el λx G1 H1 e1 I1 r1 q1=>⟨τ,G1,H1,e1,I1,q1⟩) I0.quiet hs
theorem qZu{st:Stmt}{t:TSx}(h1:PSx X st t):PSsx X [st] t:=by
 intro pins s τ G H D R I h;refine lXe (thn (h1 pins s τ G H D R I h) λf s1 q=> ?_)
 cases f with
 | next=>exact lVa q
 | ret v=>exact q
 | brk=>exact q
 | cont=>exact q
end
section
variable {X:Cx}{pins:List (Addr×Obj)}{σ:L2.St}{H H':Hp}{s s':Shared}{a C:Addr}{B:Heap}{a0:Value×Option Addr}
abbrev hX(X:Cx)(a:Addr):Cx:={X with A:=X.A.mark (some (.ref a)),calm:=false}
theorem Inv.mark(I:Inv X pins σ H s)(a:Addr):Inv (hX X a) pins σ H s:=
 ⟨⟨I.ok.mod,I.ok.kind,I.ok.glob,I.ok.blt,I.ok.above,I.ok.inj,I.ok.has,I.ok.cab,λz=>Bool.noConfusion z,λz=>Bool.noConfusion z,I.ok.frames,I.ok.stk,I.ok.exf,I.ok.bs,I.ok.bsz,I.ok.noex,I.ok.exfs,I.ok.funs,I.ok.frf⟩,I.os,I.bare,I.base,I.loc,I.cell,I.free,I.freeC,I.pin,I.hok,I.len⟩
theorem Inv.unmark(I:Inv (hX X a) pins σ H s)(ok:X.Ok):Inv X pins σ H s:=⟨ok,I.os,I.bare,I.base,I.loc,I.cell,I.free,I.freeC,I.pin,I.hok,I.len⟩
theorem Inv3.mark{τ:St3}{G:Gp}(I:Inv3 X pins τ G H s)(a:Addr):Inv3 (hX X a) pins τ G H s:=let ⟨σ,I,x,y⟩:=I;⟨σ,Inv.mark I a,x,y⟩
theorem Inv3.unmark{τ:St3}{G:Gp}(I:Inv3 (hX X a) pins τ G H s)(ok:X.Ok):Inv3 X pins τ G H s:=let ⟨σ,I,x,y⟩:=I;⟨σ,Inv.unmark I ok,x,y⟩
theorem qVg{M:Model}{A:Around}{E:Value->Shared->Prop}{i:Nat}{x:Str}{v:V}{Q:Unit->Shared->Prop}(I:Inv X pins σ H s)(hN:X.N.Nodup)(hi:X.N[i]? =some x)(hk:X.env.scope.names.lookup x=some .local)(hv:σ[i]? =some (some v))
  (h:∀s',Inv X pins (σ.set i none) H s'->Q () s'):wpAny M A (unbindName X.env x) Q E s:=by
 obtain⟨m,hn,hl⟩:=id I.loc;have hcls:(X.env.scope.kind == .class||(X.env.scope.kind == .module&&X.env.locals != X.env.globals))=false:=by rw[I.ok.kind];rfl
 have cne:=I.cne
 have hval:∃u,m x=some u:=by
  obtain⟨u,_,q⟩:=hl i x v hi hv (.inl hk)
  rcases q with ⟨_,e⟩ | ⟨k,_⟩
  .exact⟨u,e⟩
  .rcases k with k | k<;>(rw[show X.env.kindOf x=some .local from hk] at k;cases k)
 obtain⟨u0,hu0⟩:=hval;obtain⟨oL,_,_,hoL,_⟩:=id hn;refine wpAny_unbindName_local hk hn hu0 hcls λh' u hn' hs=> ?_
 refine h _ ⟨I.ok,I.os,I.bare,⟨λb o e n hb hx=> ?_,λb o e n hb hx=> ?_,I.base.free,λb o e hx=> ?_,I.base.tups,I.base.frzs,I.base.tbls⟩,⟨_,hn',λj y v' e1 e2 e3=> ?_⟩,λy c e=> ?_,I.free,I.freeC,λp hp=> ?_,λb ob e=> ?_,by simpa using I.len⟩
 .exact (hs.2 b (lJp (lJw (lJi e) I.ok.above))).trans (I.base.keep b o e n hb hx)
 .obtain⟨sl,e1⟩:=I.base.slot b o e n hb hx;exact⟨sl,(hs.2 b (lJp (lJw (lJi e) I.ok.above))).trans e1⟩
 .obtain⟨o',e1⟩:=I.base.there b o e hx;exact⟨o',(hs.2 b (lJp (lJw (lJi e) I.ok.above))).trans e1⟩
 .by_cases hj:j=i
  .subst hj
   by_cases hlt:j<σ.length
   .rw[lKi hlt] at e2;cases e2
   .rw[lJz (by simpa using lQ4.mp hlt)] at e2;cases e2
  .rw[lKh (Ne.symm hj)] at e2;obtain⟨u',r',q⟩:=hl j y v' e1 e2 e3;refine⟨u',r',?_⟩
   rcases q with ⟨k,e⟩ | ⟨k,c,e,z⟩
   .refine .inl ⟨k,?_⟩;have:y≠x:=λe=>hj (kUb hN e1 (e▸hi))
    simp[this,e]
   .exact .inr ⟨k,c,e,z.sameBut hs (cne y c e)⟩
 .obtain⟨w',z⟩:=I.cell y c e;exact⟨w',z.sameBut hs (cne y c e)⟩
 .obtain⟨e,n,ne,nf,d⟩:=I.pin p hp;exact⟨(hs.2 p.1 ne).trans e,n,ne,nf,d⟩
 .refine (I.hok b ob e).stay (λc w' hc q=>(hs.2 c ?_).trans q) (λ_ q=>q) λ_ _ q=>q
  rintro rfl
  rcases hc with rfl | hc
  .rw[I.free] at e;cases e
  .rw[I.free] at hc;cases hc
theorem qQp{M:Model}{A:Around}{E:Value->Shared->Prop}{i:Nat}{x:Str}{pos:Pos}{Q:Unit->Shared->Prop}(I:Inv X pins σ H s)(hN:X.N.Nodup)(hi:X.N[i]? =some x)(hk:X.env.scope.names.lookup x=some .local)
  (h:∀s',Inv X pins (σ.set i none) H s'->Q () s'):wpAny M A (do bindName X.env x .none;unbindBehindTheSuite X.env x pos) Q E s:=by
 have hil:i<σ.length:=by rw[I.len];exact (lJe.mp hi).1
 refine lJa (wpAny_bindName (jVg (v:= .non) I hN hi (.inl hk) rfl (λs1 I1=> ?_) (.inr hk)))
 unfold unbindBehindTheSuite;refine wpAny_onRaise (qVg (v:= .non) I1 hN hi hk (lKi hil) λs2 I2=>h s2 ?_)
 rw[List.set_set] at I2;exact I2
theorem SRel.unset{K:PySem.W.Frag}{τ:St3}(h:SRel K H σ τ)(i:Nat):SRel K H (σ.set i none) (τ.set i none):=by
 refine⟨by simp[h.1],λj u q=> ?_⟩
 by_cases hj:i=j
 .subst hj
  by_cases hl:i<τ.length
  .rw[lKi hl] at q;cases q
  .rw[lJz (by simpa using lQ4.mp hl)] at q;cases q
 .rw[lKh hj] at q ⊢;exact h.2 j u q
theorem Lies.new(I:Inv X pins σ H s)(l:Lies X.prog X.w X.stack H s a C B a0 H' s'):s.heap.get? a=none:=by
 cases e:s.heap.get? a with
 | none=>rfl
 | some o=>
  exfalso
  by_cases f:a∈frs X.stack
  .obtain⟨_,o',ho',hd⟩:=I.stack.mem f;rw[e] at ho';cases ho';obtain⟨sl,e2⟩:=l.slot a o e f;obtain⟨oe,vs,T,oT,ts,he,hc,hdd,_⟩:=l.fly.2.2.2;rw[e2] at he;cases he;exact hd vs hdd
  .obtain⟨o',e2⟩:=l.there a o e f;rw[l.fly.2.1] at e2;cases e2
theorem Lies.again{E:Value->Shared->Prop}{A:Around}(I:Inv X pins σ H s)(l:Lies X.prog X.w X.stack H s a C B a0 H' s'){Q:Unit->Shared->Prop}(k:∀h',Lies X.prog X.w X.stack H s a C B a0 H' {s' with heap:=h'}->Q () {s' with heap:=h'}):wpAny (model X.prog X.w) A (setFlight (.ref a) none) Q E s':=by
 refine lJ6 (dk_setFlight.any (lands_againW (Q:=λ_ s2=>∃h2:Heap,s2={s' with heap:=h2}/\Heap.FlyingW B X.stack a (.ref C) a0.1 h2/\s'.heap.UpToSlots h2) l.fly λh2 fl up=>⟨h2,rfl,fl,up⟩) l.dct) (λ_ s2 ⟨⟨h2,e2,fl,up⟩,hdc⟩=> ?_) λ_ _ z=>z
 subst e2;refine k h2 ⟨l.os,l.bare,fl,hdc,l.hok,l.keep,l.there,λb o h f=> ?_,l.free,l.tups,l.frzs,l.tbls⟩
 obtain⟨sl,e⟩:=l.slot b o h f;obtain⟨_,o',ho',hd'⟩:=I.stack.mem f;rw[h] at ho';cases ho';obtain⟨sl2,e2⟩:=up b _ e hd';exact⟨sl2,e2⟩
theorem qXr(I:Inv X pins σ H s)(l:Lies X.prog X.w X.stack H s a C B a0 H' s'):∃ob,ob.cls= .ref C/\ob.dict=a0.2/\PySem.W.notCls ob=true/\Inv X pins σ (upd H' a (.frz ob (.ext λh=>h.get? a=some ob))) s':=by
 obtain⟨ob,hob,hcl⟩:=l.fly.there
 have hdc:ob.dict=a0.2:=by
  obtain⟨ob',h',q⟩:=l.dct;rw[hob] at h';cases h';exact q
 have hnc:PySem.W.notCls ob=true:=by
  obtain⟨oe,vs,h',_,hda,_⟩:=l.fly.first;rw[hob] at h';cases h';unfold PySem.W.notCls;rw[hda]
 have na:=l.na;have new:=Lies.new I l;have u:=l.un;have hok:=l.hok.kept λb u e=>l.fly.1 b u e
 refine⟨ob,hcl,hdc,hnc,I.call' (ch:=[]) l.os ⟨u.keep,u.slot,λb o h n x=> ?_,u.there,λb xs h=> ?_,λb o w h=> ?_,λb ps h=> ?_⟩ (λb o e=> ?_) l.bare λb z=>absurd z lJ2⟩
 .rw[jJt (λz=>by rw[z,new] at h;cases h)];exact u.free b o h n x
 .rw[jJt (λz=>by have:=u.tups b xs h;rw[z,na] at this;cases this)];exact u.tups b xs h
 .rw[jJt (λz=>by have:=u.frzs b o w h;rw[z,na] at this;cases this)];exact u.frzs b o w h
 .obtain⟨m,e⟩:=u.tbls b ps h;exact⟨m,by rw[jJt (λz=>by rw[z,na] at e;cases e)];exact e⟩
 .by_cases hb:b=a
  .subst hb;rw[jJy] at e;cases e;exact⟨hob,hob,⟨ob,hob⟩,λh1 h2 p k=>k ob p⟩
  .rw[jJt hb] at e;refine (hok b o e).stay (λc w' _ q=>q) (λc q=> ?_) λc xs q=> ?_
   .rw[jJt (λz=>by rw[z,na] at q;cases q)];exact q
   .rw[jJt (λz=>by rw[z,na] at q;cases q)];exact q
end
structure ExSub (K:PySem.W.Frag) (mg:Str->Option Value) (cn c:Str) (b:Bool):Prop where
 ex:∃C D,CX K cn C/\mg c=some (.ref D)/\exmOne K (.ref C) (.ref D)=some b
section
variable {X:Cx}
noncomputable def tTry(i:Nat)(cs:List Str)(tb:TSx)(th:TS3):TS3:=λD τ G=>tb D (λcn τ' G'=>cn∈cs/\∀a,G' a=none->th {nx:=λτ2 G2=>D.nx (τ2.set i none) G2,rt:=λ_ _=>False} (τ'.set i (some (.ref a))) (gup G' a (.exc cn))) τ G
theorem uVf{body:List Stmt}{b0:Stmt}{bs:List Stmt}{c n:Str}{i:Nat}{cs:List Str}{tb:TSx}{th:TS3}{np hpos pos:Pos}(hn:Calm X)(hN:X.N.Nodup)(hb:PSsx X body tb)(hh:∀a,PSs3 (hX X a) (b0::bs) th)(hcs:∀cn,cn∈cs->ExSub X.K X.mg cn c true)
  (hst:X.stack=X.env::X.outer:=by rfl) (hfr:X.env.frame=some X.env.locals:=by rfl) (hi:X.N[i]? =some n:=by rfl) (hk:X.env.scope.names.lookup n=some .local:=by rfl) (hg:Gl X c:=by rfl) (hdb:(c == ("__debug__":Str))=false:=by decide):
  PS3 X (.Try body [.ExceptHandler (some (.Name c np)) (some n) (b0::bs) hpos] [] [] pos) (tTry i cs tb th):=by
 intro pins s τ G H D I h;refine wpAny_Try_except (lJ6 (hb pins s τ G H D _ I h) (λf s1 q=> ?_) λe s1 q=> ?_)
 .cases f with
  | next=>exact lVa q
  | ret v=>exact q
  | brk=>exact q
  | cont=>exact q
 obtain⟨a,C,cn,B,a0,τ',G1,H1,s2,G',H',rfl,e1,I1,l,e2,g,hc,hw,hin,hR⟩:=q;obtain⟨σ,I2,hs2,hg2⟩:=I1;obtain⟨C',Dc,hC',hmg,hx⟩:=(hcs cn hin).ex;cases hC'.one hc;refine qQw I2 l hst hfr λh3 I3 l3=> ?_
 refine wpAny_handleBy_cons (codeAny_handlers_test (kJv (X:=hX X a) (Inv.mark I3 a) hg hmg ?_ hdb)) (by intro q;cases q)
 obtain⟨ob,hob,hcl⟩:=l3.fly.there;have LT:Looks (model X.prog X.w) h3 (typeOf (.ref a)) (.ref C):=hcl▸(Looks.ld (part:=none) hob).andThen .now;refine (exm_one (K:=X.K) I3.kIn LT hx).at ?_
 (refine codeAny_handlers_suite_as ?_)
 refine Lies.again (X:=X) I2 l3 λh4 l4=> ?_
 obtain⟨ob4,hcl4,hd4,hn4,I4⟩:=qXr I2 l4;have ea:Ext H' (upd H' a (.frz ob4 (.ext λh=>h.get? a=some ob4))):= .upd (.none l4.na)
 refine jVg (v:= .ref a) I4 hN hi (.inl hk) rfl (λs5 I5=> ?_) (.inr hk)
 have hs5:SRel X.K (upd H' a (.frz ob4 (.ext λh=>h.get? a=some ob4))) (σ.set i (some (.ref a))) (τ'.set i (some (.ref a))):=((hs2.mono e2).mono ea).set i rfl
 have ga:G' a=none:=g.fresh l4.na;have hg5:GRel X.K (upd H' a (.frz ob4 (.ext λh=>h.get? a=some ob4))) (gup G' a (.exc cn)):=g.upd (.none l4.na) ⟨ob4,C,_,jJy,hcl4,hc,hn4,by rw[hd4];exact hw.mono ea⟩
 have:=hh a pins s5 _ _ _ _ (Inv3.mark ⟨_,I5,hs5,hg5⟩ a) (hR a ga);refine lJ6 this (λf s6 q=> ?_) λe s6 q=>absurd q (hn e s6)
 cases f with
 | next=>
  obtain⟨τ6,G6,H6,e6,I6,q⟩:=q;obtain⟨σ6,I6,hs6,hg6⟩:=Inv3.unmark I6 I2.ok;exact qQp I6 hN hi hk λs7 I7=>⟨_,G6,H6,((e1.trans e2).trans ea).trans e6,⟨_,I7,hs6.unset i,hg6⟩,q⟩
 | ret v=>obtain⟨_,_,_,_,_,_,_,q⟩:=q;exact q.elim
 | brk=>obtain⟨_,_,_,_,_,q⟩:=q;exact q.elim
 | cont=>obtain⟨_,_,_,_,_,q⟩:=q;exact q.elim
end
section
variable {prog:Program}{w:World}{A:Around}{E:Value->Shared->Prop}{s:Shared}{K:PySem.W.Frag}{x D:Addr}{ox:Obj}
end
section
variable {X:Cx}
theorem exsub_mk{K:PySem.W.Frag}{h:Heap}{mg:Str->Option Value}{cn c:Str}{C D:Addr}{v:Bool}(X:K.In h)(G:h.Ns mainGlobals mg)(a:CX K cn C)(b:nsIn K mainGlobals c=some (some (.ref D)))(q:exmOne K (.ref C) (.ref D)=some v):ExSub K mg cn c v:=⟨C,D,a,mg_of X G b,q⟩
end
end L3
namespace L3
open PySem
theorem sub1{K:PySem.W.Frag}{mg:Str->Option Value}{cn c:Str}(h:ExSub K mg cn c true):∀cn',cn'∈[cn]->ExSub K mg cn' c true:=λcn' z=>by cases lJ5.mp z;exact h
end L3
namespace L3
open PySem PySem.Spec PyProof.Rows L2
def RNo:XK3:=λ_ _=>False
theorem qZi{X:Cx}:XR X.nox RNo where
 raise_:=by intros;rename_i h;exact h.elim
 raiseW:=by intros;rename_i h;exact h.elim
 pass:=by intros;rename_i h;exact h.elim
 own:=lJs
end L3
namespace L3
open PySem PySem.Spec PyProof.Rows L2 PySem.W
structure CalMX (P:Program) (w:World) (K:PySem.W.Frag) (mg:Str->Option Value) (base:Heap) (k:Nat) (cn m:Str) (ps:List Str) (sp:SpX):Prop where
 ex:∃C f fd,CN K cn C/\Cls K C/\Meth K C m f/\FnX P w K mg base k f fd ps sp/\Binds K fd ps []
 mono:qVb sp
 len:∀xs G Q R,sp xs G Q R->xs.length=ps.length
def qKj(cn m:Str)(sp:SpX)(ta:TE3)(t:TA3):TEx:=λτ G Q R=>ta τ G λx G1=>obR cn m G1 x=true/\t τ G1 λxs G2=>sp (x::xs) G2 Q λc G'=>R c τ G'
section
variable {X:Cx}{cn m:Str}{k:Nat}{ps:List Str}{sp:SpX}{o e:Expr}{es:List Expr}{ta:TE3}{t:TA3}{pos apos:Pos}
theorem uJ8{pl:Sem Bool}(hn:Calm X)(M:CalMX X.prog X.w X.K X.mg X.base k cn m ps sp)(hr:Room k X.A)(he:PE3 X o ta)(ha:PA3 X (e::es) t)
  (hst:starEach (e::es) X.env=(false,eval e X.env)::starEach es X.env:=by rfl) (hpl:(backTo pos (starEach es X.env)).any (·.1)=false:=by rfl)
  (ht:eval (.Call (.Attribute o m apos) (e::es) [] pos) X.env=(do
   let ov <-eval o X.env
   standAt apos.atName
   let (f,first) <-holding [ov] (getMethod ov m pl)
   callWith pos f first (backTo pos (starEach (e::es) X.env)) (backToKw pos (keywordEach [] X.env))):=by rfl):
  PEx X (.Call (.Attribute o m apos) (e::es) [] pos) (qKj cn m sp ta t):=by
 intro pins s τ G H Q R I h;obtain⟨C,f,fd,hC,hc,hm,F,hb⟩:=M.ex;refine lV5 (pl:=pl) (thn (hn.any (he pins s τ G H _ I h)) λu s1 w_=>w_.el λx G1 H1 e1 I1 r_ q=>r_.el λv rv ru=> ?_) ht
 obtain⟨ob,q⟩:=q;obtain⟨a,fs,rfl,hG,hf⟩:=jYo ob;cases (show v= .ref a from rv)
 obtain rfl:u=Value.ref a:=ru;obtain⟨σ,J1,hs1,hg1⟩:=id I1;obtain⟨C',dx,ws,hH,hC',pk⟩:=(show ∃C dx ws,H1 a=some (.ins C dx ws)/\CN X.K cn C/\PKV X.K H1 fs ws from hg1 a _ hG)
 cases hC.one hC';refine jXn J1 hH hc hm ((kJm pk m).1 hf) ?_;refine lV2 (first:=[.ref a]) (h₀:=X.base) J1.ok.mod.kin hm.kp (thn (hn.any (ha pos pins s1 τ G1 H1 _ I1 q)) λus s2 w_=>w_.el λxs G2 H2 e2 i_ r_ q2=>i_.el λσ2 I2 hs2 hg2=>r_.el λas ras rvs=>⟨I2.kIn,?_⟩) hst hpl
 have rr:Reps X.K H2 (.ref a::xs) (.ref a::as):=⟨_,_,rfl,rfl,ras⟩;refine thn (qKu (us:= .ref a::us) F hr hb M.mono M.len I2 hs2 hg2 rr (.cons rfl rvs) q2 λa' C' cn' B a0 H' G' s' l ex g hc hw hR=> ?_) λu s' z=>z.ext (e1.trans e2)
 exact⟨a',C',cn',B,a0,τ,G2,H2,s2,G',H',rfl,e1.trans e2,⟨σ2,I2,hs2,hg2⟩,l,ex,g,hc,hw,hR⟩
end
def jV4(cn m:Str)(sp:SpX)(R:XK3)(ta:TE3)(t:TA3):TE3:=λτ G Q=>ta τ G λx G1=>obR cn m G1 x=true/\t τ G1 λxs G2=>sp (x::xs) G2 Q R
section
variable {X:Cx}{cn m:Str}{k:Nat}{ps:List Str}{sp:SpX}{o e:Expr}{es:List Expr}{ta:TE3}{t:TA3}{pos apos:Pos}
theorem kUh{R:XK3}{pl:Sem Bool}(hx:XR X R)(M:CalMX X.prog X.w X.K X.mg X.base k cn m ps sp)(hr:Room k X.A)(he:PE3 X o ta)(ha:PA3 X (e::es) t)
  (hst:starEach (e::es) X.env=(false,eval e X.env)::starEach es X.env:=by rfl) (hpl:(backTo pos (starEach es X.env)).any (·.1)=false:=by rfl)
  (ht:eval (.Call (.Attribute o m apos) (e::es) [] pos) X.env=(do
   let ov <-eval o X.env
   standAt apos.atName
   let (f,first) <-holding [ov] (getMethod ov m pl)
   callWith pos f first (backTo pos (starEach (e::es) X.env)) (backToKw pos (keywordEach [] X.env))):=by rfl):
  PE3 X (.Call (.Attribute o m apos) (e::es) [] pos) (jV4 cn m sp R ta t):=by
 intro pins s τ G H Q I h;obtain⟨C,f,fd,hC,hc,hm,F,hb⟩:=M.ex;refine lV5 (pl:=pl) (thn (he pins s τ G H _ I h) λu s1 w_=>w_.el λx G1 H1 e1 I1 r_ q=>r_.el λv rv ru=> ?_) ht
 obtain⟨ob,q⟩:=q;obtain⟨a,fs,rfl,hG,hf⟩:=jYo ob;cases (show v= .ref a from rv)
 obtain rfl:u=Value.ref a:=ru;obtain⟨σ,J1,hs1,hg1⟩:=id I1;obtain⟨C',dx,ws,hH,hC',pk⟩:=(show ∃C dx ws,H1 a=some (.ins C dx ws)/\CN X.K cn C/\PKV X.K H1 fs ws from hg1 a _ hG)
 cases hC.one hC';refine jXn J1 hH hc hm ((kJm pk m).1 hf) ?_;refine lV2 (first:=[.ref a]) (h₀:=X.base) J1.ok.mod.kin hm.kp (thn (ha pos pins s1 τ G1 H1 _ I1 q) λus s2 w_=>w_.el λxs G2 H2 e2 i_ r_ q2=>i_.el λσ2 I2 hs2 hg2=>r_.el λas ras rvs=>⟨I2.kIn,?_⟩) hst hpl
 have rr:Reps X.K H2 (.ref a::xs) (.ref a::as):=⟨_,_,rfl,rfl,ras⟩;refine thn (qKu (us:= .ref a::us) F hr hb M.mono M.len I2 hs2 hg2 rr (.cons rfl rvs) q2 λa' C' cn' B a0 H' G' s' l _ g hc hw hR=>hx.pass pins σ2 H2 s2 s' a' C' cn' B a0 H' G' I2 l g hc hw hR) λu s' z=>z.ext (e1.trans e2)
end
end L3
namespace L3
open PySem PySem.Spec PyProof.Rows L2
def insI(a:Int):List Int->List Int
 | []=>[a]
 | b::r=>if a<=b then a::b::r else b::insI a r
def kKk:List Int->List Int
 | []=>[]
 | a::r=>insI a (kKk r)
theorem kJy(a:Int):∀l:List Int,(insI a l).Perm (a::l)
 | []=> .refl _
 | b::r=>by
  unfold insI;split
  .exact .refl _
  .exact ((kJy a r).cons b).trans (.swap a b r)
theorem jXl:∀l:List Int,(kKk l).Perm l
 | []=> .nil
 | a::r=>(kJy a _).trans ((jXl r).cons a)
theorem qQ2(a:Int):∀l:List Int,l.Pairwise (· <= ·)->(insI a l).Pairwise (· <= ·)
 | [],_=>List.pairwise_singleton ..
 | b::r,h=>by
  rw[lV6] at h;unfold insI;split
  .rename_i c
   refine lV6.mpr ⟨λx hx=> ?_,lV6.mpr h⟩
   rcases (lJk.mp hx) with rfl | hx
   .exact c
   .exact Int.le_trans c (h.1 x hx)
  .rename_i c
   refine lV6.mpr ⟨λx hx=> ?_,qQ2 a r h.2⟩
   rcases lJk.mp ((kJy a r).mem_iff.mp hx) with rfl | hx
   .omega
   .exact h.1 x hx
theorem kQu:∀l:List Int,(kKk l).Pairwise (· <= ·)
 | []=> .nil
 | a::r=>qQ2 a _ (kQu r)
theorem jYw:∀{l m:List Int},l.Perm m->l.Pairwise (· <= ·)->m.Pairwise (· <= ·)->l=m
 | [],_,p,_,_=>(List.nil_perm.mp p).symm
 | a::l,[],p,_,_=>absurd p.symm (by simp)
 | a::l,b::m,p,h,h'=>by
  rw[lV6] at h h'
  have e:a=b:=by
   have h1:a<=b:=by
    rcases lJk.mp (p.mem_iff.mpr (lKg ..)) with e | e
    .omega
    .exact h.1 b e
   have h2:b<=a:=by
    rcases lJk.mp (p.mem_iff.mp (lKg ..)) with e | e
    .omega
    .exact h'.1 a e
   omega
  subst e;rw[jYw (List.perm_cons a |>.mp p) h.2 h'.2]
theorem kVm{vs:List Value}{ns:List Int}(h:IntsAre vs ns):Vals (ns.map V.int) vs:=by
 induction h with
 | nil=>exact .nil
 | @cons i t vs ns _ ih=>exact .cons ⟨t,rfl⟩ ih
theorem jY7:∀{is:List Int}{us:List Value},Vals (is.map V.int) us->IntsAre us is
 | [],_,.nil=> .nil
 | i::is,_,.cons ⟨t,e⟩ r=>by rw[e];exact .cons _ _ (jY7 r)
theorem kYz{K:PySem.W.Frag}{H:Hp}:∀(is:List Int),Reps K H (is.map T.int) (is.map V.int)
 | []=>rfl
 | _::is=>⟨_,_,rfl,rfl,kYz is⟩
section
variable {X:Cx}
noncomputable def qK5:List T->Gp->VK3->Prop:=λxs G Q=>∃(x:T)(is:List Int),xs=[x]/\jU2 G x=some (is.map T.int)/\is.length<64/\∀p,G p=none->Q (.ref p) (gup G p (.lst ((kKk is).map T.int)))
theorem uKk:Call3 X (.builtin "sorted") qK5:=by
 rintro pins s τ G H xs us Q ⟨σ,I,hs,hg⟩ ⟨as,ras,rvs⟩ ⟨x,is,ex,hx,hn,q⟩;subst ex;obtain⟨v,rfl,rv⟩:=jU7 ras;obtain⟨u,rfl,ru⟩:=rvs.one;obtain⟨pa,vs,rfl,hq,r⟩:=jVu hg rv hx;cases ru;cases jUj r;obtain⟨its,rvv,pl,hz⟩:=I.list hq;have hl:its.length=is.length:=by rw[<-rvv.length,lJf]
 refine sorted_ints (vs:=its) pl.isList (jY7 rvv) (by omega) λout ns' hI hp ho=> ?_
 obtain⟨e,he⟩:=sortedAll_at s.heap its out;have en:ns'=kKk is:=jYw (hp.trans (jXl is).symm) ho (kQu is);subst en;have fr:=I.hok.fresh (lXi s.heap.objs.size);have ln:(kKk is).length=is.length:=(jXl is).length_eq;have I3:=I.laid (a:=s.heap.objs.size+1) (o:= .lst ((kKk is).map V.int)) (h':=sortedAll s.heap its out) (t':=s.toks) (λb o z=>sortedAll_old z) (lXi _) ⟨by rw[lJf,lQf];omega,out.toList,e,kVm hI,he⟩
 have ext:Ext H (upd H (s.heap.objs.size+1) (.lst ((kKk is).map V.int))):= .upd (.none fr);exact⟨.ref _,_,_,ext,⟨σ,I3,hs.mono ext,hg.lstNew (kYz _) (.none fr)⟩,⟨.ref _,rfl,rfl⟩,q _ (hg.fresh fr)⟩
end
section
variable {X:Cx}
end
section
variable {P:Program}{w:World}{d:Addr}
theorem qJj{K:Type}[DecidableEq K](knd:HeapKind P w K)(a:Addr)(z:Value)(hd:(d == sysModules)=false):
  MeetsIn P w (Builtin.«dict.get» ⟨[.ref d,.ref a,z],[]⟩) (λA R s=>knd.room A.in1/\∃k xs,knd.is s.heap k a/\s.heap.DictOfH knd d xs/\R (.ok (.ret (((atKey xs k).map (·.2)).getD z))) {s with toks:=s.toks+knd.draws k}):=
 .of_wp λA R (s) ⟨hu,k,xs,hkey,hm,h⟩=>by
  unfold Builtin.«dict.get»; refine lJa ?_;unfold Builtin.Dict.keyAndDefault;refine lJa (lYe hm.typeIs ?_);refine (show wpAny _ _ (pure (d,Value.ref a,some z)) _ _ s from lJd ?_)
  refine lJa (m:=dictGet d (.ref a)) (wpAny_dictGet_heap hu hkey hm ?_);cases e:(atKey xs k).map (·.2) with
  | some v=>rw[e] at h;exact lJd ⟨_,rfl,h⟩
  | none=>
   rw[e] at h;refine lJa (m:=Builtin.Dict.missed d (.ref a)) ?_;unfold Builtin.Dict.missed;rw[lJb (by rw[hd];exact (lJl))]
   exact lJd (lJd ⟨_,rfl,h⟩)
end
section
variable {X:Cx}
def qV5:T->List T->Gp->VK3->Prop:=λx as G Q=>∃p ys z o,x= .ref p/\as=[.tup ys,z]/\dAt G (.ref p) (.tup ys)=some o/\Q (o.getD z) G
theorem qZb(hu:X.A.units+20<cLine):Mt3 X "dict.get" qV5:=by
 rintro pins s τ G H x as v us Q ⟨σ,I,hs,hg⟩ ⟨a,ra,rv⟩ ⟨bs,rbs,rus⟩ ⟨p,ys,zz,o,ex,ea,hd,q⟩;subst ex;subst ea;cases (show a= .ref p from ra);cases rv
 obtain⟨b,bz,rfl,rb,rz⟩:=kQ0 rbs;obtain⟨u1,uz,rfl,ru1,ruz⟩:=rus.two;obtain⟨p',ov,ep,g,e1,e2⟩:=kKa hg ra rb hd;cases ep;obtain⟨q',vs,e,h3,h4⟩:=(show ∃q vs,b= .ref q/\H q=some (.tup vs)/\Reps X.K H ys vs from rb)
 subst e;cases (show u1=Value.ref q' from ru1)
 rcases g with ⟨kvs,k,e,ey,l⟩ | ⟨kvs,k,b,e,ey,eb,l⟩
 .cases k<;>cases ey
 .cases ey;obtain⟨z,hdd,xs,rel,dd⟩:=kYf I.hok e;refine call_meetsIn lV4 dd.typeIs PySem.F.entry_dict_get (PySem.F.args_dict_get_3 _ _ _) (qJj (jKn X.prog X.w) q' uz hdd) ⟨jJ0 hu,k,xs,jYq I.hok eb,dd,?_⟩;have ro:=rel.val k;rw[<-l] at ro;cases ov with
  | none=>
   cases o with
   | some t=>cases e1
   | none=>
    cases ea:atKey xs k with
    | some pp=>rw[ea] at ro;exact (show False from ro).elim
    | none=>exact⟨zz,G,H,.refl H,⟨σ,I.tok _,hs,hg⟩,⟨bz,rz,ruz⟩,q⟩
  | some wv=>
   cases o with
   | none=>cases e1
   | some t=>
    obtain⟨wv',e',rt⟩:=e2 t rfl;cases e';cases ea:atKey xs k with
    | none=>rw[ea] at ro;exact (show False from ro).elim
    | some pp=>rw[ea] at ro;exact⟨t,G,H,.refl H,⟨σ,I.tok _,hs,hg⟩,⟨wv,rt,ro⟩,q⟩
end
section
variable {prog:Program}{w:World}{A:Around}{E:Value->Shared->Prop}{s:Shared}
end
section
variable {P:Program}{w:World}{A:Around}{E:Value->Shared->Prop}{s:Shared}{it l:Addr}{xs:Array Value}
end
section
variable {X:Cx}
end
end L3
namespace PySem
open Sem (wp)
set_option maxRecDepth 100000
end PySem
namespace L3
open PySem PySem.Spec PyProof.Rows L2
section
variable {prog:Program}{w:World}{A:Around}{E:Value->Shared->Prop}{s:Shared}
end
section
variable {X:Cx}
end
end L3
namespace L3
open PySem PySem.Spec PyProof.Rows L2 PySem.W
section
variable {prog:Program}{w:World}{A:Around}{E:Value->Shared->Prop}{s:Shared}
end
section
variable {w:World}{prog:Program}
section
variable {A:Around}{R:Result->Shared->Prop}{I:Addr}{fp:List Addr}{G:Array GenState->Array GenState->Prop}{n:Nat}{P:Nat->Value->Prop}{St:Nat->Shared->Prop}
end
section
variable {E:Value->Shared->Prop}{s:Shared}{A:Around}
end
end
section
variable {prog:Program}{w:World}{A:Around}{E:Value->Shared->Prop}{s:Shared}
end
section
variable {prog:Program}{w:World}{A:Around}{E:Value->Shared->Prop}{s:Shared}
end
section
variable {X:Cx}
end
end L3
namespace PySem
open Sem (wp)
set_option maxRecDepth 100000
namespace F
end F
end PySem
namespace L3
open PySem PySem.Spec PyProof.Rows L2 PySem.W
section
variable {prog:Program}{w:World}{A:Around}{E:Value->Shared->Prop}{s:Shared}
theorem kZ2{M:Model}{a:Addr}{o:Obj}{Q:Option Obj->Shared->Prop}(ho:s.heap.get? a=some o)(h:Q (some o) s):wpAny M A (loadIfAlive a) Q E s:=by
 intro Γ p _;unfold loadIfAlive;rw[Sem.wp_loadIfAlive,ho];exact h
def ZipM(h:Heap)(z TI TO T:Addr)(b:Bool):Prop:=h.get? z=some {cls:= .type "zip",dict:=none,data:= .fields #[rawInt T,.bool b,.bool false,.ref TI,.ref TO],slots:= #[]}
theorem kUz{z TI TO T:Addr}{bb:Bool}{K:Bool->Shared->Prop}(hz:ZipM s.heap z TI TO T bb)(k:∀h0,ZipM h0 z TI TO T true->Heap.SameBut z s.heap h0->K false {s with heap:=h0}):
  wpAny (model prog w) A (if (Value.bool bb != Value.bool true)=true then do setField (.ref z) 1 (.bool true);pure false else pure false) K E s:=by
 cases bb with
 | true=>exact lJd (k s.heap hz (.refl _ _))
 | false=>exact lJa (wpAny_setField_rec hz (by simp) λh0 hz0 sb=>lJd (k h0 hz0 sb))
theorem kQi{z TI TO i1 i2 l1 l2 T:Addr}{oT:Obj}{bb:Bool}{k1 k2:Nat}{xs ys:Array Value}{x y:Value}{Q:Value->Shared->Prop}(D:ZipApart z TI TO i1 i2 l1 l2)
  (hz:ZipM s.heap z TI TO T bb) (hT:s.heap.get? T=some oT) (hTI:IsPair s.heap TI (.ref i1) (.ref i2))
  (h1:s.heap.IsListIter i1 l1 k1) (h2:s.heap.IsListIter i2 l2 k2) (hl1:s.heap.IsList l1 xs) (hl2:s.heap.IsList l2 ys) (hx:xs[k1]? =some x) (hy:ys[k2]? =some y)
  (hQ:∀h',ZipM h' z TI TO T true->h'.IsListIter i1 l1 (k1+1)->h'.IsListIter i2 l2 (k2+1)->IsPair h' s.heap.objs.size x y->h'.objs.size=s.heap.objs.size+1->
   (∀c o,c≠z->c≠i1->c≠i2->s.heap.get? c=some o->h'.get? c=some o)->Q (.ref s.heap.objs.size) {s with heap:=h'}):wpAny (model prog w) A (Builtin.«zip.__next__» ⟨[.ref z],[]⟩) (λfin s'=>∃v,fin= .done (.ret v)/\Q v s') E s:=by
 refine (show wpAny _ _ (field (.ref z) 2 >>= _) _ _ _ from ?_)
 (refine lJa (lKv hz rfl (x:= .bool false) rfl ?_))
 refine (show wpAny _ _ (field (.ref z) 3 >>= _) _ _ _ from ?_)
 (refine lJa (lKv hz rfl (x:= .ref TI) rfl ?_))
 (refine lJa (lX7 hTI rfl ?_))
 refine (show wpAny _ _ (Builtin.SmallTypes.ownedTupleIsFree (.ref z) >>= _) _ _ _ from ?_)
 refine lJa ?_
 (unfold Builtin.SmallTypes.ownedTupleIsFree)
 refine lJa (lKv hz rfl (x:=rawInt T) rfl ?_);refine (show wpAny _ _ (loadIfAlive T >>= _) _ _ _ from ?_)
 refine lJa (kZ2 hT ?_)
 (simp only[Option.isNone_some,lKp,lJt])
 refine lJa (lKv hz rfl (x:= .bool bb) rfl ?_);refine kUz hz λh0 hz0 sb=> ?_
 (simp only[lKp,lJt])
 refine lJa ?_;rw[<-lVv]
 (simp only[lYq,List.forIn_nil])
 refine lJa (lJa (lKo ?_));refine (show wpAny _ _ (Builtin.SmallTypes.nextOf (.ref i1) >>= _) _ _ _ from ?_)
 refine lJa (wpAny_nextOf_list_item (s:={s with heap:=h0}) (h1.extBut sb.extBut D.i1z) (hl1.extBut sb.extBut D.l1z) hx λh₂ h1₂ hs₂=>lJd (lJd ?_))
 dsimp only
 refine lJa (lJa (lKo ?_));refine (show wpAny _ _ (Builtin.SmallTypes.nextOf (.ref i2) >>= _) _ _ _ from ?_)
 refine lJa (wpAny_nextOf_list_item (s:={s with heap:=h₂ }) ((h2.extBut sb.extBut D.i2z).extBut hs₂.extBut D.i12.symm) ((hl2.extBut sb.extBut D.l2z).extBut hs₂.extBut D.l2i1) hy λh₄ h2₄ hs₄=>lJd (lJd ?_))
 dsimp only
 refine lJd ?_
 dsimp only
 refine lJa (wpAny_newTuple ?_ (by show 2<=sizeLine;decide))
 have sz:h₄.objs.size=s.heap.objs.size:=by rw[hs₄.1,hs₂.1,sb.1]
 have kp:∀c o,c≠z->c≠i1->c≠i2->s.heap.get? c=some o->h₄.get? c=some o:=λc o c1 c2 c3 e=>hs₄.extBut _ _ c3 (hs₂.extBut _ _ c2 (sb.extBut _ _ c1 e))
 (refine lJd ⟨_,rfl,?_⟩)
 show Q (.ref h₄.objs.size) _
 rw[sz];refine hQ _ (lJj _ (hs₄.extBut _ _ D.i2z.symm (hs₂.extBut _ _ D.i1z.symm hz0))) ((h1₂.extBut hs₄.extBut D.i12).at λo e=>lJj _ e) (h2₄.at λo e=>lJj _ e) (by rw[<-sz];exact lJ1 _ rfl) (by rw[lVy,sz]) λc o c1 c2 c3 e=>lJj _ (kp c o c1 c2 c3 e)
theorem kUy{z TI TO i1 i2 l1 l2 T:Addr}{oT:Obj}{bb:Bool}{k1:Nat}{xs:Array Value}{Q:PySem.Fin->Shared->Prop}(hh:A.handled=none)(D:ZipApart z TI TO i1 i2 l1 l2)
  (hz:ZipM s.heap z TI TO T bb) (hT:s.heap.get? T=some oT) (hTI:IsPair s.heap TI (.ref i1) (.ref i2))
  (h1:s.heap.IsListIter i1 l1 k1) (hl1:s.heap.IsList l1 xs) (hx:xs[k1]? =none)
  (hE:∀h' e,(∀c o,c≠z->c≠i1->s.heap.get? c=some o->h'.get? c=some o)->(∃o,h'.get? e=some o/\o.cls= .type "StopIteration")->E (.ref e) {s with heap:=h'}):wpAny (model prog w) A (Builtin.«zip.__next__» ⟨[.ref z],[]⟩) Q E s:=by
 refine (show wpAny _ _ (field (.ref z) 2 >>= _) _ _ _ from ?_)
 (refine lJa (lKv hz rfl (x:= .bool false) rfl ?_))
 refine (show wpAny _ _ (field (.ref z) 3 >>= _) _ _ _ from ?_)
 (refine lJa (lKv hz rfl (x:= .ref TI) rfl ?_))
 (refine lJa (lX7 hTI rfl ?_))
 refine (show wpAny _ _ (Builtin.SmallTypes.ownedTupleIsFree (.ref z) >>= _) _ _ _ from ?_)
 refine lJa ?_
 (unfold Builtin.SmallTypes.ownedTupleIsFree)
 refine lJa (lKv hz rfl (x:=rawInt T) rfl ?_);refine (show wpAny _ _ (loadIfAlive T >>= _) _ _ _ from ?_)
 refine lJa (kZ2 hT ?_)
 (simp only[Option.isNone_some,lKp,lJt])
 refine lJa (lKv hz rfl (x:= .bool bb) rfl ?_);refine kUz hz λh0 hz0 sb=> ?_
 (simp only[lKp,lJt])
 refine lJa ?_;rw[<-lVv]
 (simp only[lYq,List.forIn_nil])
 refine lJa (lJa (lKo ?_));refine (show wpAny _ _ (Builtin.SmallTypes.nextOf (.ref i1) >>= _) _ _ _ from ?_)
 refine lJa (wpAny_nextOf_list_end (s:={s with heap:=h0}) hh (h1.extBut sb.extBut D.i1z) (hl1.extBut sb.extBut D.l1z) hx λh₂ e hs₂ he=> ?_)
 exact hE h₂ e (λc o c1 c2 q=>hs₂ _ _ c2 (sb.extBut _ _ c1 q)) he
theorem jZi{z TI TO i1 i2 l1 l2 T:Addr}{oT:Obj}{bb:Bool}{k1 k2:Nat}{xs ys:Array Value}{x y:Value}{Q:Option Value->Shared->Prop}(D:ZipApart z TI TO i1 i2 l1 l2)
  (hz:ZipM s.heap z TI TO T bb) (hT:s.heap.get? T=some oT) (hTI:IsPair s.heap TI (.ref i1) (.ref i2))
  (h1:s.heap.IsListIter i1 l1 k1) (h2:s.heap.IsListIter i2 l2 k2) (hl1:s.heap.IsList l1 xs) (hl2:s.heap.IsList l2 ys) (hx:xs[k1]? =some x) (hy:ys[k2]? =some y)
  (hQ:∀h',ZipM h' z TI TO T true->h'.IsListIter i1 l1 (k1+1)->h'.IsListIter i2 l2 (k2+1)->IsPair h' s.heap.objs.size x y->
   (∀c o,c≠z->c≠i1->c≠i2->s.heap.get? c=some o->h'.get? c=some o)->Q (some (.ref s.heap.objs.size)) {s with heap:=h'}):wpAny (model prog w) A (pyNext (.ref z)) Q E s:=by
 have hTy:s.TypeIs (.ref z) "zip":=⟨_,hz,rfl⟩;unfold pyNext
 exact lJa (lYa (lVs (name:=Str.ofString "__next__") hTy lXu
  (lQy lXu hTy PySem.F.entry_zip_next
   (kQi D hz hT hTI h1 h2 hl1 hl2 hx hy λh' a1 a2 a3 a4 _ a5=>lJd (hQ h' a1 a2 a3 a4 a5)) (PySem.F.args_zip_next_1 _))))
theorem kJl{z TI TO i1 i2 l1 l2 T:Addr}{oT:Obj}{bb:Bool}{k1:Nat}{xs:Array Value}{Q:Option Value->Shared->Prop}(hh:A.handled=none)(D:ZipApart z TI TO i1 i2 l1 l2)
  (hz:ZipM s.heap z TI TO T bb) (hT:s.heap.get? T=some oT) (hTI:IsPair s.heap TI (.ref i1) (.ref i2))
  (h1:s.heap.IsListIter i1 l1 k1) (hl1:s.heap.IsList l1 xs) (hx:xs[k1]? =none)
  (hQ:∀h',(∀c o,c≠z->c≠i1->s.heap.get? c=some o->h'.get? c=some o)->Q none {s with heap:=h'}):wpAny (model prog w) A (pyNext (.ref z)) Q E s:=by
 have hTy:s.TypeIs (.ref z) "zip":=⟨_,hz,rfl⟩;unfold pyNext
 refine lJa (lYa (lVs (name:=Str.ofString "__next__") hTy lXu
  (lQy lXu hTy PySem.F.entry_zip_next (kUy hh D hz hT hTI h1 hl1 hx λh' e hk he=> ?_) (PySem.F.args_zip_next_1 _))))
 obtain⟨o,ho,hc⟩:=he
 (refine lJa (lXb (T:="StopIteration") (b:=true) ⟨o,ho,hc⟩ isSubtype_stop ?_))
 exact lJd (hQ _ hk)
end
section
variable {X:Cx}
end
end L3
namespace L3
open PySem PySem.Spec PyProof.Rows L2
section
variable {X:Cx}
end
end L3
namespace L3
open PySem PySem.Spec PyProof.Rows L2 PySem.W
section
variable {prog:Program}{w:World}{A:Around}{E:Value->Shared->Prop}{s:Shared}{d:Addr}{o:Obj}{es:Array DictEntry}{ep:Nat}
theorem kVv{id:String}{Q:Array DictEntry->Shared->Prop}(ho:s.heap.get? d=some o)(hd:o.data= .dict es ep)(hall:∀e,e∈es.toList->(es.filter (·.hash == e.hash)).size<=1/\∃b,e.key= .ref b/\s.TypeIs (.ref b) "tuple")(h:Q es s):wpAny (model prog w) A (Builtin.Dict.entriesForEmpty id d) Q E s:=by
 (unfold Builtin.Dict.entriesForEmpty)
 (refine lJa (lVf ho hd ?_))
 refine lJa ?_;rw[<-lVv];refine lX6 _ (λrest _ s'=>s'=s/\∀e,e∈rest->e∈es.toList) _ ?_ ?_ _ _ ⟨rfl,λe he=>he⟩
 .rintro e rest b s' ⟨rfl,hr⟩;obtain⟨h1,p,h2,h3⟩:=hall e (hr e (lKg ..));rw[h2];refine lJa ?_;unfold Builtin.Dict.quietEq;refine lJa (lQo h3 PySem.F.slot_tuple_eq.lookup (lJd ?_));rw[lJc (by decide),lJb (by omega)]
  exact lJd ⟨rfl,λe he=>hr e (lJ8 _ he)⟩
 .rintro b s' ⟨rfl,_⟩;exact lJd h
theorem qJz{l:Addr}{Q:Value->Shared->Prop}(hl:(l == sysModules)=false)(ho:s.heap.get? l=some o)(hc:o.ExactDict)(hx:o.data= .dict es ep)(hz:es.size<=sizeLine)(hall:∀e,e∈es.toList->(es.filter (·.hash == e.hash)).size<=1/\∃b,e.key= .ref b/\s.TypeIs (.ref b) "tuple")
  (k:∀h' o' ep',h'.get? s.heap.objs.size=some o'->o'.ExactDict->o'.data= .dict es ep'->(∀b u,s.heap.get? b=some u->h'.get? b=some u)->Q (.ref s.heap.objs.size) {s with heap:=h'}):
  wpAny (model prog w) A (call (.type "dict") [.ref l]) Q E s:=by
 refine callType_codes (Q₁:=λobj s₁=>obj= .ref s.heap.objs.size/\s₁={s with heap:=s.heap.push {cls:= .type "dict",data:= .dict #[]} }) PySem.F.kt_called_dict (PySem.F.kt_typeCall_dict_1 _) PySem.F.entry_dict_init (kt_code_dict_new _ ⟨rfl,rfl⟩) ?_
 rintro obj s₁ ⟨rfl,rfl⟩;have hn:(s.heap.push {cls:= .type "dict",data:= .dict #[]}).get? s.heap.objs.size=some {cls:= .type "dict",data:= .dict #[]}:=lJ1 _ rfl;have up:∀b u,s.heap.get? b=some u->(s.heap.push {cls:= .type "dict",data:= .dict #[]}).get? b=some u:=λb u e=>lJj _ e
 have ho':=up _ _ ho;have hTn:Shared.TypeIs {s with heap:=s.heap.push {cls:= .type "dict",data:= .dict #[]} } (.ref s.heap.objs.size) "dict":=⟨_,hn,rfl⟩
 have hTl:Shared.TypeIs {s with heap:=s.heap.push {cls:= .type "dict",data:= .dict #[]} } (.ref l) "dict":=⟨_,ho',hc.1⟩
 have hdl:s.heap.objs.size≠l:=λe=>absurd (lJi ho) (by rw[e];exact lQ0 _)
 refine⟨hTn,PySem.F.args_dict_init_2 _ _,?_⟩
 (unfold Builtin.«dict.__init__»)
 refine lJa ?_
 (unfold Builtin.Dict.selfAndRest)
 refine lJa (lYe hTn ?_);refine (show wpAny _ _ (pure (s.heap.objs.size,[Value.ref l])) _ _ _ from ?_)
 refine lJd ?_;refine (show wpAny _ _ (Builtin.Dict.updateFrom "dict.__init__" s.heap.objs.size (.ref l) [] .none) _ _ _ from ?_)
 (unfold Builtin.Dict.updateFrom)
 refine lJa (lQp hTl ?_);rw[lJb (by decide)]
 refine lJa ?_;unfold Builtin.Dict.merge;refine lJa ?_
 (unfold Builtin.Dict.readDirectly)
 refine lJa (lXb hTl isSubtype_dict_dict ?_)
 (simp only[Bool.not_true,lKp,lJt])
 refine lJa (lQo hTl PySem.F.slot_dict_iter.lookup (lJd ?_))
 (simp only[lY8,lJ7])
 refine lJa (lJd ?_);unfold Builtin.Dict.mergeDict;rw[lJb (by simpa using hdl)]
 unfold Builtin.Dict.showsAll
 (rw[lJb (by rw[hl];exact lJl)])
 refine lJa (lJd ?_);refine lJa (lVf ho' hx ?_)
 dsimp only
 split
 .refine lJa (lVf hn rfl ?_);rw[lJc (by rfl)]
  refine lJa (kVv ho' hx (λe he=> ?_) ?_)
  .obtain⟨h1,b,h2,u,h3,h4⟩:=hall e he;exact⟨h1,b,h2,u,up _ _ h3,h4⟩
  have ex:Obj.ExactDict {cls:= .type "dict",data:= .dict #[]}:=⟨rfl,rfl,rfl⟩;split
  .refine lJa (wpAny_updateDictKeysTo hn rfl (lJd ?_) (by omega))
   exact lJa (lJd (lJd ⟨rfl,k _ _ _ (lK2 _ hn (Obj.isFreed_of_dict (Obj.data_mapDictKeys rfl _))) (ex.mapDictKeys _) (Obj.data_mapDictKeys rfl _) λb u e=>((lVk ..).2 b (lJp (lJi e))).trans (up b u e)⟩))
  .rename_i he
   have h0:es= #[]:=Array.isEmpty_iff.mp (by simpa using he)
   subst h0;exact lJd (lJa (lJd (lJd ⟨rfl,k _ _ _ hn ex rfl up⟩)))
 .rename_i he
  have h0:es= #[]:=by
   obtain⟨l⟩:=es;cases l with
   | nil=>rfl
   | cons e l=>
    obtain⟨_,b,h2,_⟩:=hall e (by simp)
    simp[h2,keyPart] at he
  subst h0;refine lJa (wpAny_dictEpoch ho' hx ?_);refine lJa (lVf ho' hx ?_);refine lJa ?_
  (rw[Std.Legacy.Range.forIn_eq_forIn_range'])
  refine (show wpAny _ _ (forIn ([]:List Nat) PUnit.unit _) _ _ _ from ?_)
  rw[List.forIn_nil];exact lJd (lJd (lJa (lJd (lJd ⟨rfl,k _ _ _ hn ⟨rfl,rfl,rfl⟩ rfl up⟩))))
end
def hf(r d:Nat):Int:=reduceHash (Builtin.Tuple.tupleHashOf [hashInt r,hashInt d])
def hfs:List Int:=(List.range 24).flatMap λr=>(List.range 12).map (hf r)
theorem qUb:hfs.Nodup:=by decide +kernel
theorem kZn{f:Nat->Nat->Int}{m:Nat}:∀{n:Nat},((List.range n).flatMap λr=>(List.range m).map (f r)).Nodup->∀{r d r' d':Nat},r<n->d<m->r'<n->d'<m->f r d=f r' d'->r=r'/\d=d'
 | 0,_,_,_,_,_,hr,_,_,_,_=>absurd hr (lK4 _)
 | n+1,h,r,d,r',d',hr,hd,hr',hd',e=>by
  rw[lKn,lV7,lQa] at h;obtain⟨h1,h2,h3⟩:=h;have mem:∀{r d:Nat},r<n->d<m->f r d∈(List.range n).flatMap λr=>(List.range m).map (f r):=λ{r d} hr hd=>lQx.mpr ⟨r,lJ3.mpr hr,lJy.mpr ⟨d,lJ3.mpr hd,rfl⟩⟩
  have mem2:∀{d:Nat},d<m->f n d∈([n]:List Nat).flatMap λr=>(List.range m).map (f r):=λ{d} hd=>lQx.mpr ⟨n,lJ5.mpr rfl,lJy.mpr ⟨d,lJ3.mpr hd,rfl⟩⟩
  rcases lKd r n with a | a
  .rcases lKd r' n with b | b
   .exact kZn h1 a hd b hd' e
   .have:r'=n:=by omega
    subst this;exact absurd e (h3 _ (mem a hd) _ (mem2 hd'))
  .have:r=n:=by omega
   subst this
   rcases lKd r' r with b | b
   .exact absurd e.symm (h3 _ (mem b hd') _ (mem2 hd))
   .have:r'=r:=by omega
    subst this;refine⟨rfl,?_⟩;rw[List.flatMap_singleton,List.Nodup,List.pairwise_map] at h2
    rcases lYu d d' with q | q | q
    .exact absurd e (lYv.mp h2 d d' (by simpa using hd) (by simpa using hd') q|>λz=>by simpa using z)
    .exact q
    .exact absurd e.symm (lYv.mp h2 d' d (by simpa using hd') (by simpa using hd) q|>λz=>by simpa using z)
def kV9(k:TKey):Prop:=∃r d:Nat,r<24/\d<12/\k=[.inl (.inl (r:Int)),.inl (.inl (d:Int))]
theorem qKq{prog:Program}{w:World}{k k':TKey}(h:kV9 k)(h':kV9 k')(e:(jKn prog w).hash k=(jKn prog w).hash k'):k=k':=by
 obtain⟨r,d,hr,hd,rfl⟩:=h;obtain⟨r',d',hr',hd',rfl⟩:=h';obtain⟨rfl,rfl⟩:=kZn qUb hr hd hr' hd' (show hf r d=hf r' d' from e)
 rfl
theorem kZa{α:Type}{f:α->Int}{g:α->DictEntry}(hg:∀a,(g a).hash=f a):∀{xs:List α},(∀a,a∈xs->∀b,b∈xs->f a=f b->a=b)->xs.Nodup->∀a,a∈xs->((xs.map g).filter λe=>e.hash == (g a).hash).length<=1
 | [],_,_,a,ha=>absurd ha lJ2
 | x::xs,hi,hn,a,ha=>by
  rw[lKk] at hn;rw[lJv,lK5]
  have none:∀y,y∉xs->y∈x::xs->((xs.map g).filter λe=>e.hash == (g y).hash)=[]:=λy hy hm=>by
   rw[List.filter_eq_nil_iff];intro e he z;obtain⟨b,hb,rfl⟩:=lJy.mp he;have z:(g b).hash=(g y).hash:=by simpa using z
   rw[hg,hg] at z;exact hy (hi b (lJ8 _ hb) y hm z▸hb)
  by_cases e:x=a
  .subst e;rw[lJc (by simp),none x hn.1 (lKg ..)]
   simp
  .have hax:a∈xs:=(lJk.mp ha).resolve_left λz=>e z.symm
   have ne:¬ ((g x).hash == (g a).hash)=true:=λz=>by
    have z:(g x).hash=(g a).hash:=by simpa using z
    rw[hg,hg] at z;exact e (hi x (lKg ..) a ha z)
   rw[lJb ne];exact kZa hg (λa ha b hb=>hi a (lJ8 _ ha) b (lJ8 _ hb)) hn.2 a hax
section
variable {X:Cx}
noncomputable def qQb:List T->Gp->VK3->Prop:=λxs G Q=>∃(p:Addr)(kvs:List (TKey×T)),xs=[.ref p]/\G p=some (.dct kvs)/\(∀e,e∈kvs->kV9 e.1)/\∀q,G q=none->Q (.ref q) (gup G q (.dct kvs))
theorem uKn:Call3 X (.type "dict") qQb:=by
 rintro pins s τ G H xs us Q ⟨σ,I,hs,hg⟩ ⟨as,ras,rvs⟩ ⟨pa,kvs,ex,hp,hk,q⟩;subst ex;obtain⟨v,rfl,rv⟩:=jU7 ras;obtain⟨u,rfl,ru⟩:=rvs.one;cases (show v= .ref pa from rv);cases ru
 obtain⟨ws,h1,h2⟩:=(show ∃ws,H pa=some (.dT ws)/\PKV X.K H kvs ws from hg pa _ hp)
 obtain⟨z,hd,xs,rel,o,es,ep,ho,hc,hx,he,hn⟩:=(show ObjOk X.prog X.w H s.heap pa (.dT ws) from I.hok pa _ h1)
 have l1:es.size=xs.length:=by have a1:=lJx List.length he;simpa using a1
 have l2:=lQq rel
 have small:∀x,x∈xs->kV9 x.1/\TKeyAt H x.1 x.2.1:=λx hx=>by
  obtain⟨i,hi⟩:=lJ4 hx;have hiw:i<ws.length:=by have:=(lJe.mp hi).1;omega
  obtain⟨y,k1,k2,k3,_⟩:=jY1 rel (lJh hiw);rw[hi] at k1;cases k1;have hik:i<kvs.length:=by have:=h2.length;omega
  obtain⟨w',m1,m2,_⟩:=jY1 h2 (lJh hik);rw[lJh hiw] at m1;cases m1;rw[<-k2,<-m2];exact⟨hk _ (lV8 hik),by rw[m2];exact k3⟩
 have xn:xs.Nodup:=List.Pairwise.of_map _ (λa b hab=>λz=>hab (by rw[z])) hn
 have xi:∀a,a∈xs->∀b,b∈xs->(jKn X.prog X.w).hash a.1=(jKn X.prog X.w).hash b.1->a=b:=λa ha b hb e=>by
  have ek:=qKq (small a ha).1 (small b hb).1 e;obtain⟨i,hi⟩:=lJ4 ha
  (obtain⟨j,hj⟩:=lJ4 hb)
  have hil:=(lJe.mp hi).1;have:=(lVn (by simpa using hil) hn).mp (show (xs.map (·.1))[i]? =(xs.map (·.1))[j]? by rw[lJr,lJr,hi,hj];simp[ek])
  subst this;rw[hi] at hj;exact lJn hj
 refine qJz hd ho hc hx (by omega) (λe hee=> ?_) λh' o' ep' hn' hc' hx' kp=> ?_
 .rw[he] at hee;obtain⟨x,hxm,rfl⟩:=lJy.mp hee;obtain⟨vs,r1,r2⟩:=(small x hxm).2;refine⟨?_,x.2.1,rfl,?_⟩
  .have:=kZa (g:=entryOfKey (jKn X.prog X.w)) (λa=>rfl) xi xn x hxm
   rw[<-he] at this
   have e2:(es.filter λe'=>e'.hash == (entryOfKey (jKn X.prog X.w) x).hash).size=(es.toList.filter λe'=>e'.hash == (entryOfKey (jKn X.prog X.w) x).hash).length:=by
    rw[<-lVg,Array.toList_filter]
   rw[e2];exact this
  .obtain⟨_,its,_,ot,hot,hct,_⟩:=(show ObjOk X.prog X.w H s.heap x.2.1 (.tup vs) from I.hok _ _ r1)
   exact⟨ot,hot,hct⟩
 have fr:=I.hok.fresh (lJg s.heap.objs.size);have ext:Ext H (upd H s.heap.objs.size (.dT ws)):= .upd (.none fr);have big:=I.big;have I3:=I.laid (a:=s.heap.objs.size) (o:= .dT ws) (h':=h') (t':=s.toks) kp (lJg _) ⟨z,by simpa using (lQr big),xs,Paired.mapP rel λp q z=>⟨z.1,z.2.1.mono λb ys e=>ext.tup _ _ e,z.2.2⟩,o',es,ep',hn',hc',hx',he,hn⟩
 exact⟨.ref _,_,_,ext,⟨σ,I3,hs.mono ext,hg.upd (.none fr) (go:= .dct kvs) ⟨ws,jJy,h2.mono ext⟩⟩,⟨.ref _,rfl,rfl⟩,q _ (hg.fresh fr)⟩
end
end L3
namespace L3
open PySem PySem.Spec PyProof.Rows L2
theorem kVs(y:Array Nat):∀(n:Nat)(z:Array Nat),((List.replicate n y).foldl (· ++ ·) z).size=z.size+n*y.size
 | 0,z=>by simp
 | n+1,z=>by rw[lK8,List.foldl_cons,kVs y n,Array.size_append];rw[Nat.add_mul];omega
section
variable {X:Cx}
def rIxS:R3:=λx y G Q=>∃(z:Str)(i:Nat)(c:Nat),x= .str z/\y= .int i/\i<1000/\z.cps[i]? =some c/\Q (.str ⟨#[c]⟩) G
theorem ix_S:Ix3 X rIxS:=by
 rintro value slice pins s τ G H x y v u Q ⟨σ,I,hs,hg⟩ ⟨a,ra,rv⟩ ⟨b,rb,ru⟩ ⟨z,i,c,ex,ey,hi,hc,q⟩ hsl;subst ex;subst ey;cases (show a= .str z from ra)
 cases (show b= .int (i:Nat) from rb)
 obtain⟨t,rfl⟩:=rv;obtain⟨t',rfl⟩:=ru;have hT:s.TypeIs (.str z t) "str":=typeIs_str s z t;have hlt:i<z.cps.size:=(Array.getElem?_eq_some_iff.mp hc).1;unfold subscriptTail;refine lJa ?_;rw[getitemInPython_of_ne hT.not_modules];refine lJa (lQo hT PySem.F.slot_str_getitem.lookup ?_)
 have fin:wpAny (model X.prog X.w) X.A (subscripted slice false (.str z t) (.int (i:Nat) t')) (λr s₃=>wpAny (model X.prog X.w) X.A (letTemporaryGo value (.str z t) r >>= λ_=>pure r) (EP3 X pins τ H Q) X.xe s₃) X.xe s:=by
  rw[hsl];refine wpAny_operating (PyProof.Rows.getItem_str (c:=c) ?_ ?_ ?_)
  .rw[Bool.or_eq_false_iff];exact⟨lJo (by omega),lJo (by omega)⟩
  .have:seqIndex? (i:Int) z.length=some i:=by
    unfold seqIndex?;have h0:¬ ((i:Int)<0):=by omega
    simp[Str.length,hlt,h0]
   rw[this];exact hc
  .exact lJa (wpAny_letTemporaryGo (lJd ⟨.str ⟨#[c]⟩,G,H,.refl H,⟨σ,I.tok _,hs,hg⟩,⟨.str _,rfl,⟨_,rfl⟩⟩,q⟩))
 first
  | exact lJd (lJa fin)
  | exact lJa (lJd (lJa fin))
def qKm(x:Str)(n:Nat):Str:=if n=1 then x else ⟨(List.replicate n x.cps).foldl (· ++ ·) #[]⟩
def qZ6:R3:=λx y G Q=>∃(z:Str)(n:Nat),x= .str z/\y= .int n/\1<=n/\n<=100/\z.length=1/\Q (.str (qKm z n)) G
theorem uQ3:Op3 X (binaryOp .Mult) qZ6:=by
 rintro pins s τ G H x y v u Q ⟨σ,I,hs,hg⟩ ⟨a,ra,rv⟩ ⟨b,rb,ru⟩ ⟨z,n,ex,ey,h1,h2,hz,q⟩;subst ex;subst ey;cases (show a= .str z from ra)
 cases (show b= .int (n:Nat) from rb)
 obtain⟨t,rfl⟩:=rv;obtain⟨t',rfl⟩:=ru;have hn1:¬ ((n:Int)<1):=by omega
 have big:(100:Nat)<=sizeLine:=by rw[lQf];decide
 refine PySem.P.mul_str ?_ (λ_ _=> ?_) (λ_ _=> ?_) ?_
 .rw[Bool.or_eq_false_iff];exact⟨lJo (by omega),lJo (by omega)⟩
 .rw[hz];have:(1:Int)<=(2^63-1) / (n:Int):=(Int.le_ediv_iff_mul_le (by omega)).mpr (by omega)
  omega
 .rw[hz,Builtin.Str.tooLong];simp;omega
 .rw[lJb hn1];unfold qKm at q
  by_cases e:n=1
  .subst e;rw[lJc rfl] at q;rw[lJc (by rfl)]
   exact⟨.str z,G,H,.refl H,⟨σ,I,hs,hg⟩,⟨.str _,rfl,⟨_,rfl⟩⟩,q⟩
  .rw[lJb e] at q;rw[lJb (by rw[hz];simp;omega)]
   rw[lYr];refine⟨?_,.str ⟨(List.replicate n z.cps).foldl (· ++ ·) #[]⟩,G,H,.refl H,⟨σ,I.tok _,hs,hg⟩,⟨.str _,rfl,⟨_,rfl⟩⟩,q⟩
   have hz':z.cps.size=1:=hz;show ((List.replicate n z.cps).foldl (· ++ ·) #[]).size<=sizeLine
   rw[kVs,hz'];simp;omega
end
end L3
namespace L3
open PySem PySem.Spec PyProof.Rows L2 PySem.W
theorem qJ7:typeLookup (.type "zip") "__len__"=pure none:=by rw[lYb,lYc];kernel_rfl
theorem kZ6:typeLookup (.type "zip") "__length_hint__"=pure none:=by rw[lYb,lYc];kernel_rfl
structure ZSt (h:Heap) (z TI TO i1 i2 l1 l2:Addr) (xs ys:Array Value) (i:Nat):Prop where
 zip:(IsZip h z TI TO .none/\∃a b,IsPair h TO a b)\/∃T bb o,ZipM h z TI TO T bb/\h.get? T=some o/\o.cls= .type "tuple"
 TI_:IsPair h TI (.ref i1) (.ref i2)
 it1:h.IsListIter i1 l1 i
 it2:h.IsListIter i2 l2 i
 li1:h.IsList l1 xs
 li2:h.IsList l2 ys
section
variable {prog:Program}{w:World}{A:Around}{E:Value->Shared->Prop}{s:Shared}{z TI TO i1 i2 l1 l2 S:Addr}{xs ys:Array Value}{i:Nat}{h h':Heap}
theorem ZSt.ty(a:ZSt s.heap z TI TO i1 i2 l1 l2 xs ys i):s.TypeIs (.ref z) "zip":=by
 rcases a.zip with ⟨e,_⟩ | ⟨T,bb,o,e,_⟩
 .exact⟨_,e,rfl⟩
 .exact⟨_,e,rfl⟩
theorem ZSt.moved{c:Nat}{acc:Array Value}(D:ZipApart z TI TO i1 i2 l1 l2)(a:ZSt h z TI TO i1 i2 l1 l2 xs ys i)(hS:h.get? S=some {cls:= .type "list",dict:=none,data:= .seq acc c,slots:= #[]})(sl1:S≠l1)(sl2:S≠l2)
  (kp:∀b o,b≠S->h.get? b=some o->h'.get? b=some o):ZSt h' z TI TO i1 i2 l1 l2 xs ys i:=by
 have ne:∀{b:Addr}{o:Obj},h.get? b=some o->o.cls≠ .type "list"->b≠S:=λe c q=>by subst q;rw[hS] at e;cases e;exact c rfl
 have nz:¬ (Value.type "zip"=Value.type "list"):=by decide
 have nt:¬ (Value.type "tuple"=Value.type "list"):=by decide
 obtain⟨q,a1,a2,a3,a4,a5⟩:=a;refine⟨?_,kp _ _ (ne a1 nt) a1,?_,?_,a4.at λo e=>kp _ o sl1.symm e,a5.at λo e=>kp _ o sl2.symm e⟩
 .rcases q with ⟨e,a,b,f⟩ | ⟨T,bb,o,e,f,g⟩
  .exact .inl ⟨kp _ _ (ne e nz) e,a,b,kp _ _ (ne f nt) f⟩
  .exact .inr ⟨T,bb,o,kp _ _ (ne e nz) e,kp _ _ (ne f (by rw[g];decide)) f,g⟩
 .obtain⟨o,e,c,d⟩:=a2;exact⟨o,kp _ _ (ne e (by rw[c];decide)) e,c,d⟩
 .obtain⟨o,e,c,d⟩:=a3;exact⟨o,kp _ _ (ne e (by rw[c];decide)) e,c,d⟩
theorem qVd{x y:Value}{Q:Option Value->Shared->Prop}(D:ZipApart z TI TO i1 i2 l1 l2)(a:ZSt s.heap z TI TO i1 i2 l1 l2 xs ys i)(hx:xs[i]? =some x)(hy:ys[i]? =some y)
  (hQ:∀h',ZSt h' z TI TO i1 i2 l1 l2 xs ys (i+1)->IsPair h' s.heap.objs.size x y->(∀c o,c≠z->c≠TO->c≠i1->c≠i2->s.heap.get? c=some o->h'.get? c=some o)->Q (some (.ref s.heap.objs.size)) {s with heap:=h'}):wpAny (model prog w) A (pyNext (.ref z)) Q E s:=by
 obtain⟨q,a1,a2,a3,a4,a5⟩:=a
 rcases q with ⟨e,a,b,f⟩ | ⟨T,bb,o,e,f,g⟩
 .refine wpAny_pyNext_zip_item D e a1 f a2 a3 a4 a5 hx hy λh' c1 c2 c3 c4 c5 _ kp=>hQ h' ⟨.inr ⟨_,_,_,c1,c5,rfl⟩,kp _ _ D.TIz D.TITO D.TIi1 D.TIi2 a1,c3,c4,a4.at λo e=>kp _ o D.l1z D.l1TO D.l1i1 D.l1i2 e,a5.at λo e=>kp _ o D.l2z D.l2TO D.l2i1 D.l2i2 e⟩ c5 kp
 .have t1:T≠z:=by rintro rfl;rw[show s.heap.get? T=_ from e] at f;cases f;exact absurd (show Value.type "zip"=Value.type "tuple" from g) (by decide)
  have t2:T≠i1:=by rintro rfl;obtain⟨q,e,c,_⟩:=a2;rw[f] at e;cases e;rw[g] at c;exact absurd c (by decide)
  have t3:T≠i2:=by rintro rfl;obtain⟨q,e,c,_⟩:=a3;rw[f] at e;cases e;rw[g] at c;exact absurd c (by decide)
  exact jZi D e f a1 a2 a3 a4 a5 hx hy λh' c1 c2 c3 c5 kp=>hQ h' ⟨.inr ⟨T,_,o,c1,kp _ _ t1 t2 t3 f,g⟩,kp _ _ D.TIz D.TIi1 D.TIi2 a1,c2,c3,a4.at λo e=>kp _ o D.l1z D.l1i1 D.l1i2 e,a5.at λo e=>kp _ o D.l2z D.l2i1 D.l2i2 e⟩ c5 λc o n1 _ n2 n3 e=>kp c o n1 n2 n3 e
theorem qZh{Q:Option Value->Shared->Prop}(hh:A.handled=none)(D:ZipApart z TI TO i1 i2 l1 l2)(a:ZSt s.heap z TI TO i1 i2 l1 l2 xs ys i)(hx:xs[i]? =none)(hQ:∀h',(∀c o,c≠z->c≠TO->c≠i1->c≠i2->s.heap.get? c=some o->h'.get? c=some o)->Q none {s with heap:=h'}):wpAny (model prog w) A (pyNext (.ref z)) Q E s:=by
 obtain⟨q,a1,a2,a3,a4,a5⟩:=a
 rcases q with ⟨e,a,b,f⟩ | ⟨T,bb,o,e,f,g⟩
 .exact wpAny_pyNext_zip_end hh D e a1 f a2 a3 a4 a5 (.inl hx) λh' kp=>hQ h' kp
 .exact kJl hh D e f a1 a2 a4 hx λh' kp=>hQ h' λc o n1 _ n2 _ e=>kp c o n1 n2 e
end
theorem Vals.get'{xs:List V}{us:List Value}(h:Vals xs us){i:Nat}{u:Value}(e:us[i]? =some u):∃x,xs[i]? =some x/\RelV x u:=by
 have hi:i<xs.length:=by have:=h.length;have:=(lJe.mp e).1;omega
 obtain⟨u',e',r⟩:=L2.Vals.get h (lJh hi);rw[e] at e';cases e';exact⟨_,lJh hi,r⟩
def uKw(H:Hp)(vs ws:List V)(acc:Array Value)(i:Nat):Prop:=acc.size=i/\∀j v u,j<i->vs[j]? =some v->ws[j]? =some u->∃p,acc[j]? =some (.ref p)/\H p=some (.tup [v,u])
theorem qZn{X:Cx}{pins:List (Addr×Obj)}{σ:L2.St}{G:Gp}{A:Around}{R:Result->Shared->Prop}{z TI TO i1 i2 l1 l2 S:Addr}{xs ys:List Value}{vs ws:List V}{res:Value}(hh:A.handled=none)(D:ZipApart z TI TO i1 i2 l1 l2)(sl1:S≠l1)(sl2:S≠l2)
  (sz:S≠z) (sTO:S≠TO) (s1:S≠i1) (s2:S≠i2) (rx:Vals vs xs) (ry:Vals ws ys) (hl:xs.length=ys.length) (hs:xs.length<=sizeLine) {b0:Nat} (hb0:∀b∈[z,TO,i1,i2,S],b<b0):
  ∀(k i:Nat)(s:Shared)(H:Hp)(acc:Array Value)(c:Nat),xs.length-i=k->i<=xs.length->b0<=s.heap.objs.size->L2.Inv X pins σ H s->GRel X.K H G->(∀b∈[z,TO,i1,i2,S],FpOk X pins H b)->ZSt s.heap z TI TO i1 i2 l1 l2 xs.toArray ys.toArray i->
   s.heap.get? S=some {cls:= .type "list",dict:=none,data:= .seq acc c,slots:= #[]}->uKw H vs ws acc i->
   (∀s' H' acc' c',Ext H H'->L2.Inv X pins σ H' s'->GRel X.K H' G->s'.heap.get? S=some {cls:= .type "list",dict:=none,data:= .seq acc' c',slots:= #[]}->uKw H' vs ws acc' xs.length->R (.ok (.ret res)) s')->
   codeAny (model X.prog X.w) A (.builtin "list.extend.loop" ⟨[.ref S,.ref z,res],[]⟩) R s:=by
 intro k
 induction k with
 | zero=>
  intro i s H acc c hk hi hb I hg hf a hS ha hR
  (have hin:i=xs.length:=by omega)
  subst hin
  (refine lQz PySem.F.entry_extend_loop ?_)
  (rw[lQw lXv _])
  refine (show wpAny _ A.in1 (pyNext (.ref z) >>= _) _ _ s from ?_)
  refine lJa (qZh (A:=A.in1) (by simpa using hh) D a (by simp) λh' kp=>lJd ?_)
  have I':L2.Inv X pins σ H {s with heap:=h',toks:=s.toks}:=jZ4 (fp:=[z,TO,i1,i2,S]) I (λb o hb e=>by
   simp only[lJk,lJ2,lKs,not_or] at hb;exact kp b o hb.1 hb.2.1 hb.2.2.1 hb.2.2.2.1 e) hf
  exact hR _ H acc c (.refl H) I' hg (kp _ _ sz sTO s1 s2 hS) ha
 | succ k ih=>
  intro i s H acc c hk hi hb I hg hf a hS ha hR
  (have hlt:i<xs.length:=by omega)
  obtain⟨v,hv,rv⟩:=Vals.get' rx (lJh hlt);obtain⟨u,hu,ru⟩:=Vals.get' ry (lJh (show i<ys.length by omega))
  (refine lQz PySem.F.entry_extend_loop ?_)
  (rw[lQw lXv _])
  refine (show wpAny _ A.in1 (pyNext (.ref z) >>= _) _ _ s from ?_)
  refine lJa (qVd (A:=A.in1) D a (by simp[hlt];rfl) (by simp[show i<ys.length by omega];rfl) λh' a' hp kp=> ?_)
  have fr:H s.heap.objs.size=none:=I.hok.fresh (lJg _)
  have I1:=jZ3 (t':=s.toks) (h':=h') (p:=s.heap.objs.size) (vs:=[v,u]) (us:=[xs[i],ys[i]'(by omega)]) (fp:=[z,TO,i1,i2,S]) I (λb o hb e=>by
   simp only[lJk,lJ2,lKs,not_or] at hb;exact kp b o hb.1 hb.2.1 hb.2.2.1 hb.2.2.2.1 e) hf (lJg _) ⟨_,hp,rfl,_,rfl,rfl⟩ (.cons rv (.cons ru .nil)) (by show 2<=sizeLine;decide)
  have ext:Ext H (upd H s.heap.objs.size (.tup [v,u])):= .upd (.none fr);have hS':=kp _ _ sz sTO s1 s2 hS;have hpS:s.heap.objs.size≠S:=lQr (lJi hS);have hlt':∀b∈[z,TO,i1,i2,S],b≠s.heap.objs.size:=λb hb'=>lJp (lJw (hb0 b hb') hb)
  have hf':∀b∈[z,TO,i1,i2,S],FpOk X pins (upd H s.heap.objs.size (.tup [v,u])) b:=λb hb=>by
   obtain⟨q,r⟩:=hf b hb;exact⟨by rw[jJt (hlt' b hb)];exact q,r⟩
  refine (show wpAny _ A.in1 (updateSeq S (·.push (.ref s.heap.objs.size)) >>= _) _ _ _ from ?_)
  refine lJa ?_;have kp2:∀b o,b≠S->h'.get? b=some o->(h'.update S (Obj.mapSeq (·.push (Value.ref s.heap.objs.size)))).get? b=some o:=λb o hb e=>(lQ2 _ _ (Ne.symm hb)).trans e
  refine lY9 (s:={s with heap:=h'}) hS' rfl (lJd ⟨lVe lXv _,ih (i+1) _ _ (acc.push (.ref s.heap.objs.size)) _ (by omega) hlt (lVw (Nat.lt_of_le_of_lt hb (lJi (kp2 _ _ hpS hp))))
   (jZ4 (t':=s.toks) (fp:=[z,TO,i1,i2,S]) I1 (λb o hb e=>kp2 b o (λq=>hb (by simp[q])) e) hf') (hg.tupNew fr) hf' (a'.moved D hS' sl1 sl2 kp2) (lK2 _ hS' rfl) ?_ λs'' H'' acc' c' ex I'' g'' hS'' ha'=> ?_⟩) (by rw[ha.1];omega) (by show (acc.push _).size<=sizeLine+1;rw[Array.size_push,ha.1];omega)
  .refine⟨by rw[Array.size_push,ha.1],λj v' u' hj h1 h2=> ?_⟩
   rw[Array.getElem?_push]
   by_cases e:j=i
   .subst e;rw[hv] at h1;rw[hu] at h2;cases h1;cases h2;rw[lJc ha.1.symm];exact⟨_,rfl,jJy⟩
   .rw[lJb (by rw[ha.1];exact e)]
    obtain⟨p,q1,q2⟩:=ha.2 j v' u' (by omega) h1 h2
    exact⟨p,q1,ext.tup _ _ q2⟩
  .exact hR s'' H'' acc' c' (ext.trans ex) I'' g'' hS'' ha'
theorem qVh{h:Heap}{a:Addr}{f g:Obj->Obj}:∀b o,b≠a->h.get? b=some o->((h.update a f).update a g).get? b=some o:=λb o n q=>by
 rw[lQ2 _ _ n.symm,lQ2 _ _ n.symm];exact q
theorem qVj{prog:Program}{w:World}{A:Around}{E:Value->Shared->Prop}{s:Shared}{S:Addr}{c:Nat}{Q:Unit->Shared->Prop}(hS:s.heap.get? S=some {cls:= .type "list",dict:=none,data:= .seq #[] c,slots:= #[]})
  (k:∀h' c',h'.get? S=some {cls:= .type "list",dict:=none,data:= .seq #[] c',slots:= #[]}->(∀b o,b≠S->s.heap.get? b=some o->h'.get? b=some o)->Q () {s with heap:=h'}):wpAny (model prog w) A (Builtin.List.listTouch (.ref S)) Q E s:=
 lJa (lY9 hS rfl (lY9 (lK2 _ hS rfl) rfl (k _ _ (lK2 _ (lK2 _ hS rfl) rfl) qVh)))
theorem kYk{X:Cx}{pins:List (Addr×Obj)}{σ:L2.St}{G:Gp}{H:Hp}{s:Shared}{A:Around}{E:Value->Shared->Prop}{z TI TO i1 i2 l1 l2:Addr}{xs ys:List Value}{vs ws:List V}{Q:List Value->Shared->Prop}(hh:A.handled=none)(D:ZipApart z TI TO i1 i2 l1 l2)
  (rx:Vals vs xs) (ry:Vals ws ys) (hl:xs.length=ys.length) (hs:xs.length<=sizeLine) (hlt:∀b∈[z,TO,i1,i2,l1,l2],b<s.heap.objs.size) (I:L2.Inv X pins σ H s) (hg:GRel X.K H G) (hf:∀b∈[z,TO,i1,i2],FpOk X pins H b) (a:ZSt s.heap z TI TO i1 i2 l1 l2 xs.toArray ys.toArray 0) (hz:IsZip s.heap z TI TO .none)
  (hQ:∀s' H' acc,Ext H H'->L2.Inv X pins σ H' s'->GRel X.K H' G->uKw H' vs ws acc xs.length->Q acc.toList s'):wpAny (model X.prog X.w) A (collect (.ref z)) Q E s:=by
 have nS:∀b∈[z,TO,i1,i2,l1,l2],s.heap.objs.size≠b:=λb hb=>lQr (hlt b hb)
 unfold collect;refine lJa (wpAny_runValue (lQz PySem.F.entry_proto_collect ?_))
 (rw[lQw PySem.F.plain_proto_collect _])
 refine (show wpAny _ A.in1 (newList [] >>= λl=>again (.builtin "list.__iadd__" ⟨[l,.ref z],[]⟩)) _ _ s from lJa (lK1 (lJd ⟨lVe PySem.F.plain_list_iadd _,lQz PySem.F.entry_list_iadd ?_⟩)))
 (rw[lQw PySem.F.plain_list_iadd _])
 have hS:(s.heap.push {cls:= .type "list",data:= .seq ([]:List Value).toArray}).get? s.heap.objs.size=some {cls:= .type "list",data:= .seq ([]:List Value).toArray}:=lJ1 _ rfl;have up:∀b o,s.heap.get? b=some o->(s.heap.push {cls:= .type "list",data:= .seq ([]:List Value).toArray}).get? b=some o:=λb o e=>lJj _ e
 have a1:ZSt (s.heap.push {cls:= .type "list",data:= .seq ([]:List Value).toArray}) z TI TO i1 i2 l1 l2 xs.toArray ys.toArray 0:=by
  obtain⟨q,a1,a2,a3,a4,a5⟩:=a;refine⟨?_,up _ _ a1,a2.at λo e=>up _ o e,a3.at λo e=>up _ o e,a4.at λo e=>up _ o e,a5.at λo e=>up _ o e⟩
  rcases q with ⟨e,a,b,f⟩ | ⟨T,bb,o,e,f,g⟩
  .exact .inl ⟨up _ _ e,a,b,up _ _ f⟩
  .exact .inr ⟨T,bb,o,up _ _ e,up _ _ f,g⟩
 have I1:L2.Inv X pins σ H {s with heap:=s.heap.push {cls:= .type "list",data:= .seq ([]:List Value).toArray} }:=I.kept (t':=s.toks) up
 have tz:Shared.TypeIs {s with heap:=s.heap.push {cls:= .type "list",data:= .seq ([]:List Value).toArray} } (.ref z) "zip":=ZSt.ty (s:={s with heap:=s.heap.push {cls:= .type "list",data:= .seq ([]:List Value).toArray} }) a1
 refine (show wpAny _ A.in1 (Builtin.List.listExtendWith (.ref s.heap.objs.size) (.ref z) (.ref s.heap.objs.size)) _ _ _ from ?_)
 (unfold Builtin.List.listExtendWith)
 refine lJa (lQp tz ?_);have h1:Builtin.List.listSameRef (.ref s.heap.objs.size) (.ref z)=false:=by simp[Builtin.List.listSameRef,nS z (by simp)]
 have h2:(Value.type "zip" == Value.type "list")=false:=by decide
 have h3:(Value.type "zip" == Value.type "tuple")=false:=by decide
 (simp only[h1,h2,h3,Bool.or_false,lKp,lJt])
 refine lJa (wpAny_pyIter_zip (s:={s with heap:=s.heap.push {cls:= .type "list",data:= .seq ([]:List Value).toArray} }) (up _ _ hz) ?_)
 (refine lJa (lKo ?_))
 (unfold Builtin.List.listLengthHint)
 refine lJa (lQo tz qJ7 ?_);refine (show wpAny _ A.in1 (specialOf (Value.ref z) (Str.ofString "__length_hint__") >>= _) _ _ _ from ?_)
 refine lJa (lQo tz kZ6 ?_);refine lJd ?_
 refine (show wpAny _ A.in1 (rule "list.extend.makes-room" >>= λ_=>Builtin.List.listTouch (.ref s.heap.objs.size) >>= λ_=>
  again (.builtin "list.extend.loop" ⟨[.ref s.heap.objs.size,.ref z,.ref s.heap.objs.size],[]⟩)) _ _ _ from ?_)
 refine lJa (lVc ?_);refine lJa (qVj hS λh9 c9 hS₃ oth=> ?_)
 have hf':∀b∈[z,TO,i1,i2,s.heap.objs.size],FpOk X pins H b:=λb hb=>by
  by_cases e:b=s.heap.objs.size
  .subst e;exact I.fpOk (lJg _) (I.hok.fresh (lJg _))
  .simp only[lJk,lJ2,lKs] at hb
   rcases hb with h | h | h | h | h
   .exact hf b (by simp[h])
   .exact hf b (by simp[h])
   .exact hf b (by simp[h])
   .exact hf b (by simp[h])
   .exact absurd h e
 have I9:=jZ4 (h':=h9) (t':=s.toks) (fp:=[z,TO,i1,i2,s.heap.objs.size]) I1 (λb o hb e=>oth b o (λq=>hb (by simp[q])) e) hf'
 refine lJd ⟨lVe lXv _,qZn (X:=X) (pins:=pins) (σ:=σ) (G:=G) (A:=A) (S:=s.heap.objs.size) (b0:=s.heap.objs.size+1) hh D (nS l1 (by simp)) (nS l2 (by simp)) (nS z (by simp)) (nS TO (by simp)) (nS i1 (by simp)) (nS i2 (by simp)) rx ry hl hs (λb hb=> ?_) xs.length 0 _ H _ _ rfl (lJ0 _) (lJi hS₃) I9 hg hf'
  (a1.moved D hS (nS l1 (by simp)) (nS l2 (by simp)) oth) hS₃ ⟨rfl,λj v u hj=>absurd hj (lK4 _)⟩ λs' H' acc' c' ex I' g' hS' ha=> ?_⟩
 .simp only[lJk,lJ2,lKs] at hb
  rcases hb with h | h | h | h | h
  .rw[h];exact lXw (hlt z (by simp))
  .rw[h];exact lXw (hlt TO (by simp))
  .rw[h];exact lXw (hlt i1 (by simp))
  .rw[h];exact lXw (hlt i2 (by simp))
  .rw[h];exact lXh _
 .refine (show wpAny _ A (load s.heap.objs.size >>= _) _ _ s' from ?_)
  exact lJa (wpAny_load hS' (lJd (hQ s' H' acc' ex I' g' ha)))
theorem kZ3{H:Hp}:∀{vs ws:List V}{acc:List Value},vs.length=ws.length->acc.length=vs.length->(∀(j:Nat)(v u:V),vs[j]? =some v->ws[j]? =some u->∃p,acc[j]? =some (.ref p)/\H p=some (.tup [v,u]))->
  ∃ps:List Addr,acc=ps.map Value.ref/\Paired (λ(q:V×V) p=>H p=some (.tup [q.1,q.2])) (vs.zip ws) ps
 | [],[],[],_,_,_=>⟨[],rfl,.nil⟩
 | v::vs,u::ws,a::acc,h1,h2,h=>by
  obtain⟨p,e,q⟩:=h 0 v u rfl rfl;cases e;obtain⟨ps,e1,e2⟩:=kZ3 (H:=H) (vs:=vs) (ws:=ws) (acc:=acc) (by simpa using h1) (by simpa using h2) λj v u a b=>by simpa using h (j+1) v u a b
  exact⟨p::ps,by rw[e1];rfl,.cons q e2⟩
theorem kYy{K:PySem.W.Frag}{H:Hp}:∀{xs ys:List T}{vs ws:List V}{ps:List Addr},Reps K H xs vs->Reps K H ys ws->vs.length=ws.length->Paired (λ(q:V×V) p=>H p=some (.tup [q.1,q.2])) (vs.zip ws) ps->Reps K H (zipT xs ys) (ps.map V.ref)
 | [],_,_,_,ps,r1,r2,hl,h=>by
  cases (show _=[] from r1)
  cases h;rfl
 | x::xs,[],_,_,ps,⟨v,vs',e,_,_⟩,r2,hl,h=>by subst e;cases (show _=[] from r2);simp at hl
 | x::xs,y::ys,_,_,ps,⟨v,vs',e,r,rs⟩,⟨u,ws',e',r',rs'⟩,hl,h=>by
  subst e;subst e';cases h with
  | cons q t=>exact⟨.ref _,_,rfl,⟨_,_,rfl,q,v,_,rfl,r,u,_,rfl,r',rfl⟩,kYy rs rs' (by simpa using hl) t⟩
theorem qKb:∀(ps:List Addr),Vals (ps.map V.ref) (ps.map Value.ref)
 | []=> .nil
 | p::ps=> .cons rfl (qKb ps)
section
variable {X:Cx}
def qZq(ta:TA3):TE3:=λτ G Q=>ta τ G λvs G1=>∃(x y:T)(xs ys:List T),vs=[x,y]/\jU2 G1 x=some xs/\jU2 G1 y=some ys/\xs.length=ys.length/\Q (.tup (zipT xs ys)) G1
theorem uUs{pos pos' p p':Pos}{a b:Expr}{ta:TA3}(hc:X.calm=true)(hl:Gl X "tuple")(hlm:X.mg "tuple"=none)(hg:Gl X "zip")(hm:X.mg "zip"=none)(hv:bootBuiltins "zip"=some (.type "zip"))(ha:PA3 X [a,b] ta)(hs:starEach [a,b] X.env=[(false,eval a X.env),(false,eval b X.env)]:=by rfl)(hs2:starEach [b] X.env=[(false,eval b X.env)]:=by rfl)
  (hs':starEach [Expr.Call (.Name "zip" p) [a,b] [] pos] X.env=[(false,eval (.Call (.Name "zip" p) [a,b] [] pos) X.env)]:=by rfl):
  PE3 X (.Call (.Name "tuple" p') [.Call (.Name "zip" p) [a,b] [] pos] [] pos') (qZq ta):=by
 intro pins s τ G H Q I h;obtain⟨σ0,I0,_,_⟩:=id I;refine Call_ (jU9 I0 hl hlm rfl (lKy ?_ hs' rfl));rw[hs'];refine Calls.spliced_cons (Call_ (jU9 I0 hg hm hv (lKy (thn (ha pos pins s τ G H _ I h) λus s1 w_=>w_.el λxs' G1 H1 e1 i_ r_ q1=>i_.el λσ I1 hs1 hg1=>r_.el λas ras rvs=> ?_) (by rw[hs,hs2]) (by rw[hs2];rfl))))
 obtain⟨x,y,xs,ys,e,hx,hy,hle,q⟩:=q1;subst e;obtain⟨v,w,rfl,rv,rw'⟩:=kQ0 ras;obtain⟨u,u',rfl,ru,ru'⟩:=rvs.two;obtain⟨pa,vs,rfl,hq1,r1⟩:=jVu hg1 rv hx;obtain⟨pb,ws,rfl,hq2,r2⟩:=jVu hg1 rw' hy;cases ru;cases ru';obtain⟨its1,rv1,p1,hz1⟩:=I1.list hq1;obtain⟨its2,rv2,p2,hz2⟩:=I1.list hq2;have l1:=r1.length;have l2:=r2.length;have l3:=rv1.length;have l4:=rv2.length;have hal:pa<s1.heap.objs.size:=by obtain⟨o,ho,_⟩:=p1.isList;exact lJi ho
 have hbl:pb<s1.heap.objs.size:=by obtain⟨o,ho,_⟩:=p2.isList;exact lJi ho
 refine call_zip_2 p1.isList p2.isList λg hz hTI hTO hi1 hi2 hsz hk=> ?_
 have D:ZipApart (s1.heap.objs.size+4) (s1.heap.objs.size+2) (s1.heap.objs.size+3) s1.heap.objs.size (s1.heap.objs.size+1) pa pb:=uKx hal hbl;have I2:L2.Inv X pins σ H1 {s1 with heap:=g}:=I1.kept (t':=s1.toks) hk
 refine Calls.spliced_nil ?_;have hZ:ZSt g (s1.heap.objs.size+4) (s1.heap.objs.size+2) (s1.heap.objs.size+3) s1.heap.objs.size (s1.heap.objs.size+1) pa pb its1.toArray its2.toArray 0:=⟨.inl ⟨hz,_,_,hTO⟩,hTI,hi1,hi2,p1.isList.at λo e=>hk _ o e,p2.isList.at λo e=>hk _ o e⟩
 have hTz:Shared.TypeIs {s1 with heap:=g} (.ref (s1.heap.objs.size+4)) "zip":=⟨_,hz,rfl⟩
 refine callType_codes (Q₁:=λobj z=>z.TypeIs obj "tuple"/\EP3 X pins τ H Q obj z) lVm (F.typeCall_tuple_1 _) F.entry_object_init (lY7 ?_) λobj z hz=>⟨hz.1,lYt obj _,object_init_meets lVm.init.lookup lVm.made (by decide) X.prog X.w X.A.in1 _ z ⟨hz.1,rfl,hz.2⟩⟩
 refine (show wpAny _ X.A.in1.in1 (do checkBuiltinCall "tuple.__new__" ⟨[.type "tuple",.ref (s1.heap.objs.size+4)],[]⟩;again (.builtin "tuple.__new__" ⟨[.type "tuple",.ref (s1.heap.objs.size+4)],[]⟩)) _ _ _ from lJa (wpAny_of_eq (F.newCall_tuple_1 _) (lJd ⟨lVe lXt _,lQz F.entry_tuple_new ?_⟩)))
 rw[lQw lXt _];have h1:=sub_tuple_self;have h2:=init_tuple_lookup;have h3:=madeHere_tuple
 have hlt:∀b∈[s1.heap.objs.size+4,s1.heap.objs.size+3,s1.heap.objs.size,s1.heap.objs.size+1,pa,pb],b<({s1 with heap:=g}:Shared).heap.objs.size:=λb hb=>by
  (simp only[lJk,lJ2,lKs] at hb)
  show b<g.objs.size
  rw[hsz]
  rcases hb with h | h | h | h | h | h
  .rw[h];omega
  .rw[h];omega
  .rw[h];omega
  .rw[h];omega
  .rw[h];exact Nat.lt_add_right 5 hal
  .rw[h];exact Nat.lt_add_right 5 hbl
 have hff:∀b∈[s1.heap.objs.size+4,s1.heap.objs.size+3,s1.heap.objs.size,s1.heap.objs.size+1],FpOk X pins H1 b:=λb hb=>by
  (simp only[lJk,lJ2,lKs] at hb)
  have hle:s1.heap.objs.size<=b:=by omega
  exact I1.fpOk hle (I1.hok.fresh hle)
 wp_walk using wpAny_typeOf hTz,kYk (A:=X.A.in1.in1) (I1.ok.hd hc) D rv1 rv2 (by omega) (by omega) hlt I2 hg1 hff hZ hz
 intro s' H' acc ex I' g' ha;refine (show wpAny _ _ (Builtin.Tuple.tupleExact acc.toList.toArray >>= λx=>ret x) _ _ _ from ?_)
 unfold Builtin.Tuple.tupleExact;refine lJa (lK1 (lJd ?_) (by show acc.toList.toArray.size<=sizeLine;simp only[Array.toArray_toList];rw[ha.1];omega))
 obtain⟨ps,ea,pr⟩:=kZ3 (H:=H') (vs:=vs) (ws:=ws) (acc:=acc.toList) (by omega) (by rw[lVg,ha.1];omega) λj v u a b=>by
  obtain⟨p,q1,q2⟩:=ha.2 j v u (by have:=(lJe.mp a).1;omega) a b
  exact⟨p,by rw[Array.getElem?_toList];exact q1,q2⟩
 have pl:ps.length=vs.length:=by have:=lJx List.length ea;rw[lVg,ha.1,lJf] at this;omega
 have fr:H' s'.heap.objs.size=none:=I'.hok.fresh (lJg _);have ext:Ext H' (upd H' s'.heap.objs.size (.tup (ps.map V.ref))):= .upd (.none fr);have I3:=I'.laid (a:=s'.heap.objs.size) (o:= .tup (ps.map V.ref)) (h':=s'.heap.push {cls:= .type "tuple",data:= .seq acc.toList.toArray}) (t':=s'.toks) (λb o e=>lJj _ e) (lJg _) ⟨by rw[lJf];omega,ps.map Value.ref,qKb ps,by rw[ea];exact TupD.new _ _⟩
 refine⟨⟨_,lJ1 _ rfl,rfl⟩,.tup (zipT xs ys),G1,_,(e1.trans ex).trans ext,⟨σ,I3,(hs1.mono ex).mono ext,g'.tupNew fr⟩,⟨.ref s'.heap.objs.size,Rep.tupNew (kYy (Reps.mono ex _ r1) (Reps.mono ex _ r2) (by omega) pr) fr,rfl⟩,q⟩
end
end L3
namespace L3
open PySem PySem.Spec PyProof.Rows L2
section
variable {X:Cx}
end
section
variable {X:Cx}
noncomputable def qQa:T->List T->Gp->VK3->Prop:=λx as G Q=>∃p q xs ys,x= .ref p/\as=[.ref q]/\G p=some (.lst xs)/\G q=some (.lst ys)/\xs.length+ys.length<=sizeLine/\Q .non (gup G p (.lst (xs++ys)))
theorem qXp:Mt3 X "list.extend" qQa:=by
 rintro pins s τ G H x as v us Q ⟨σ,I,hs,hg⟩ ⟨a,ra,rv⟩ ⟨bs,rbs,rus⟩ ⟨p,q,xs,ys,ex,ea,hp,hq,hz,k⟩;subst ex;subst ea;cases (show a= .ref p from ra);cases rv
 obtain⟨b1,rfl,r1⟩:=jU7 rbs;cases (show b1= .ref q from r1)
 obtain⟨u1,rfl,ru1⟩:=rus.one;cases ru1;obtain⟨vs,h1,h2⟩:=hg.lst hp;obtain⟨ws,h3,h4⟩:=hg.lst hq;obtain⟨z,its,n,r,hl,e⟩:=I.lstM h1;obtain⟨z',its',n',r',hl',e'⟩:=I.lstM h3;have hlen:=h2.length;have hlen':=h4.length;have q1:=r.length;have q2:=r'.length
 have hc:¬(!its.toArray.isEmpty&&Builtin.List.listTooLong (its.toArray.size+its'.toArray.size))=true:=by
  have:Builtin.List.listTooLong (its.toArray.size+its'.toArray.size)=false:=by
   unfold Builtin.List.listTooLong
   (rw[lJq,lJq])
   exact lJo (by omega)
  rw[this,Bool.and_false];exact lJl
 refine lQ9 F.slot_list_extend ⟨_,e,rfl⟩ F.entry_list_extend (F.args_list_extend_2 _ _) (AutoSeq1.list_extend_list_list_0 p its.toArray n q its'.toArray n' hc (by rw[lJq];omega) (by rw[lJq,lJq];omega)) ⟨e,e',?_⟩
 have e2:Ext H (upd H p (.lst (vs++ws))):= .upd (.lst h1);refine⟨.non,_,_,e2,⟨σ,I.lset (its':=its++its') h1 e ?_ (r.append r') ?_,hs.mono e2,hg.lstNew (xs:=xs++ys) (h2.append h4) (.lst h1)⟩,⟨.non,rfl,rfl⟩,k⟩
 .simp
 .rw[lJ9];omega
end
section
variable {X:Cx}
end
section
variable {X:Cx}
end
section
variable {A:Around}{E:Value->Shared->Prop}{s:Shared}{M:Model}
end
section
variable {X:Cx}{scope:Scope}{cl:List (Str×Addr)}{mask:List Bool}
end
section
variable {X:Cx}{scope:Scope}{cl:List (Str×Addr)}{mask:List Bool}{elt iter tg:Expr}{ifs:List Expr}{pos:Pos}{wi:TI3}{g:TG3}{tif:TT3}{te:TE3}
end
section
variable {X:Cx}
end
theorem jZc{K β:Type}[DecidableEq K]{k:K}{p:β}:∀{xs:List (K×β)}{j:Nat},(xs.map (·.1)).Nodup->xs[j]? =some (k,p)->xs.eraseIdx j=xs.filter λx=>decide (x.1≠k)
 | [],_,_,h=>by simp at h
 | x::xs,0,hn,h=>by
  simp at h;subst h;rw[lJv,(lKk)] at hn;rw[List.eraseIdx_cons_zero,lK5,lJb (by simp)]
  refine (List.filter_eq_self.mpr λy hy=> ?_).symm
  simp only[lX9];exact λe=>hn.1 (e▸lJy.mpr ⟨y,hy,rfl⟩)
 | x::xs,j+1,hn,h=>by
  rw[lJv,(lKk)] at hn;have h':xs[j]? =some (k,p):=by simpa using h
  have ne:x.1≠k:=λe=>hn.1 (e▸lJy.mpr ⟨(k,p),lJm h',rfl⟩)
  rw[lYw,lK5,lJc (by simpa using ne),jZc hn.2 h']
theorem kVf{α β:Type}(f:α->β):∀(xs:List α)(j:Nat),(xs.map f).eraseIdx j=(xs.eraseIdx j).map f
 | [],_=>rfl
 | _::_,0=>rfl
 | x::xs,j+1=>by rw[lJv,lYw,lYw,lJv,kVf f xs j]
section
variable {prog:Program}{w:World}{A:Around}{E:Value->Shared->Prop}{s:Shared}
theorem jY8{K:Type}[DecidableEq K]{knd:HeapKind prog w K}{d a:Addr}{xs:List (K×Addr×Value)}{k:K}{Q:Option DictEntry->Shared->Prop}(hu:knd.room A)(hkey:knd.is s.heap k a)(hm:s.heap.DictOfH knd d xs)(hsz:xs.length<=sizeLine)
  (hnone:atKey xs k=none->Q none {s with toks:=s.toks+knd.draws k})
  (hsome:∀p h' (e:DictEntry),atKey xs k=some p->e.val=p.2->h'.DictOfH knd d (xs.filter λx=>decide (x.1≠k))->Heap.SameBut d s.heap h'->Q (some e) {s with heap:=h',toks:=s.toks+knd.draws k}):
  wpAny (model prog w) A (Builtin.Dict.takeOut d (.ref a)) Q E s:=by
 (obtain⟨o,es,ep,ho,hc,hd,he,his,hn⟩:=hm)
 unfold Builtin.Dict.takeOut;refine lKo (lJa (knd.pyHash hu hkey (lJa (wpAny_dictFind_heap (s:={s with toks:=s.toks+knd.draws k}) hu hkey ho hd he his hn (λhno=> ?_) λj p hj=> ?_))))
 .exact lJd (hnone (atKey_none_of_get hno))
 .refine lJa (lVf (s:={s with toks:=s.toks+knd.draws k}) ho hd ?_)
  rw[entry_at he j,hj];have ef:=jZc hn hj;refine lJa (wpAny_updateDictKeys (hz:=by rw[size_of_entries he];exact hsz) (s:={s with toks:=s.toks+knd.draws k}) ho hd (lJd (hsome p _ _ (atKey_of_get hn hj) rfl ⟨_,_,ep+1,lK2 _ ho (Obj.isFreed_of_dict (Obj.data_mapDictKeys hd _)),hc.mapDictKeys _,Obj.data_mapDictKeys hd _,?_,λx hx=> ?_,?_⟩ (lVk ..))))
  .rw[<-ef];obtain⟨l⟩:=es;simp only at he;simp only[he,List.eraseIdxIfInBounds_toArray];exact kVf _ xs j
  .exact knd.keeps (his x (lQi.mp hx).1) ho hd (lVk ..)
  .exact hn.sublist (List.Sublist.map _ lYx)
theorem kY6{K:Type}[DecidableEq K]{knd:HeapKind prog w K}{d a:Addr}{xs:List (K×Addr×Value)}{k:K}{rest:List Value}{R:PySem.Fin->Shared->Prop}(hu:knd.room A)(hkey:knd.is s.heap k a)(hm:s.heap.DictOfH knd d xs)(hsz:xs.length<=sizeLine)(hd:(d == sysModules)=false)
  (hr:(rest=[]/\atKey xs k≠none)\/∃x,rest=[x])
  (hnone:∀x tk,rest=[x]->atKey xs k=none->R (.done (.ret x)) {s with toks:=tk})
  (hsome:∀p h' tk,atKey xs k=some p->h'.DictOfH knd d (xs.filter λx=>decide (x.1≠k))->Heap.SameBut d s.heap h'->R (.done (.ret p.2)) {s with heap:=h',toks:=tk}):
  wpAny (model prog w) A (Builtin.«dict.pop» ⟨.ref d:: .ref a::rest,[]⟩) R E s:=by
 obtain⟨o,es,ep,ho,hc,hdd,he,his,hn⟩:=id hm
 have em:es.isEmpty=decide (xs=[]):=by
  have:=size_of_entries he;cases xs with
  | nil=>simp at this;simp[this]
  | cons x xs=>simp at this;simp[Array.isEmpty,this]
 have none_of:xs=[]->atKey xs k=none:=λz=>by rw[z];rfl
 unfold Builtin.«dict.pop»;refine lJa ?_
 (unfold Builtin.Dict.keyAndDefault)
 (refine lJa (lYe hm.typeIs ?_))
 rcases hr with ⟨rfl,hr⟩ | ⟨x,rfl⟩
 .refine (show wpAny _ _ (pure (d,Value.ref a,none)) _ _ s from lJd ?_)
  have hne:¬ xs=[]:=λz=>hr (none_of z)
  refine lJa (lVf ho hdd (lJa (lJd ?_)));rw[em,lJo hne]
  dsimp only
  rw[lJb (by decide)]
  refine lJa (jY8 hu hkey hm hsz (λz=>absurd z hr) λp h' e hp hv hm' hs'=> ?_)
  rw[lJb (by simp)]
  exact lJa (wpAny_letGo (lJd (hv▸hsome p h' _ hp hm' hs')))
 .refine (show wpAny _ _ (pure (d,Value.ref a,some x)) _ _ s from lJd ?_)
  refine lJa (lVf ho hdd (lJa (lJd ?_)));rw[em]
  dsimp only
  by_cases hne:xs=[]
  .rw[lJc (by simpa using hne)]
   refine lJa (lVc (lJa (lJd ?_)));rw[lJc (by rfl)]
   exact lJa (wpAny_missedRemoval_other hd (lJa (lVc (lJd (hnone x s.toks rfl (none_of hne))))))
  .rw[lJb (by simpa using hne)]
   refine lJa (jY8 hu hkey hm hsz (λz=> ?_) λp h' e hp hv hm' hs'=> ?_)
   .rw[lJc (by rfl)]
    exact lJa (wpAny_missedRemoval_other hd (lJa (lVc (lJd (hnone x _ rfl z)))))
   .rw[lJb (by simp)]
    exact lJa (wpAny_letGo (lJd (hv▸hsome p h' _ hp hm' hs')))
end
theorem Paired.filt{α β κ:Type}[DecidableEq κ]{R:α->β->Prop}{f:α->κ}{g:β->κ}(k:κ)(hk:∀a b,R a b->f a=g b){xs:List α}{ys:List β}(h:Paired R xs ys):Paired R (xs.filter λx=>decide (f x≠k)) (ys.filter λy=>decide (g y≠k)):=by
 induction h with
 | nil=>exact .nil
 | @cons a b as bs r t ih=>
  rw[lK5,lK5,hk a b r]
  by_cases e:g b≠k
  .rw[lJc (by simpa using e),lJc (by simpa using e)];exact .cons r ih
  .rw[lJb (by simpa using e),lJb (by simpa using e)];exact ih
def kUl{κ:Type}[DecidableEq κ](kvs:List (κ×T))(k:κ):List (κ×T):=kvs.filter λe=>decide (e.1≠k)
section
variable {X:Cx}
noncomputable def qV4:T->List T->Gp->VK3->Prop:=λx as G Q=>∃p kvs ys ks,x= .ref p/\G p=some (.dct kvs)/\jVy ys=some ks/\((as=[.tup ys]/\∃v,valT kvs ks=some v/\Q v (gup G p (.dct (kUl kvs ks))))\/
 ∃z,as=[.tup ys,z]/\(∀v,valT kvs ks=some v->Q v (gup G p (.dct (kUl kvs ks))))/\(valT kvs ks=none->Q z G))
theorem qZa(hu:X.A.units+20<cLine):Mt3 X "dict.pop" qV4:=by
 rintro pins s τ G H x as v us Q ⟨σ,I,hs,hg⟩ ⟨a,ra,rv⟩ ⟨bs,rbs,rus⟩ ⟨p,kvs,ys,ks,ex,hG,hk,hor⟩;subst ex;cases (show a= .ref p from ra);cases rv
 obtain⟨ws,h1,h2⟩:=(show ∃ws,H p=some (.dT ws)/\PKV X.K H kvs ws from hg p _ hG)
 obtain⟨z0,hd,xs,rel,dd⟩:=uUz I.hok h1;have hl:xs.length<=sizeLine:=by rw[<-lQq rel];exact z0
 have ro:=rel.val ks;obtain⟨g1,g2⟩:=h2.val ks
 have some_:∀pp,atKey xs ks=some pp->∃t wv,valT kvs ks=some t/\Rep X.K H t wv/\RelV wv pp.2:=λpp hp=>by
  rw[hp] at ro;cases ev:valV ws ks with
  | none=>rw[ev] at ro;exact (show False from ro).elim
  | some wv=>
   rw[ev] at ro g2;obtain⟨t,ht⟩:=lYl.mp (g2.trans rfl);obtain⟨wv',e',rt⟩:=g1 t ht;rw[ev] at e';cases e';exact⟨t,wv,ht,rt,ro⟩
 have none_:atKey xs ks=none->valT kvs ks=none:=λhn=>by
  rw[hn] at ro;cases et:valT kvs ks with
  | none=>rfl
  | some t=>
   obtain⟨wv,e',_⟩:=g1 t et;rw[e'] at ro;exact (show False from ro).elim
 have fin:∀(pp:Addr×Value)(h':Heap)(tk:Nat)(t:T)(wv:V),valT kvs ks=some t->Rep X.K H t wv->RelV wv pp.2->h'.DictOfH (jKn X.prog X.w) p (xs.filter λx=>decide (x.1≠ks))->Heap.SameBut p s.heap h'->Q t (gup G p (.dct (kUl kvs ks)))->EP3 X pins τ H Q pp.2 {s with heap:=h',toks:=tk}:=by
  intro pp h' tk t wv ht rt rw' dd' hsb q;obtain⟨qo,es,ep,hq,k2,k3,k4,_,k5⟩:=dd';have hl':(ws.filter λx=>decide (x.1≠ks)).length<=sizeLine:=lKb (lVo _ _) z0
  have rel':KT H (ws.filter λx=>decide (x.1≠ks)) (xs.filter λx=>decide (x.1≠ks)):=Paired.filt ks (λa b r=>r.1) rel
  have h2':PKV X.K H (kUl kvs ks) (ws.filter λx=>decide (x.1≠ks)):=Paired.filt ks (λa b r=>r.1) h2
  have I':=kUn (t':=tk) I (by rw[h1];exact True.intro) hsb ⟨qo,hq⟩ (ob:= .dT (ws.filter λx=>decide (x.1≠ks))) ⟨hl',hd,_,rel'.keeps (λb' ys' ec=>by rw[jJt (uUa ec h1 (λz=>nomatch z))];exact ec),qo,es,ep,hq,k2,k3,k4,k5⟩
  have e:Ext H (upd H p (.dT (ws.filter λx=>decide (x.1≠ks)))):= .upd (.dT h1)
  exact⟨t,_,_,e,⟨σ,I',hs.mono e,hg.upd (.dT h1) (go:= .dct (kUl kvs ks)) ⟨_,jJy,PKV.mono e h2'⟩⟩,⟨wv,Rep.mono e _ rt,rw'⟩,q⟩
 rcases hor with ⟨ea,v,hv,q⟩ | ⟨zz,ea,q1,q2⟩
 .subst ea;obtain⟨b,rfl,rb⟩:=jU7 rbs;obtain⟨u1,rfl,ru1⟩:=rus.one;obtain⟨q',vs,e,h3,h4⟩:=(show ∃q vs,b= .ref q/\H q=some (.tup vs)/\Reps X.K H ys vs from rb)
  subst e;cases (show u1=Value.ref q' from ru1)
  have eb:=jVa hk h3 h4;have hne:atKey xs ks≠none:=λz=>by rw[none_ z] at hv;cases hv
  refine lQy lXx dd.typeIs PySem.F.entry_dict_pop (kY6 (knd:=jKn X.prog X.w) (jJ0 hu) (jYq I.hok eb) dd hl hd (.inl ⟨rfl,hne⟩) (λx tk e=>by cases e) λpp h' tk hp dd' hsb=> ?_) (PySem.F.args_dict_pop_2 _ _)
  obtain⟨t,wv,ht,rt,rr⟩:=some_ pp hp;rw[hv] at ht;cases ht;exact⟨_,rfl,fin pp h' tk v wv hv rt rr dd' hsb q⟩
 .subst ea;obtain⟨b,bz,rfl,rb,rz⟩:=kQ0 rbs;obtain⟨u1,uz,rfl,ru1,ruz⟩:=rus.two;obtain⟨q',vs,e,h3,h4⟩:=(show ∃q vs,b= .ref q/\H q=some (.tup vs)/\Reps X.K H ys vs from rb)
  subst e;cases (show u1=Value.ref q' from ru1)
  have eb:=jVa hk h3 h4;refine lQy lXx dd.typeIs PySem.F.entry_dict_pop (kY6 (knd:=jKn X.prog X.w) (jJ0 hu) (jYq I.hok eb) dd hl hd (.inr ⟨uz,rfl⟩) (λx tk e hn=> ?_) λpp h' tk hp dd' hsb=> ?_) (PySem.F.args_dict_pop_3 _ _ _)
  .cases e;exact⟨_,rfl,zz,G,H,.refl H,⟨σ,I.tok _,hs,hg⟩,⟨bz,rz,ruz⟩,q2 (none_ hn)⟩
  .obtain⟨t,wv,ht,rt,rr⟩:=some_ pp hp;exact⟨_,rfl,fin pp h' tk t wv ht rt rr dd' hsb (q1 t ht)⟩
end
section
variable {X:Cx}
end
section
variable {X:Cx}
end
end L3
namespace L3
open PySem PySem.Spec PyProof.Rows L2 PySem.W
section
variable {A:Around}{E:Value->Shared->Prop}{s:Shared}{env:Env}{M:Model}
variable {C N:Addr}{bs bm:List Value}{hdct:Bool}{sn:List Str}{sub:List Value}{ab:Bool}{col:Option Bool}{dd:Option Addr}{k0 k1 k2 k3 k5:Option Value}{newId:String}{nm q:Str}
theorem qJg{x:Sem Value}{Q:Flow->Shared->Prop}(hbase:bm.contains (.type "BaseException")=true)(hh:A.handled=none)
  (h:wpAny M A x (λv s₁=>∃e t dx,v= .ref e/\s₁.heap.get? C=some (excClassObj nm q C N bs bm hdct sn sub ab col dd k0 k1 k2 k3 k5 newId)/\
   s₁.heap.get? e=some {cls:= .ref C,dict:=dx,data:= .fields #[.ref t,.none,.none,.none,.bool false,.none]}/\E (.ref e) s₁) E s):wpAny M A (raiseStmt env (some x) none) Q E s:=by
 (have hcB:(Value.ref C::bm).contains (.type "BaseException")=true:=by rw[List.contains_cons,hbase,Bool.or_true])
 unfold raiseStmt
 (refine lJa (lJ6 h (λv s₁ h₁=> ?_) λ_ _ x=>x))
 obtain⟨e,t,dx,rfl,hC,he,hE⟩:=h₁
 (obtain⟨hp,g,d,tk,os⟩:=s₁)
 (repeat (first | with_reducible refine lXf he ?_ | with_reducible refine lXf hC ?_ | (with_reducible refine wpAny_isSubtype_exc hC ?_;rw[hcB]) | wp_step))
 (exact wpAny_raiseNew_none hh hE)
end
section
variable {w:World}{A:Around}{E:Value->Shared->Prop}{h:Heap}{g:Array GenState}{d:Drawn}{t:Nat}{os:OsState}{prog:Program}
variable {C N:Addr}{bs bm bmB:List Value}{hdct:Bool}{sn:List Str}{sub:List Value}{ab:Bool}{col:Option Bool}{dd:Option Addr}{k0 k1 k2 k3 k5:Option Value}{B Bn newId nid initId inN:String}{bmN:List Value}{nm q:Str}
theorem kKj(Fn:ExcBaseFacts Bn newId inN bmN)(hBn:bmB.contains (.type Bn)=true)(F:ExcBaseFacts B nid initId bmB)(T:OwnTail h bmB bm){mN:Str->Option Value}{rest:List Value}{fI:Addr}{oI:Obj}{Q:PySem.Fin->Shared->Prop}
  (hC:h.get? C=some (excClassObj nm q C N bs bm hdct sn sub ab col dd k0 k1 k2 k3 k5 newId)) (hn:h.Ns N mN) (hi:mN "__init__"=some (.ref fI))
  (hfI:h.get? fI=some oI) (hfc:oI.cls= .type "function")
  (hq:∀h' e,Heap.MadeExcOf h h' e (.ref C) rest->
   wpAny (model prog w) A (call (.ref fI) (.ref e::rest)) (λr s'=>r= .none/\Q (.done (.ret (.ref e))) s') E ⟨h',g,d,t,os⟩) (hrest:rest.length<=sizeLine):wpAny (model prog w) A (Builtin.«type.__call__» ⟨.ref C::rest,[]⟩) Q E ⟨h,g,d,t,os⟩:=by
 (repeat (first | with_reducible refine lXf hC ?_ | with_reducible refine wpAny_madeBy_exc hC ?_ | wp_step))
 (refine codeAny_call_builtin_code (Code.quiet_builtin _ Fn.quiet) (wpAny_check_new_subU Fn hBn T hC ?_))
 (refine codeAny_exc_new_subU Fn hBn F T hC ?_ hrest)
 show wpAny _ _ _ _ _ _
 have up:∀b o,h.get? b=some o->((h.push {cls:= .type "tuple",data:= .seq rest.toArray}).push {cls:= .ref C,data:= .fields #[.ref h.objs.size,.none,.none,.none,.bool false,.none]}).get? b=some o:=
  λb o e=>(lJj _ (lJj _ e))
 have hget:((h.push {cls:= .type "tuple",data:= .seq rest.toArray}).push {cls:= .ref C,data:= .fields #[.ref h.objs.size,.none,.none,.none,.bool false,.none]}).get? (h.objs.size+1)=some {cls:= .ref C,data:= .fields #[.ref h.objs.size,.none,.none,.none,.bool false,.none]}:=by heap_get
 have tget:((h.push {cls:= .type "tuple",data:= .seq rest.toArray}).push {cls:= .ref C,data:= .fields #[.ref h.objs.size,.none,.none,.none,.bool false,.none]}).get? h.objs.size=some {cls:= .type "tuple",data:= .seq rest.toArray}:=
  lJj _ (Heap.get?_push_at (rfl) rfl)
 have made:=λ(x:Heap)(u:∀b o,h.get? b=some o->x.get? b=some o)(a:x.get? (h.objs.size+1)=some {cls:= .ref C,data:= .fields #[.ref h.objs.size,.none,.none,.none,.bool false,.none]})(b:x.get? h.objs.size=some {cls:= .type "tuple",data:= .seq rest.toArray})=>
  (⟨u,lYh (lXi _),h.objs.size,a,lYh (lJg _),b⟩:Heap.MadeExcOf h x (h.objs.size+1) (.ref C) rest)
 generalize (h.push {cls:= .type "tuple",data:= .seq rest.toArray}).push {cls:= .ref C,data:= .fields #[.ref h.objs.size,.none,.none,.none,.bool false,.none]}=h1 at up hget tget made ⊢
 have hC₁:=up _ _ hC;have hn₁:h1.Ns N mN:=let ⟨o,es,ep,e,r⟩:=hn;⟨o,es,ep,up _ _ e,r⟩
 (have hcC:(Value.ref C::bm).contains (.ref C)=true:=by simp)
 have T₁:=T.keeps (h':=h1) up;unfold isInstance
 (repeat (first | with_reducible refine lXf hget ?_ | (with_reducible refine wpAny_isSubtype_exc hC₁ ?_;rw[hcC]) | wp_step))
 show wpAny _ _ (typeLookup (Value.ref C) _) _ _ _
 (refine wpAny_typeLookup_tail hC₁ hn₁ T₁ F.mroIs F.init.lookup ?_)
 rw[hi]
 (refine lKo (lJa ?_))
 unfold bindSpecial;refine lJa (lQp (T:="function") ⟨_,up _ _ hfI,hfc⟩ ?_);rw[lJc (by decide)]
 refine lJd (lJa (lJ6 (hq _ (h.objs.size+1) (made h1 up hget tget)) (λr s' hr=> ?_) λ_ _ x=>x))
 obtain⟨rfl,hQ⟩:=hr
 wp_walk
 exact hQ
theorem qU3(Fn:ExcBaseFacts Bn newId inN bmN)(hBn:bmB.contains (.type Bn)=true)(F:ExcBaseFacts B nid initId bmB)(T:OwnTail h bmB bm){mN:Str->Option Value}{rest:List Value}{fI:Addr}{oI:Obj}{Q:Value->Shared->Prop}
  (hC:h.get? C=some (excClassObj nm q C N bs bm hdct sn sub ab col dd k0 k1 k2 k3 k5 newId)) (hn:h.Ns N mN) (hi:mN "__init__"=some (.ref fI))
  (hfI:h.get? fI=some oI) (hfc:oI.cls= .type "function")
  (hq:∀h' e,Heap.MadeExcOf h h' e (.ref C) rest->
   wpAny (model prog w) (A.under (.builtin "type.__call__" ⟨.ref C::rest,[]⟩)) (call (.ref fI) (.ref e::rest)) (λr s'=>r= .none/\Q (.ref e) s') E ⟨h',g,d,t,os⟩) (hrest:rest.length<=sizeLine):wpAny (model prog w) A (call (.ref C) rest) Q E ⟨h,g,d,t,os⟩:=by
 have f1:=tc_lookup;have f2:=tc_bind (.ref C)
 (have hT:(⟨h,g,d,t,os⟩:Shared).TypeIs (.ref C) "type":=⟨_,hC,rfl⟩)
 (refine lQ8 (lY7 ?_))
 show wpAny _ _ (callAny (Value.ref C) _) _ _ _
 (repeat (any_goals (first | assumption | with_reducible refine lXf hC ?_ | wp_step)))
 refine⟨rfl,?_⟩;exact codeAny_call_builtin_at (Code.quiet_builtin _ (by decide +kernel)) entry_typeCall (wpAny_check_type_call_sub hC (kKj Fn hBn F T hC hn hi hfI hfc hq hrest))
end
section
variable {w:World}{A:Around}{E:Value->Shared->Prop}{h:Heap}{g:Array GenState}{d:Drawn}{t:Nat}{os:OsState}{prog:Program}
variable {nm q:Str}{C N:Addr}{bs bm bmB:List Value}{hdct:Bool}{sn:List Str}{sub:List Value}{ab:Bool}{col:Option Bool}{dd:Option Addr}{k0 k1 k2 k3 k5:Option Value}{B nid initId newId:String}
theorem qYn(F:ExcBaseFacts B nid initId bmB)(T:OwnTail h bmB bm){e t0:Addr}{dx:Option Addr}{rest:List Value}{Q:Value->Shared->Prop}
  (hC:h.get? C=some (excClassObj nm q C N bs bm hdct sn sub ab col dd k0 k1 k2 k3 k5 newId)) (he:h.get? e=some (exOb C t0 dx)) (hrest:rest.length<=sizeLine)
  (hq:∀h' t',(∀b o,b≠e->h.get? b=some o->h'.get? b=some o)->h'.get? e=some (exOb C t' dx)->Q .none ⟨h',g,d,t,os⟩):
  wpAny (model prog w) A (call (.builtin initId) (.ref e::rest)) Q E ⟨h,g,d,t,os⟩:=by
 refine lQ8 (lZa F.init.plain F.initEntry (wpAny_check_init_subU F T hC he rfl ?_))
 wp_walk
 refine hq _ h.objs.size (λb o hb hb2=> ?_) ?_
 .rw[lQ2 _ _ (Ne.symm hb)];exact lJj _ hb2
 .rw[lK2 _ (lJj _ he) rfl];rfl
end
open Builtin.ObjectAttr Builtin
def qXd:List Value->Bool
 | .ref _::r=>qXd r
 | l=>l == vmro
theorem kY1(self:Value):∀{l:List Value},qXd l=true->refuseLoop self "__setattr__" l=pure ()
 | .ref c::r,e=>by rw[refuseLoop_ref];exact kY1 self e
 | [],e=>by cases e
 | .none::_,e=>by rw[eq_of_beq (show (_ == vmro)=true from e)];exact lQb.passes self
 | .bool _::_,e=>by rw[eq_of_beq (show (_ == vmro)=true from e)];exact lQb.passes self
 | .int _ _::_,e=>by rw[eq_of_beq (show (_ == vmro)=true from e)];exact lQb.passes self
 | .str _ _::_,e=>by rw[eq_of_beq (show (_ == vmro)=true from e)];exact lQb.passes self
 | .type n::_,e=>by rw[eq_of_beq (show (_ == vmro)=true from e)];exact lQb.passes self
 | .builtin n::_,e=>by rw[eq_of_beq (show (_ == vmro)=true from e)];exact lQb.passes self
 | .bytes _ _::_,e=>by rw[eq_of_beq (show (_ == vmro)=true from e)];exact lQb.passes self
 | .float _ _::_,e=>by rw[eq_of_beq (show (_ == vmro)=true from e)];exact lQb.passes self
 | .notImplemented::_,e=>by rw[eq_of_beq (show (_ == vmro)=true from e)];exact lQb.passes self
 | .ellipsis::_,e=>by rw[eq_of_beq (show (_ == vmro)=true from e)];exact lQb.passes self
theorem uU5:∀{l:List Value},qXd l=true->l.contains (.type "object")=true
 | .ref c::r,e=>by rw[List.contains_cons,uU5 (l:=r) e,Bool.or_true]
 | [],e=>by cases e
 | .none::_,e=>by rw[eq_of_beq (show (_ == vmro)=true from e)];decide
 | .bool _::_,e=>by rw[eq_of_beq (show (_ == vmro)=true from e)];decide
 | .int _ _::_,e=>by rw[eq_of_beq (show (_ == vmro)=true from e)];decide
 | .str _ _::_,e=>by rw[eq_of_beq (show (_ == vmro)=true from e)];decide
 | .type n::_,e=>by rw[eq_of_beq (show (_ == vmro)=true from e)];decide
 | .builtin n::_,e=>by rw[eq_of_beq (show (_ == vmro)=true from e)];decide
 | .bytes _ _::_,e=>by rw[eq_of_beq (show (_ == vmro)=true from e)];decide
 | .float _ _::_,e=>by rw[eq_of_beq (show (_ == vmro)=true from e)];decide
 | .notImplemented::_,e=>by rw[eq_of_beq (show (_ == vmro)=true from e)];decide
 | .ellipsis::_,e=>by rw[eq_of_beq (show (_ == vmro)=true from e)];decide
def kY7(K:PySem.W.Frag)(C:Addr):Bool:=(clsIn K C).any λcd=>qXd cd.mro&&cd.hasDict
section
variable {prog:Program}{w:World}{A:Around}{s:Shared}{K:PySem.W.Frag}{x C:Addr}{R:Result->Shared->Prop}
theorem qXc{ox:Obj}{name:Str}{tk:Tok}{v:Value}(X:K.In s.heap)(I:InstAt s.heap x ox C none)(hd:ox.dict=none){fs:Array Value}(hf:ox.data= .fields fs)(hp:kY7 K C=true)(ht:takerIn K C name=some none)
  (h:∀h' tk' dx,s.heap.objs.size<=dx->h'.get? x=some {ox with dict:=some dx}->h'.Ns1 dx (λy=>if y=name then some v else none)->(∀b o,b≠x->s.heap.get? b=some o->h'.get? b=some o)->R (.ok (.ret .none)) {s with heap:=h',toks:=tk'}):codeAny (model prog w) A (.call (.builtin "object.__setattr__") ⟨[.ref x,.str name tk,v],[]⟩) R s:=by
 (have SF:=PySem.F.store_object)
 (obtain⟨cd,hc,ho⟩:=any_some hp)
 rw[lKl] at ho;obtain⟨ho,hD⟩:=ho
 (have ne:cd.mro.isEmpty=false:=by cases q:cd.mro with | nil=>rw[q] at ho;cases ho | cons _ _=>rfl)
 have sub:Looks (model prog w) s.heap (isInstance (.ref x) (.type "object")) true:=I.type.andThen (looks_mroIn X (by unfold mroIn;rw[hc,Option.bind_some,lJb (by rw[ne];decide),uU5 ho]))
 (refine lZa SF.slot.plain SF.entry (@check_slot (model prog w) _ _ s "object.__setattr__" "object" "__setattr__" (.ref x) [.str name tk,v] [] _ SF.kind SF.split sub (SF.args (.ref x) (.str name tk) v) ?_))
 (obtain⟨attr,ha,hr⟩:=Option.bind_eq_some_iff.mp ht)
 (have hm:Looks (model prog w) s.heap (mroOf (.ref C)) cd.mro:=(looks_clsIn X hc).andThen .now)
 have L3:Looks (model prog w) s.heap (storeTaker? attr) none:=by
  cases attr with
  | none=>exact .now
  | some a=>
   obtain⟨b,hb,e⟩:=lVj.mp hr
   (refine (looks_takesIn X hb).andThen ?_)
   cases b with
   | true=>cases e
   | false=>exact .now
 rw[osa_eq,refuse_eq]
 (refine lJa (lJa (I.type.here (lJa (hm.here ?_)))))
 rw[kY1 _ ho]
 (refine lJd (lJa (I.type.here (lJa ((looks_findIn X ha).here (lJa (L3.here ?_)))))))
 obtain⟨hx,hcl,hn,-⟩:=I
 (obtain⟨oc,odi,oda,osl⟩:=ox)
 dsimp only at hcl hd hf
 subst hcl hd hf
 dsimp only at h
 unfold storeInOwnDict
 (refine lJa (lJd (lJa (lJa (wpAny_loadPart hx (lJa ((looks_clsIn X hc).here ?_)))))))
 rw[hD];rw[lJb (show ¬ ((!true)=true) by decide)]
 dsimp only
 rw[lJb (show ¬ ((!true|| !typeHasDict (Value.ref C))=true) by simp[typeHasDict])]
 have hx₁:(s.heap.push {cls:= .type "dict",data:= .dict #[]}).get? x=some {cls:= .ref C,data:= .fields fs,slots:=osl}:=lJj _ hx;have hxs:x≠s.heap.objs.size:=lJp (lJi hx)
 (refine lJa (wpAny_alloc' ?_))
 (refine lJa (wpAny_update' hx₁ ?_))
 refine lJd ?_
 have gd:((s.heap.push {cls:= .type "dict",data:= .dict #[]}).update x λo=>{cls:=o.cls,dict:=some s.heap.objs.size,data:=o.data,slots:=o.slots}).get? s.heap.objs.size=some {cls:= .type "dict",data:= .dict #[]}:=
  (Heap.get?_update_ne _ _ _ _ hxs.symm).trans (Heap.get?_push_at (rfl) rfl)
 have gx:((s.heap.push {cls:= .type "dict",data:= .dict #[]}).update x λo=>{cls:=o.cls,dict:=some s.heap.objs.size,data:=o.data,slots:=o.slots}).get? x=some {cls:= .ref C,dict:=some s.heap.objs.size,data:= .fields fs,slots:=osl}:=
  lK2 _ hx₁ rfl
 have go:∀b o,b≠x->s.heap.get? b=some o->((s.heap.push {cls:= .type "dict",data:= .dict #[]}).update x λo=>{cls:=o.cls,dict:=some s.heap.objs.size,data:=o.data,slots:=o.slots}).get? b=some o:=λb o hb e=>
  (Heap.get?_update_ne _ _ _ _ hb).trans (lJj _ e)
 generalize (s.heap.push {cls:= .type "dict",data:= .dict #[]}).update x (λo=>{cls:=o.cls,dict:=some s.heap.objs.size,data:=o.data,slots:=o.slots})=h1 at gd gx go ⊢
 have hnd:h1.Ns s.heap.objs.size (λ_=>none):=⟨_,#[],_,gd,rfl,λe he=>absurd he (by simp),λ_=>rfl⟩
 show wpAny _ _ (storeInDict s.heap.objs.size (.str name tk) name v) _ _ _
 (unfold storeInDict newKeyGuard)
 (refine lJa (lJd (lJa (wpAny_nsSet1 (Heap.Ns1.of_empty hnd) λh' hn' hs=> ?_))))
 (obtain⟨oD,esD,epD,hoD,hdD,hcD⟩:=hn'.count (Within.cons name v Within.nil))
 (refine lJa (wpAny_lookBehind hoD (by rw[hdD];exact pastItsLine_dict (lKb hcD (by rw[lKj,lVx,lQf];omega))) ?_))
 exact lJd (h h' _ _ (lJg _) ((hs.2 x hxs).trans gx) hn' λb o hb e=>(hs.2 b (lJp (lJi e))).trans (go b o hb e))
theorem qVr{E:Value->Shared->Prop}{ox:Obj}{name:Str}{v:Value}{Q:Unit->Shared->Prop}(X:K.In s.heap)(I:InstAt s.heap x ox C none)(hd:ox.dict=none){fs:Array Value}(hf:ox.data= .fields fs)(hp:kY7 K C=true)(ht:takerIn K C name=some none)
  (hs:findIn K (.ref C) "__setattr__"=some (some (.builtin "object.__setattr__")))
  (h:∀h' tk' dx,s.heap.objs.size<=dx->h'.get? x=some {ox with dict:=some dx}->h'.Ns1 dx (λy=>if y=name then some v else none)->(∀b o,b≠x->s.heap.get? b=some o->h'.get? b=some o)->Q () {s with heap:=h',toks:=tk'}):
  wpAny (model prog w) A (setAttr (.ref x) name v) Q E s:=
 set_plain X I hs (qXc (s:={s with toks:=s.toks+1}) X I hd hf hp ht λh' tk' dx a b c d=>h h' tk' dx a b c d)
end
theorem qUg{P:Program}{w:World}{H:Hp}{h:Heap}{C e:Addr}{dx:Option Addr}(x:ExO C e dx h):ObjOk P w H h e (.ext (ExO C e dx)):=
 ⟨x,let ⟨_,q⟩:=x;⟨_,q⟩,λ_ _ p k=>let ⟨t,q⟩:=p;⟨t,k _ q⟩⟩
structure XI (K:PySem.W.Frag) (mg:Str->Option Value) (bn at_:Str) (C W:Addr):Prop where
 bW:mg bn=some (.ref W)
 rd:readsIn K W (.type "type")=true
 sp:specialIn K (.ref W) "__getattribute__"=some (some (.builtin "type.__getattribute__"))
 fc:findCls K (.ref W) (.type "type") "__init__"=some (.val (.builtin "ValueError.__init__"))
 pv:kY7 K C=true
 tk:takerIn K C at_=some none
 sa:findIn K (.ref C) "__setattr__"=some (some (.builtin "object.__setattr__"))
 cl:∃bm N nm qn bs hdct sn sub ab col dd k0 k1 k2 k3 k5 newId,K.lookup C=some (excClassObj nm qn C N bs bm hdct sn sub ab col dd k0 k1 k2 k3 k5 newId)/\tailIn K vmro bm=true
section
variable {X:Cx}{pins:List (Addr×Obj)}{s:Shared}{σ:L2.St}{H:Hp}
theorem uJ0{bn at_ v1 v2:Str}{C W e:Addr}{x2:V}{p1 p2 p3 p4 pos:Pos}{pl:Sem Bool}(TI:XI X.K X.mg bn at_ C W)(I:Inv X pins σ H s)(he:H e=some (.ext (ExO C e none)))
  (h1:PE X (.Name v1 p3) (L2.tVar 0)) (h2:PE X (.Name v2 p4) (L2.tVar 1)) (hσ:σ[0]? =some (some (.ref e))) (hσ2:σ[1]? =some (some x2))
  (hg:Gl X bn) (hdb:(bn == ("__debug__":Str))=false)
  (hst:starEach [.Name v1 p3,.Name v2 p4] X.env=(false,eval (.Name v1 p3) X.env)::starEach [.Name v2 p4] X.env:=by rfl) (hst2:starEach [.Name v2 p4] X.env=[(false,eval (.Name v2 p4) X.env)]:=by rfl)
  (ht:eval (.Call (.Attribute (.Name bn p1) "__init__" p2) [.Name v1 p3,.Name v2 p4] [] pos) X.env=(do
   let ov <-eval (.Name bn p1) X.env
   standAt p2.atName
   let (f,first) <-holding [ov] (getMethod ov "__init__" pl)
   callWith pos f first (backTo pos (starEach [.Name v1 p3,.Name v2 p4] X.env)) (backToKw pos (keywordEach [] X.env))):=by rfl):
  wpAny (model X.prog X.w) X.A (eval (.Call (.Attribute (.Name bn p1) "__init__" p2) [.Name v1 p3,.Name v2 p4] [] pos) X.env) (λv s'=>v= .none/\Inv X pins σ H s') X.xe s:=by
 refine lV5 (pl:=pl) (kJv I hg TI.bW ?_ hdb) ht;refine method_cls I.kIn TI.sp (cls_value I.kIn TI.rd TI.fc (by rfl) ?_)
 have I1:Inv X pins σ H {s with toks:=s.toks+1}:=I.kept (t':=s.toks+1) λb u q=>q
 refine lZd (thn (L2.pa_cons h1 (L2.pa_cons h2 L2.pa_nil hst2) hst pos pins _ σ H (λxs H'=>xs=[.ref e,x2]/\H'=H) I1 ⟨.ref e,hσ,x2,hσ2,rfl,rfl⟩) λus s1 ⟨vs,H1,I2,rvs,q⟩=> ?_) hst (by rw[hst2];rfl)
 obtain⟨rfl,rfl⟩:=q;cases rvs with
 | @cons _ u1 _ us1 ru1 rvs=>
 cases rvs with
 | @cons _ u2 _ us2 ru2 rvs=>
 cases rvs;cases (show u1=Value.ref e from ru1)
 obtain⟨bm,N,nm,qn,bs,hdct,sn,sub,ab,col,dd,k0,k1,k2,k3,k5,newId,hC,htl⟩:=TI.cl;obtain⟨⟨t0,ho⟩,_⟩:=(show ExO C e none s1.heap/\_ from I2.hok e _ he)
 obtain⟨hp,g,d,tk,os⟩:=s1;refine qYn lYy (tail_of_in I2.kIn htl) (I2.kIn _ _ hC) ho (by rw[lQf];show 1<=16777216;decide) λh' t' k1 k2=>⟨rfl,?_⟩
 refine I2.un (t':=tk) ⟨λb o q n _ _=>k1 b o (λz=>by rw[z,he] at n;cases n) q,λb o q n _ _=>⟨o.slots,k1 b o (λz=>by rw[z,he] at n;cases n) q⟩,λ_ _ _ n _=>n,λb o q _=> ?_,λ_ _ q=>q,λ_ _ _ q=>q,λb ps q=>⟨#[],by rw[q];simp⟩⟩ λa o q=> ?_
 .by_cases z:b=e
  .rw[z];exact⟨_,k2⟩
  .exact⟨o,k1 b o z q⟩
 .by_cases z:a=e
  .subst z;rw[he] at q;cases q;exact qUg ⟨t',k2⟩
  .refine (I2.hok a o q).stay (λb u hb hq=>k1 b u (λzz=> ?_) hq) (λ_ hq=>hq) λ_ _ hq=>hq
   rcases hb with rfl | hb
   .exact z zz
   .rw[zz,he] at hb;cases hb
theorem uJz{bn at_ v1 v3:Str}{C W e:Addr}{y:Str}{p1 p2 p3 pos:Pos}(TI:XI X.K X.mg bn at_ C W)(I:Inv X pins σ H s)(he:H e=some (.ext (ExO C e none)))
  (h1:PE X (.Name v1 p1) (L2.tVar 0)) (h3:PE X (.Name v3 p3) (L2.tVar 2)) (hσ:σ[0]? =some (some (.ref e))) (hσ3:σ[2]? =some (some (.str y)))
  (hs:swapsWith (.Name v3 p3) (some (.Attribute (.Name v1 p1) at_ p2)) pos.line X.env=pure false:=by rfl):
  wpAny (model X.prog X.w) X.A (exec (.Assign [.Attribute (.Name v1 p1) at_ p2] (.Name v3 p3) pos) X.env) (λf s'=>f= .next/\∃dx od,H dx=none/\Inv X pins σ (upd (upd H e (.ext (ExO C e (some dx)))) dx (.frz od (.xd [(at_,.str y)]))) s') X.xe s:=by
 refine lZh (thn (h3 pins s σ H (λv H'=>v= .str y/\H'=H/\True) I ⟨.str y,hσ3,rfl,rfl,trivial⟩) λu s1 ⟨v,H1,I1,ru,q⟩=> ?_) hs
 obtain⟨rfl,rfl,-⟩:=q;obtain⟨tk,rfl⟩:=(show ∃tk,u=Value.str y tk from ru)
 refine thn (h1 pins s1 σ H1 (λv H'=>v= .ref e/\H'=H1/\True) I1 ⟨.ref e,hσ,rfl,rfl,trivial⟩) λov s2 ⟨v,H2,I2,ru2,q2⟩=> ?_
 obtain⟨rfl,rfl,-⟩:=q2;cases (show ov=Value.ref e from ru2)
 obtain⟨⟨t0,ho⟩,_⟩:=(show ExO C e none s2.heap/\_ from I2.hok e _ he)
 refine qVr (ox:=exOb C t0 none) I2.kIn ⟨ho,rfl,rfl,trivial⟩ rfl rfl TI.pv TI.tk TI.sa λh' tk' dx a b c d=> ?_
 obtain⟨od,es,ep,eod,cr⟩:=id c;refine⟨rfl,dx,od,I2.hok.fresh a,?_⟩;have hne:e≠dx:=lJp (lJw (lJi ho) a);have hdx:=I2.hok.fresh a;have at_e:upd (upd H2 e (.ext (ExO C e (some dx)))) dx (.frz od (.xd [(at_,.str y)])) e=some (.ext (ExO C e (some dx))):=by rw[jJt hne,jJy]
 have at_d:upd (upd H2 e (.ext (ExO C e (some dx)))) dx (.frz od (.xd [(at_,.str y)])) dx=some (.frz od (.xd [(at_,.str y)])):=jJy
 have at_o:∀{b:Addr},b≠e->b≠dx->upd (upd H2 e (.ext (ExO C e (some dx)))) dx (.frz od (.xd [(at_,.str y)])) b=H2 b:=λn1 n2=>by rw[jJt n2,jJt n1]
 generalize upd (upd H2 e (.ext (ExO C e (some dx)))) dx (.frz od (.xd [(at_,.str y)]))=H' at at_e at_d at_o ⊢
 have ol:∀{b:Addr}{o:Obj},s2.heap.get? b=some o->b≠dx:=λq=>lJp (lJw (lJi q) a)
 have nn:∀{b:Addr},H2 b=none->b≠e:=λn z=>by rw[z,he] at n;cases n
 have sm:∀{b:Addr}{o:HO},H2 b=some o->b≠dx:=λq z=>by rw[z,hdx] at q;cases q
 refine I2.un (t':=tk') ⟨λb o q n _ _=>d b o (nn n) q,λb o q n _ _=>⟨o.slots,d b o (nn n) q⟩,λb o q n _=>by rw[at_o (nn n) (ol q)];exact n,λc' o q _=> ?_,λb xs q=> ?_,λb o u q=> ?_,λb ps q=> ?_⟩ λa' o q=> ?_
 .by_cases z:c'=e
  .rw[z];exact⟨_,b⟩
  .exact⟨o,d c' o z q⟩
 .have z:b≠e:=λz=>by rw[z,he] at q;cases q
  rw[at_o z (sm q)];exact q
 .have z:b≠e:=λz=>by rw[z,he] at q;cases q
  rw[at_o z (sm q)];exact q
 .have z:b≠e:=λz=>by rw[z,he] at q;cases q
  exact⟨#[],by rw[at_o z (sm q),q];simp⟩
 .by_cases z1:a'=e
  .subst z1;rw[at_e] at q;cases q;exact qUg ⟨t0,b⟩
  .by_cases z2:a'=dx
   .subst z2;rw[at_d] at q;cases q;refine⟨eod,_,c,λf=> ?_⟩
    by_cases z:f=at_
    .subst z;rw[lJc rfl];simp only[List.lookup,lY8];exact⟨tk,rfl⟩
    .rw[lJb z];simp only[List.lookup,beq_eq_false_iff_ne.mpr z];trivial
   .rw[at_o z1 z2] at q;refine (I2.hok a' o q).stay (λb u hb hq=>d b u (λzz=> ?_) hq) (λb hq=> ?_) λb xs hq=> ?_
    .rcases hb with rfl | hb
     .exact z1 zz
     .rw[zz,he] at hb;cases hb
    .have z:b≠e:=λz=>by rw[z,he] at hq;cases hq
     rw[at_o z (sm hq)];exact hq
    .have z:b≠e:=λz=>by rw[z,he] at hq;cases hq
     rw[at_o z (sm hq)];exact hq
end
noncomputable def spI(C:Addr)(at_:Str):Sp:=λvs H Q _=>vs.length=3/\∃(e:Addr)(x2:V)(y:Str),vs=[.ref e,x2,.str y]/\H e=some (.ext (ExO C e none))/\∀dx od,H dx=none->Q .non (upd (upd H e (.ext (ExO C e (some dx)))) dx (.frz od (.xd [(at_,.str y)])))
theorem uJ1{P:Program}{w:World}{K:PySem.W.Frag}{mg:Str->Option Value}{base:Heap}{qual:Str}{st:Stmt}{f:Addr}{fd:FuncData}{k:Nat}{bn at_ v1 v2 v3:Str}{C W:Addr}{p1 p2 p3 p4 p5 p6 p7 p8 p9 p10:Pos}
  (TI:XI K mg bn at_ C W) (F:Fun K "__init__" qual st f fd) (S:FnScope [v1,v2,v3] [v1,v2,v3] (jJk st))
  (hb:jKq st=[.Expr (.Call (.Attribute (.Name bn p1) "__init__" p2) [.Name v1 p3,.Name v2 p4] [] p5) p6,.Assign [.Attribute (.Name v1 p7) at_ p8] (.Name v3 p9) p10])
  (h1:∀X:Cx,X.env.scope=jJk st->X.N=[v1,v2,v3]->(∀p,PE X (.Name v1 p) (L2.tVar 0))/\(∀p,PE X (.Name v2 p) (L2.tVar 1))/\∀p,PE X (.Name v3 p) (L2.tVar 2))
  (hg:∀X:Cx,X.env.scope=jJk st->X.env.globals=mainGlobals->Gl X bn) (hdb:(bn == ("__debug__":Str))=false)
  (ht:∀env:Env,∃pl:Sem Bool,eval (.Call (.Attribute (.Name bn p1) "__init__" p2) [.Name v1 p3,.Name v2 p4] [] p5) env=(do
   let ov <-eval (.Name bn p1) env
   standAt p2.atName
   let (f,first) <-holding [ov] (getMethod ov "__init__" pl)
   callWith p5 f first (backTo p5 (starEach [.Name v1 p3,.Name v2 p4] env)) (backToKw p5 (keywordEach [] env)))):FnOk P w K mg base CX0 (k+1) f fd [v1,v2,v3] (spI C at_):=by
 refine Fun.ok (sp:=spI C at_) F S (λvs H Q E h=>h.1) λcdv A outer s H vs Q E hr hsp=> ?_
 obtain⟨hl,e,x2,y,rfl,he,kq⟩:=hsp;refine⟨λD σ H1=>D.nx=(λ_ H'=>Q .non H')/\σ=L2.start [v1,v2,v3] [.ref e,x2,.str y]/\H1=H,?_,rfl,rfl,rfl⟩
 rintro pins s1 σ1 H1 D I ⟨e1,e2,e3⟩;subst e2;subst e3;obtain⟨q1,q2,q3⟩:=h1 (cxOf CX0 P w K mg base [v1,v2,v3] qual (jJk st) f cdv A outer s H1 E).nox rfl rfl;rw[hb];obtain⟨pl,ht⟩:=ht (cxOf CX0 P w K mg base [v1,v2,v3] qual (jJk st) f cdv A outer s H1 E).nox.env;refine lXe (wpAny_Expr_any (thn (uJ0 (X:=(cxOf CX0 P w K mg base [v1,v2,v3] qual (jJk st) f cdv A outer s H1 E).nox) (pl:=pl) TI I he (q1 p3) (q2 p4) rfl rfl (hg _ rfl rfl) hdb (ht:=ht)) λv s2 ⟨ev,I2⟩=> ?_) I.quiet)
 subst ev;refine lXe (thn (uJz (X:=(cxOf CX0 P w K mg base [v1,v2,v3] qual (jJk st) f cdv A outer s H1 E).nox) TI I2 he (q1 p7) (q3 p9) rfl rfl) λfl s3 ⟨ef,dx,od,hd,I3⟩=> ?_)
 subst ef;refine lVa ?_;exact⟨_,_,I3,by rw[e1];exact kq dx od hd⟩
noncomputable def qYb(K:Frag)(C fI:Addr)(bmB:List Value)(newId:String):Bool:=match K.lookup C with
 | some ⟨.type "type",_,.cls cd,sl⟩=>(match cd.mro,sl.toList with
  | .ref C'::bm,[_,_,_,_,some (.builtin n),_]=>C' == C&&n == newId&& !cd.hasDel&&tailIn K bmB bm&&nsOkIn K cd.ns&&nsIn K cd.ns "__init__" == some (some (.ref fI))
  | _,_=>false)
 | _=>false
theorem qZe{K:PySem.W.Frag}{C fI:Addr}{bmB:List Value}{newId:String}(q:qYb K C fI bmB newId=true):
  ∃bm N nm qn bs hdct sn sub ab col dd k0 k1 k2 k3 k5,K.lookup C=some (excClassObj nm qn C N bs bm hdct sn sub ab col dd k0 k1 k2 k3 k5 newId)/\nsOkIn K N=true/\nsIn K N "__init__"=some (some (.ref fI))/\tailIn K bmB bm=true:=by
 unfold qYb at q;split at q
 .rename_i dd cd sl ho
  split at q
  .rename_i C' bm k0 k1 k2 k3 n k5 hm hs
   (simp only[lKl,beq_iff_eq,Bool.not_eq_true'] at q)
   obtain⟨⟨⟨⟨⟨rfl,rfl⟩,z⟩,ht⟩,hok⟩,hni⟩:=q
   (obtain⟨nm,bs,mro,ns,qn,hd,sn,sub,ab,col,del⟩:=cd)
   dsimp only at hm z hok hni
   subst hm z
   have e:sl= #[k0,k1,k2,k3,some (.builtin n),k5]:=by
    obtain⟨l⟩:=sl;simp only at hs;rw[hs]
   subst e;exact⟨bm,ns,nm,qn,bs,hd,sn,sub,ab,col,dd,k0,k1,k2,k3,k5,ho,hok,hni,ht⟩
  .cases q
 .cases q
theorem uQ8{K:Frag}{h:Heap}{N:Addr}{mN:Str->Option Value}{n:Str}{v:Value}(X:K.In h)(G:h.Ns N mN)(e:nsIn K N n=some (some v)):mN n=some v:=by
 obtain⟨ob,es,ep,hob,hdt,_,hfd⟩:=G;unfold nsIn at e;split at e
 .rename_i q
  have hq:=X _ _ q;rw[hob] at hq;cases hq;cases hdt;rw[<-hfd];unfold nsFind findBy;rw[<-Array.find?_toList];split at e
  .rename_i he
   rw[he];cases e;rfl
  .split at e<;>cases e
 .cases e
structure ExI (P:Program) (w:World) (K:PySem.W.Frag) (mg:Str->Option Value) (base:Heap) (k:Nat) (nm:Str):Prop where
 ex:∃C fI oI fd ps,CN K nm C/\mg nm=some (.ref C)/\FnOk P w K mg base CX0 k fI fd ps (spI C "why")/\Binds K fd ps []/\K.lookup fI=some oI/\oI.cls= .type "function"/\qYb K C fI vmro "ValueError.__new__"=true
theorem kQy{X:Cx}{k:Nat}{R:XK3}{cn nm v y:Str}{a1 a2:Expr}{np cpos pos:Pos}(hx:XR X R)(hC:ExI X.prog X.w X.K X.mg X.base k nm)(hr:Room (k+1) X.A)(ha:PA3 X [a1,a2] (jJc (tC (.str v)) (jJc (tC (.str y)) tNil)))(hg:Gl X nm:=by rfl)(hdb:(nm == ("__debug__":Str))=false:=by decide)
  (he:starEach [a1,a2] X.env=[(false,eval a1 X.env),(false,eval a2 X.env)]:=by rfl) (hw:jUb cn=some y:=by decide) (hnm:nmOf cn=nm:=by decide):
  PS3 X (.Raise (some (.Call (.Name nm np) [a1,a2] [] cpos)) none pos) (jYv R cn):=by
 intro pins s τ G H D I h;obtain⟨C,fI,oI,fd,ps,hcn,hmg,F,hb,hfl,hfc,hin⟩:=hC.ex;obtain⟨σ,I0,hs,hgr⟩:=id I;obtain⟨bm,N,nm',qn,bs,hdct,sn,sub,ab,col,dd,k0,k1,k2,k3,k5,hC0,hok,hni,ht⟩:=qZe hin;have hbt:backTo cpos (starEach [a1,a2] X.env)=[(false,eval a1 X.env),(false,eval a2 X.env)]:=by rw[he];rfl
 rw[arm_exec_Raise];refine lJa (lVb (qJg (C:=C) (nm:=nm') (q:=qn) (N:=N) (bs:=bs) (bm:=bm) (hdct:=hdct) (sn:=sn) (sub:=sub) (ab:=ab) (col:=col) (dd:=dd) (k0:=k0) (k1:=k1) (k2:=k2) (k3:=k3) (k5:=k5) (newId:="ValueError.__new__") (qKh (tail_of_in I0.kIn ht)) hr.hd ?_))
 refine lJa (lJ6 (wpAny_Call_ofName (Q:=λv s₁=>∃e t dx,v= .ref e/\s₁.heap.get? C=some (excClassObj nm' qn C N bs bm hdct sn sub ab col dd k0 k1 k2 k3 k5 "ValueError.__new__")/\
   s₁.heap.get? e=some {cls:= .ref C,dict:=dx,data:= .fields #[.ref t,.none,.none,.none,.bool false,.none]}/\X.xe (.ref e) s₁) (kJv I0 hg hmg ?_ hdb)) (λv s₃ h₃=>lJa (lVb (lJd h₃))) λ_ _ x=>x)
 unfold callWith;rw[hbt];have hA:=ha cpos pins s τ G H (λts G'=>ts=[.str v,.str y]/\R cn G') I ⟨rfl,h⟩
 rw[hbt] at hA
 have hE:wpAny (model X.prog X.w) X.A (evalArgs (.ref C) true [(false,eval a1 X.env),(false,eval a2 X.env)] []) (λ(a:Args) s1=>∃us,a=⟨us,[]⟩/\us.length=2/\∃ σ1 H1 G1 as,Inv X pins σ1 H1 s1/\GRel X.K H1 G1/\Reps X.K H1 [.str v,.str y] as/\Vals as us/\R cn G1) X.xe s:=by
  refine Calls.evalArgs_plain (thn hA λus s1 w_=>w_.el λxs G1 H1 e1 i_ r_ q=>i_.el λσ1 I1 hs1 hg1=>r_.el λas ras rvs=> ?_)
  obtain⟨rfl,q⟩:=q;exact⟨us,rfl,by rw[<-rvs.length,<-ras.length];rfl,σ1,H1,G1,as,I1,hg1,ras,rvs,q⟩
 refine lJa (lKo (lJ6 hE (λa s1 h2=>lJa (lVb ?_)) λ_ _ x=>x))
 obtain⟨us,rfl,hl,σ1,H1,G1,as,I1,hg1,ras,rvs,hR⟩:=h2;have hn1:s1.heap.Ns N (s.heap.nsMap N):=uJm I0.kIn I1.kIn hok (.of_isNs (isNs_of_in I0.kIn hok));have hC1:=I1.kIn _ _ hC0;have hf1:=I1.kIn _ _ hfl;have T1:=tail_of_in I1.kIn ht;have env1:=I1.env0;refine lJa (wpAny_keeperOf_exc (h:=s1.heap) (g:=s1.gens) (d:=s1.drawn) (t:=s1.toks) (os:=s1.os) hC1 ?_);refine lJa (qU3 (h:=s1.heap) (g:=s1.gens) (d:=s1.drawn) (t:=s1.toks) (os:=s1.os) lYy (by decide) lYy T1 hC1 hn1 (?_:s.heap.nsMap N "__init__"=some (.ref fI)) hf1 hfc (λh' e hm=> ?_) (by show us.length<=_;rw[hl];decide))
 .exact uQ8 I0.kIn (.of_isNs (isNs_of_in I0.kIn hok)) hni
 have hs1:s1.heap.get? e=none:=hm.new;obtain⟨t0,het,_,_⟩:=hm.there
 have hn1e:H1 e=none:=by
  cases q:H1 e with
  | none=>rfl
  | some o=>obtain⟨u,hu⟩:=kU9 (I1.hok e o q);rw[hs1] at hu;cases hu
 have old:∀{b:Addr}{o:Obj},s1.heap.get? b=some o->b≠e:=λq z=>by rw[z,hs1] at q;cases q
 have kept:∀b o,s1.heap.get? b=some o->h'.get? b=some o:=hm.keeps
 have I2:Inv X pins σ1 (upd H1 e (.ext (ExO C e none))) {s1 with heap:=h',toks:=s1.toks}:=by
  refine I1.un (t':=s1.toks) ⟨λb o q n _ _=>kept b o q,λb o q n _ _=>⟨o.slots,kept b o q⟩,λb o q n _=>by rw[jJt (old q)];exact n,λb o q _=>⟨o,kept b o q⟩,λb xs q=> ?_,λb o u q=> ?_,λb ps q=>⟨#[],?_⟩⟩ λa o q=> ?_
  .rw[jJt (jKf q hn1e)];exact q
  .rw[jJt (jKf q hn1e)];exact q
  .rw[jJt (jKf q hn1e),q];simp
  .by_cases z:a=e
   .subst z;rw[jJy] at q;cases q;exact qUg ⟨t0,het⟩
   .rw[jJt z] at q;refine (I1.hok a o q).stay (λb u hb hq=>kept b u hq) (λb hq=> ?_) λb xs hq=> ?_
    .rw[jJt (jKf hq hn1e)];exact hq
    .rw[jJt (jKf hq hn1e)];exact hq
 have env2:=I2.env0.make C us []
 have hps:(Value.ref e::us).length=ps.length:=by
  have:=F.len [.ref e,.str v,.str y] (upd H1 e (.ext (ExO C e none))) (λ_ _=>True) (λ_ _ _=>True) ⟨rfl,e,.str v,y,rfl,jJy,λ_ _ _=>trivial⟩
  rw[<-this,lKj,hl];rfl
 obtain⟨v1,w1,rfl,r1,v2,w2,rfl,r2,rfl⟩:=(show ∃v1 w1,as=v1::w1/\Rep X.K H1 (.str v) v1/\∃v2 w2,w1=v2::w2/\Rep X.K H1 (.str y) v2/\w2=[] from ras)
 cases (show v1=V.str v from r1)
 cases (show v2=V.str y from r2)
 refine lQ8 (lVr (F.run _ X.stack {s1 with heap:=h',toks:=s1.toks} (upd H1 e (.ext (ExO C e none))) ⟨.ref e::us,[]⟩ ((.ref e::us)++[]) [.ref e,.str v,.str y]
  (λu H'=>u= .non/\∃dx od,upd H1 e (.ext (ExO C e none)) dx=none/\H'=upd (upd (upd H1 e (.ext (ExO C e none))) e (.ext (ExO C e (some dx)))) dx (.frz od (.xd [("why",.str y)]))) (λ_ _ _=>False) (hr.make C us []) env2 (hb _ _ I2.kIn (by rw[lKx];exact hps)) (by rw[lKx];exact .cons rfl rvs) ⟨rfl,e,.str v,y,rfl,jJy,λdx od hd=>⟨rfl,dx,od,hd,rfl⟩⟩) λr s' hq=> ?_)
 cases r with
 | error z=>exact False.elim hq
 | ok fl=>
  cases fl with
  | next=>exact False.elim hq
  | brk=>exact False.elim hq
  | cont=>exact False.elim hq
  | ret u=>
   obtain⟨vv,H3,I3,ru,rfl,dx,od,hd,rfl⟩:=I2.after hq;cases (show u=Value.none from ru)
   have hde:dx≠e:=λz=>by rw[z,jJy] at hd;cases hd
   have hd1:H1 dx=none:=by rw[jJt hde] at hd;exact hd
   have at_e:upd (upd (upd H1 e (.ext (ExO C e none))) e (.ext (ExO C e (some dx)))) dx (.frz od (.xd [("why",.str y)])) e=some (.ext (ExO C e (some dx))):=by rw[jJt (Ne.symm hde),jJy]
   have at_d:off e (upd (upd (upd H1 e (.ext (ExO C e none))) e (.ext (ExO C e (some dx)))) dx (.frz od (.xd [("why",.str y)]))) dx=some (.frz od (.xd [("why",.str y)])):=by rw[jYn hde,jJy]
   have at_o:∀{b:Addr},b≠e->b≠dx->off e (upd (upd (upd H1 e (.ext (ExO C e none))) e (.ext (ExO C e (some dx)))) dx (.frz od (.xd [("why",.str y)]))) b=H1 b:=λn1 n2=>by rw[jYn n1,jJt n2,jJt n1,jJt n1]
   generalize upd (upd (upd H1 e (.ext (ExO C e none))) e (.ext (ExO C e (some dx)))) dx (.frz od (.xd [("why",.str y)]))=H3 at I3 at_e at_d at_o
   have ex3:Ext H1 (off e H3):=⟨λb xs q=>by rw[at_o (jKf q hn1e) (jKf q hd1)];exact q,λb o u q=>by rw[at_o (jKf q hn1e) (jKf q hd1)];exact q⟩
   have g3:GRel X.K (off e H3) G1:=λa o q=>(hg1 a o q).move ex3 (at_o (λz=>(hg1 a o q).some (z▸hn1e)) λz=>(hg1 a o q).some (z▸hd1))
   obtain⟨⟨t3,he3⟩,_⟩:=(show ExO C e (some dx) s'.heap/\_ from I3.hok e _ at_e)
   refine⟨rfl,lJa (lKo (wpAny_point (lJd ?_)))⟩;refine⟨e,t3,some dx,rfl,I3.kIn _ _ hC0,he3,?_⟩;refine hx.raiseW pins σ1 H3 G1 s' e C cn (some dx) I3 at_e (λb o q nx z=> ?_) g3 (by show nsIn X.K mainGlobals (nmOf cn)=_;rw[hnm];exact hcn) (λy' q=> ?_) hR
   .obtain⟨o',q'⟩:=I1.base.there b o q nx;exact old q' z
   .rw[hw] at q;cases q;exact⟨dx,od,rfl,at_d⟩
section
variable {w:World}{A:Around}{E:Value->Shared->Prop}{s:Shared}{K:Frag}{x C:Addr}{ox:Obj}{od:Option Obj}{name:Str}{expr:Bool}{Q:Value->Shared->Prop}{prog:Program}
open PySem.Builtin.ObjectAttr PySem.Builtin in
theorem qUh{v:Value}(X:K.In s.heap)(I:InstAt s.heap x ox C od)(ga:findIn K (.ref C) "__getattribute__"=some (some (.builtin "BaseException.__getattribute__")))(gt:findIn K (.ref C) "__getattr__"=some none)(be:mroIn K C (.type "BaseException")=some true)(hf:findObj K C od name=some (.value v))(hh:handedIn v=true)(h:Q v {s with toks:=s.toks+1}):wpAny (model prog w) A (getAttr (.ref x) name expr) Q E s:=by
 (obtain⟨hh',g,d,t,os⟩:=s)
 (have L0:=I.type (M:=model prog w))
 have L1:=looks_findIn (M:=model prog w) X ga;have L3:=looks_findIn (M:=model prog w) X gt;have L4:=looks_mroIn (M:=model prog w) X be;have L5:=looks_find (M:=model prog w) X I hf
 (have hx2:(Value.builtin "BaseException.__getattribute__" == Value.builtin "object.__getattribute__")=false:=by decide +kernel)
 (have hx1:(onTheHeap (Value.ref C)&&Value.builtin "BaseException.__getattribute__" == Value.builtin "object.__getattribute__")=false:=by rw[hx2];rfl)
 (have hx0:(expr&&onTheHeap (Value.builtin "BaseException.__getattribute__"))=false:=by cases expr<;>rfl)
 have f3:=lZf.ga.bind (.ref x);unfold getAttr getAttrBy
 (refine lJa (wpAny_mkText (lKo (lJa (L0.at (lJa (L1.at ?_)))))))
 dsimp only
 rw[hx1]
 (simp only[lKp,lJt])
 unfold getAttrByItsOwn;have L0:Looks (model prog w) hh' (typeOf (Value.ref x)) (Value.ref C):=L0;have L1:Looks (model prog w) hh' (typeLookup (Value.ref C) (Str.ofString "__getattribute__")) (some (Value.builtin "BaseException.__getattribute__")):=L1;have L3:Looks (model prog w) hh' (typeLookup (Value.ref C) (Str.ofString "__getattr__")) none:=L3;have L4:Looks (model prog w) hh' (isSubtype (Value.ref C) (Value.type "BaseException")) true:=L4
 have key:∀(A:Around)(R:Result->Shared->Prop),R (.ok (.ret v)) ⟨hh',g,d,t+1,os⟩->codeAny (model prog w) A (.call (.builtin "BaseException.__getattribute__") ⟨[.ref x,.str name t],[]⟩) R ⟨hh',g,d,t+1,os⟩:=by
  intro A R hR;refine lZa lZf.ga.plain PySem.F.entry_bexc_ga ?_
  (have hk:builtinKind "BaseException.__getattribute__"=some .slot:=by decide +kernel)
  (have hsplit:splitId "BaseException.__getattribute__"=some ("BaseException","__getattribute__"):=by decide +kernel)
  have ha:=PySem.F.args_bexc_ga (.ref x) (.str name t)
  (simp only[checkBuiltinCall,hk,hsplit])
  refine lJa (lJa (L0.at (L4.at ?_)));rw[lJb (by decide)]
  repeat (any_goals (first | assumption | with_reducible refine L0.at ?_ | with_reducible refine L5.at ?_ | wp_step))
 unfold hookBefore;rw[lJc (show onTheHeap (Value.ref C)=true from rfl)]
 refine lJa (L3.at ?_)
 (refine lJa (lYa (lKo ?_)))
 unfold callGetattribute;rw[lJb (by rw[hx0];decide)]
 unfold boundAndCalled;rw[f3];refine lJa (lJd ?_);refine (show wpAny _ _ (call (Value.builtin "BaseException.__getattribute__") [Value.ref x,Value.str name t]) _ _ _ from lQ8 (key _ _ ?_))
 show wpAny _ _ (handedOut (v)) _ _ _
 (rw[handedOut_of hh];exact lJd h)
end
def tWhy(ta:TE3):TE3:=λτ G Q=>ta τ G λx G1=>∃a cn y,x= .ref a/\G1 a=some (.exc cn)/\jUb cn=some y/\Q (.str y) G1
theorem uVa{cn y:Str}(h:jUb cn=some y):nmOf cn="Clash":=by unfold nmOf;rw[h];rfl
structure ExWhy (K:PySem.W.Frag) (nm:Str):Prop where
 ex:∃C,CN K nm C/\findIn K (.ref C) "__getattribute__"=some (some (.builtin "BaseException.__getattribute__"))/\findIn K (.ref C) "__getattr__"=some none/\mroIn K C (.type "BaseException")=some true/\hasDictIn K C=true/\findIn K (.ref C) "why"=some none
theorem uV6{X:Cx}{e:Expr}{ta:TE3}{pos:Pos}(c:ExWhy X.K "Clash")(he:PE3 X e ta)(hb:attributeBase e "why" X.env (eval e X.env)=eval e X.env:=by rfl):PE3 X (.Attribute e "why" pos) (tWhy ta):=by
 intro pins s τ G H Q I h;obtain⟨C,hC,hga,hgt,hbe,hd,hn⟩:=c.ex;refine qU6 hb (thn (he pins s τ G H _ I h) λu s1 w_=>w_.el λx G1 H1 e1 i_ r_ q=>i_.el λσ I1 hs1 hg1=>r_.el λv rv ru=> ?_)
 obtain⟨a,cn,y,rfl,hG,hw,q⟩:=q;cases (show v= .ref a from rv)
 obtain rfl:u=Value.ref a:=ru;obtain⟨ob,C',uo,h1,h2,h3,hnc,hwh⟩:=(show ∃ob C u,H1 a=some (.frz ob u)/\ob.cls= .ref C/\PySem.W.nsIn X.K mainGlobals (nmOf cn)=some (some (.ref C))/\PySem.W.notCls ob=true/\WhyH H1 (jUb cn) ob.dict from hg1 a _ hG)
 rw[uVa hw] at h3;cases hC.one h3;obtain⟨dx,od,hdx,hHd⟩:=hwh y hw;obtain⟨ho,_⟩:=(show s1.heap.get? a=some ob/\_ from I1.hok a _ h1)
 obtain⟨hod,mA,ns,rel⟩:=(show s1.heap.get? dx=some od/\∃mA,s1.heap.Ns1 dx mA/\∀f,RelO (([("why",V.str y)]:List (Str×V)).lookup f) (mA f) from I1.hok dx _ hHd)
 obtain⟨od',hod',hl⟩:=kVh ns;have J:InstAt s1.heap a ob C (some od'):=⟨ho,h2,hnc,by rw[hdx];exact hod'⟩
 obtain⟨u',hu',ru'⟩:=RelO.some_of (v:= .str y) (o:=mA "why") (by have q:=rel "why"; rw[show List.lookup ("why":Str) ([("why",V.str y)]:List (Str×V))=some (.str y) by simp only[List.lookup,lY8]] at q;exact q)
 exact qUh I1.kIn J hga hgt hbe (PySem.W.findObj_own hd hn rfl (by rw[hl,hu'])) (kVo ru') ⟨.str y,G1,H1,e1,⟨σ,I1.tok _,hs1,hg1⟩,⟨.str y,rfl,ru'⟩,q⟩
theorem cxOfN{K:PySem.W.Frag}{cn:Str}{C:Addr}(h:jUb cn=none)(q:CN K cn C):CX K cn C:=uXa h q
theorem subW{K:PySem.W.Frag}{mg:Str->Option Value}{c:Str}{bs es:List Str}(h:∀cn,cn∈bs->ExSub K mg cn c true)(hd:es.all (λcn=>bs.contains (nmOf cn)&&(nmOf (nmOf cn) == nmOf cn))=true):∀cn,cn∈es->ExSub K mg cn c true:=λcn z=>by
 have q:=lQn.mp hd cn z;rw[lKl,List.contains_iff_mem,beq_iff_eq] at q;obtain⟨C,D,a,b⟩:=(h _ q.1).ex;exact⟨C,D,by unfold CX at a ⊢; rw[q.2] at a;exact a,b⟩
theorem exwhy_mk{K:PySem.W.Frag}{C:Addr}{nm:Str}(a:nsIn K mainGlobals nm=some (some (.ref C)))(ga:findIn K (.ref C) "__getattribute__"=some (some (.builtin "BaseException.__getattribute__")))(gt:findIn K (.ref C) "__getattr__"=some none)(be:mroIn K C (.type "BaseException")=some true)(hd:hasDictIn K C=true)(n:findIn K (.ref C) "why"=some none):ExWhy K nm:=⟨C,a,ga,gt,be,hd,n⟩
structure ExT (st:Stmt) (bn v1 v2 v3:Str):Prop where
 sc:FnScope [v1,v2,v3] [v1,v2,v3] (jJk st)
 body:∃p1 p2 p3 p4 p5 p6 p7 p8 p9 p10,jKq st=[.Expr (.Call (.Attribute (.Name bn p1) "__init__" p2) [.Name v1 p3,.Name v2 p4] [] p5) p6,.Assign [.Attribute (.Name v1 p7) "why" p8] (.Name v3 p9) p10]/\
  ∀env:Env,∃pl:Sem Bool,eval (.Call (.Attribute (.Name bn p1) "__init__" p2) [.Name v1 p3,.Name v2 p4] [] p5) env=(do
   let ov <-eval (.Name bn p1) env
   standAt p2.atName
   let (f,first) <-holding [ov] (getMethod ov "__init__" pl)
   callWith p5 f first (backTo p5 (starEach [.Name v1 p3,.Name v2 p4] env)) (backToKw p5 (keywordEach [] env)))
 n1:(jJk st).names.lookup v1=some .local
 n2:(jJk st).names.lookup v2=some .local
 n3:(jJk st).names.lookup v3=some .local
 nb:(jJk st).names.lookup bn=some .globalImplicit
 d1:(v1 == ("__debug__":Str))=false/\(v1 == ("__classdict__":Str))=false
 d2:(v2 == ("__debug__":Str))=false/\(v2 == ("__classdict__":Str))=false
 d3:(v3 == ("__debug__":Str))=false/\(v3 == ("__classdict__":Str))=false
 db:(bn == ("__debug__":Str))=false
 bd:∀(qual:Str)(kV doc pm:Value)(an:Option Addr)(cdv ct:Value)(us:List Value),us.length=3->bindArgs (PySem.W.fnOf "__init__" qual (jQ0 st) (jKq st) (jJk st) .none kV doc pm an cdv ct) ⟨us,[]⟩=pure ([v1,v2,v3].zip us)
theorem exi_mk{K:PySem.W.Frag}{h:Heap}{mg:Str->Option Value}{nm bn v1 v2 v3 qual:Str}{st:Stmt}{C W fI:Addr}{od an:Option Addr}{osl:Array (Option Value)}{kV doc pm cdv ct:Value}{cd:ClassData}(X:K.In h)(G:h.Ns mainGlobals mg)(T:ExT st bn v1 v2 v3)
  (a:nsIn K mainGlobals nm=some (some (.ref C))) (_:clsIn K C=some cd) (_:nsIn K cd.ns "__init__"=some (some (.ref fI))) (q:qYb K C fI vmro "ValueError.__new__"=true) (b:nsIn K mainGlobals bn=some (some (.ref W))) (rd:readsIn K W (.type "type")=true)
  (sp:specialIn K (.ref W) "__getattribute__"=some (some (.builtin "type.__getattribute__"))) (fc:findCls K (.ref W) (.type "type") "__init__"=some (.val (.builtin "ValueError.__init__"))) (pv:kY7 K C=true) (tk:takerIn K C "why"=some none)
  (sa:findIn K (.ref C) "__setattr__"=some (some (.builtin "object.__setattr__")))
  (l:K.lookup fI=some ⟨.type "function",od,.func (PySem.W.fnOf "__init__" qual (jQ0 st) (jKq st) (jJk st) .none kV doc pm an cdv ct),osl⟩) (c:PySem.W.codeIn K cdv qual=true) (k:PySem.W.keepIn K (.ref fI)=true):
  ∀(P:Program)(w:World)(base:Heap)(k:Nat),ExI P w K mg base (k+1) nm:=by
 intro P w base k';have F:Fun K "__init__" qual st fI _:=kZl l c k;obtain⟨p1,p2,p3,p4,p5,p6,p7,p8,p9,p10,hb,ht⟩:=T.body;obtain⟨bm,N,nm',qn,bs,hdct,sn,sub,ab,col,dd,k0,k1,k2,k3,k5,hC0,hok,hni,htl⟩:=qZe q;have TI:XI K mg bn "why" C W:=⟨mg_of X G b,rd,sp,fc,pv,tk,sa,⟨bm,N,nm',qn,bs,hdct,sn,sub,ab,col,dd,k0,k1,k2,k3,k5,_,hC0,htl⟩⟩;refine⟨C,fI,_,_,_,a,mg_of X G a,uJ1 (k:=k') TI F T.sc hb (λX hs hN=>⟨λp=>kU7 (by rw[hN];rfl) (by rw[hs];exact .inl T.n1) T.d1.1 T.d1.2,λp=>kU7 (by rw[hN];rfl) (by rw[hs];exact .inl T.n2) T.d2.1 T.d2.2,λp=>kU7 (by rw[hN];rfl) (by rw[hs];exact .inl T.n3) T.d3.1 T.d3.2⟩) (λX hs _=>by show X.env.scope.names.lookup bn=_;rw[hs];exact T.nb) T.db ht,F.binds λkV doc pm an cdv ct us hl=>T.bd qual kV doc pm an cdv ct us hl,l,rfl,q⟩
end L3
namespace L3
open PySem PySem.Spec PyProof.Rows L2
theorem jZr{X:Cx}{sts:List Stmt}:PSs3 X sts jY9:=λ_ _ _ _ _ _ _ h=>h.elim
end L3
namespace W
open PySem L3
abbrev o0:TE3:=tVar 0
abbrev o1:TE3:=tVar 1
abbrev o2:TE3:=tVar 2
abbrev o3:TE3:=tVar 3
abbrev o4:TE3:=tVar 4
abbrev o5:TE3:=tVar 5
abbrev o6:TE3:=tVar 6
abbrev o7:TE3:=tVar 7
abbrev o8:TE3:=tVar 8
abbrev o9:TE3:=tVar 9
abbrev o10:TE3:=tVar 10
abbrev o11:TE3:=tVar 11
abbrev o12:TE3:=tVar 12
abbrev o13:TE3:=tVar 13
abbrev C0:TA3:=jJc o0 tNil
abbrev C1:TA3:=jJc o1 tNil
abbrev C2:TA3:=jJc o2 tNil
abbrev C3:TA3:=jJc o3 tNil
abbrev C4:TA3:=jJc o4 tNil
abbrev C5:TA3:=jJc o5 tNil
abbrev C6:TA3:=jJc o6 tNil
abbrev C7:TA3:=jJc o7 tNil
abbrev C9:TA3:=jJc o9 tNil
abbrev C10:TA3:=jJc o10 tNil
abbrev C11:TA3:=jJc o11 tNil
abbrev C12:TA3:=jJc o12 tNil
abbrev C13:TA3:=jJc o13 tNil
abbrev tI0:TE3:=tC (.int 0)
abbrev tI1:TE3:=tC (.int 1)
abbrev tI2:TE3:=tC (.int 2)
abbrev M1:TG3:=jJh 1
abbrev M2:TG3:=jJh 2
abbrev M3:TG3:=jJh 3
abbrev M4:TG3:=jJh 4
abbrev M5:TG3:=jJh 5
abbrev M6:TG3:=jJh 6
abbrev M7:TG3:=jJh 7
abbrev M8:TG3:=jJh 8
abbrev M9:TG3:=jJh 9
abbrev M10:TG3:=jJh 10
abbrev M11:TG3:=jJh 11
abbrev M12:TG3:=jJh 12
abbrev M13:TG3:=jJh 13
abbrev fF:=false
abbrev tT:=true
local macro_rules
 | `(tactic| exists $ts,*) => do
  let ls ← ts.getElems.mapM fun t => `(Lean.Parser.Tactic.simpLemma| $t:term)
  let ns ← ("C0 C1 C2 C3 C4 C5 C6 C7 C9 C10 C11 C12 C13 tI0 tI1 tI2 M1 M2 M3 M4 M5 M6 M7 M8 M9 M10 M11 M12 M13 fF tT o0 o1 o2 o3 o4 o5 o6 o7 o8 o9 o10 o11 o12 o13 tSeq tIfS jJv tOp rGt rLt rGe rSub L3.rI0 L3.rI rIxF tVar tC tAsg tCB jJc tNil kXx rLen rAbs rMax qK9 gTup jKd gNil gSub jJh jV0 tRet uK6 jJ5 jQm jJq tLst tTup tIf tNot tAnd tOr qZt tOrV uK7 tPar jKz jV1 rMod uQj rPow rIsN jZh kKv tTru rTru truT tUn rNeg qYs qXj qXl qXk uJ7 qUf uJv uJw at0 at1 at2 ix30 ix31 ix32 qVv qVt uJx qVw Option.map_some and_assoc T.int.injEq T.bl.injEq T.tup.injEq T.ref.injEq List.cons.injEq and_true true_and exists_eq_left exists_eq_left' exists_and_left exists_eq_right List.getElem?_cons_zero List.getElem?_cons_succ List.set_cons_zero List.set_cons_succ List.length_cons List.length_nil Nat.reduceAdd Option.some.injEq jJg jYa reduceCtorEq false_and exists_false exists_const Bool.true_eq Bool.not_eq_true' Bool.not_true Bool.not_false if_true if_false decide_eq_true_eq tBM jQo kJj jK3 qVm jXx GO.lst.injEq msk List.zipWith_cons_cons List.zipWith_nil_left List.zipWith_nil_right Bool.false_eq_true qZo".splitOn " ").toArray.mapM fun n => `(Lean.Parser.Tactic.simpLemma| $(Lean.mkIdent n.toName):term)
  let al:=ns++ls
  `(tactic| ((try dsimp only [$al,*]); (try simp only [$al,*])))
local macro_rules
 | `(tactic| omega) => `(tactic| first | exact szle rfl | lia)
def BoxAt(G:Gp)(b:Addr)(n:Nat):Prop:=∃x y z:Int,G b=some (.lst [.int x,.int y,.int z])/\0<=x/\0<=y/\y<2147483648/\0<=z/\z<=n
def Keep(b:Addr)(G G':Gp):Prop:=∀c o,c≠b->G c=some o->G' c=some o
theorem Keep.refl(b:Addr)(G:Gp):Keep b G G:=λ_ _ _ h=>h
theorem Keep.trans{b:Addr}{G G1 G2:Gp}(h:Keep b G G1)(h':Keep b G1 G2):Keep b G G2:=λc o hc e=>h' c o hc (h c o hc e)
theorem Keep.gup{b:Addr}{G:Gp}{o:GO}:Keep b G (gup G b o):=λc u hc e=>by rw[jJl hc];exact e
theorem Keep.new{b p:Addr}{G:Gp}{o:GO}(hp:G p=none):Keep b G (L3.gup G p o):=λc u _ e=>by rw[jJl];exact e;rintro rfl;rw[hp] at e;cases e
abbrev RdOk(sp:Sp3)(rd:TS3)(N:List Str):Prop:=∀xs G Q,sp xs G Q->rd {nx:=λ_ G'=>Q .non G',rt:=Q} (jUq N xs) G
noncomputable def jJx:Sp3:=λxs G Q=>∃(b:Addr)(m:Int)(n:Nat),xs=[.ref b,.int m]/\BoxAt G b n/\n<2^40/\1<=m/\m<2^29/\∀(r:Int) G',0<=r->r<m->BoxAt G' b (n+1)->Keep b G G'->Q (.int r) G'
def qYv:List Str:=["_law_box_here","_law_many","_law_found","_law_once"]
noncomputable def kJf:TS3:=
 (tSeq (tIfS (jJv (tOp rGt (tOp rIxF o0 tI0) tI0)) (tSeq (tAsg (tCB kXx (jJc (tOp rIxF o0 tI0) C1)) (gTup 2 (jKd (gSub o0 tI0 jV0) (jKd M2 gNil))))
 (tRet o2)) jJ5)
 (tSeq (tAsg (tOp jKz (tOp rIxF o0 tI2) tI1) (gSub o0 tI2 jV0))
 (tSeq (tAsg (tOp rMod (tOp jV1 (tOp jKz (tOp rIxF o0 tI1) (tOp jV1 (tC (.int 39373)) (tOp rIxF o0 tI2))) (tOp jKz (tC (.int 48271)) (tOp rIxF o0 tI2))) (tC (.int 2147483647))) M3)
 (tSeq (tAsg (tOp rMod (tOp jKz (tOp jV1 o3 (tOp jKz (tOp rMod o3 (tC (.int 40009))) (tC (.int 7)))) (tOp rIxF o0 tI2)) (tC (.int 2147483629))) (gSub o0 tI1 jV0))
 (tRet (tOp rMod (tOp uQj (tOp rMod (tOp jV1 (tOp rIxF o0 tI1) (tOp jKz (tOp rMod (tOp rIxF o0 tI1) (tC (.int 1009))) (tC (.int 3)))) (tC (.int 998244353))) (tC (.int 7))) o1))))))
theorem kXq:RdOk jJx kJf qYv:=by
 intro xs G Q h_;apply xe3 h_;clear h_;intro b m n;refine ae5 ?_;intro q0_ hn hm1 hm2 k;obtain⟨x,y,z,hb,hx,hy0,hy1,hz0,hz1⟩:=q0_;show kJf _ [some (.ref b),some (.int m),none,none] G
 exists kJf,jKp hb,qY3 hb
 have box:∀x' y' z':Int,0<=x'->0<=y'->y'<2147483648->0<=z'->z'<=n+1->BoxAt (gup G b (.lst [.int x',.int y',.int z'])) b (n+1):=λx' y' z' h1 h2 h3 h4 h5=>⟨x',y',z',jJg,h1,h2,h3,h4,by omega⟩
 split
 .refine⟨⟨by omega,by omega⟩,k _ _ (lVp _ (by omega)) (lVq _ (by omega)) (box _ _ _ (Int.ediv_nonneg hx (by omega)) hy0 hy1 hz0 (by omega)) .gup⟩
 .have a0:=lVp ((y+39373*(z+1))*(48271+(z+1))) (b:=2147483647) (by decide)
  have a1:=lVq ((y+39373*(z+1))*(48271+(z+1))) (b:=2147483647) (by decide)
  refine⟨.inl (by decide),.inr ⟨by omega,by omega⟩,by decide,by decide,?_⟩
  generalize (y+39373*(z+1))*(48271+(z+1))%2147483647=u at a0 a1 ⊢
  have b0:=lVp (u*(u%40009+7)+(z+1)) (b:=2147483629) (by decide)
  have b1:=lVq (u*(u%40009+7)+(z+1)) (b:=2147483629) (by decide)
  refine⟨.inl ⟨by omega,by omega⟩,by decide,by decide,?_⟩
  generalize (u*(u%40009+7)+(z+1))%2147483629=v at b0 b1 ⊢
  refine⟨.inl ⟨by omega,by omega⟩,by decide,⟨by decide,by decide⟩,by omega,?_⟩
  exact k _ _ (lVp _ (by omega)) (lVq _ (by omega)) (box _ _ _ hx b0 (by omega) (by omega) (by omega)) .gup
abbrev jQ4(ns:List Int):List T:=ns.map T.int
theorem sz:sizeLine=16777216:=PySem.sizeLine_eq
noncomputable def kQt:Sp3:=λxs G Q=>∃(c:Addr)(ns:List Int)(k:Int),xs=[.ref c,.int k]/\G c=some (.lst (jQ4 ns))/\ns.length<=63/\0<=k/\k<100/\∀p G',G p=none->BoxAt G' p 0->Sub G G'->Q (.ref p) G'
def uKs:List Str:=["_law_script","_law_k","_law_cell"]
noncomputable def kQ6:TS3:=
 (tSeq (tAsg (tOp rIxF (tOp jKz o0 (tOp jV1 (tLst (jJc tI0 tNil)) (tOp jKz o1 tI1))) o1) M2)
 (tRet (tLst (jJc (tOp jV1 (tCB rAbs C2) (tCB qK9 (jJc (tOp rGe (tCB rAbs C2) (tOp rPow (tC (.int 10)) (tC (.int 18)))) tNil))) (jJc (tOp rMod (tOp jV1 (tOp jKz (tOp jKz (tOp rMod o2 (tC (.int 2147483647))) (tOp jV1 (tC (.int 7919)) o1)) (tC (.int 11))) (tC (.int 48271))) (tC (.int 2147483629))) (jJc tI0 tNil))))))
theorem qJf:RdOk kQt kQ6 uKs:=by
 intro xs G Q h_;apply xe3 h_;clear h_;intro c ns k;refine ae5 ?_;intro hc hl hk0 hk1 kk;show kQ6 _ [some (.ref c),some (.int k),none] G
 have hs:=sz
 exists kQ6
 refine⟨by omega,λp hp=> ?_⟩
 have e1:mulR (gup G p (GO.lst [T.int 0])) (.ref p) (.int (k+1))=some (.newL (List.replicate (k+1).toNat [T.int 0]).flatten):=by
  simp only[mulR,jJg];rw[lJc];refine⟨?_,?_,?_⟩<;>simp<;>omega
 exists e1
 intro q hq;obtain⟨hqp,hq0⟩:=jJ4 hq;have hcp:=jJf hc hp;have hcq:=jJf hc hq0;have hc2:gup (gup G p (GO.lst [T.int 0])) q (GO.lst (List.replicate (k+1).toNat [T.int 0]).flatten) c=some (.lst (jQ4 ns)):=by rw[jJl hcq,jJl hcp];exact hc
 have hfl:(List.replicate (k+1).toNat [T.int 0]).flatten=List.replicate (k+1).toNat (T.int 0):=by
  induction (k+1).toNat with
  | zero=>rfl
  | succ n ih=>rw[lK8,lQ3,ih];rfl
 have e2:=qYr (q:=q) hc2 jJg (by rw[hfl];simp;omega)
 exists e2
 intro r hr;obtain⟨hrq,hr1⟩:=jJ4 hr;obtain⟨hrp,hr0⟩:=jJ4 hr1
 obtain⟨v,hv⟩:∃v:Int,L2.atI (jQ4 ns++(List.replicate (k+1).toNat [T.int 0]).flatten) k=some (.int v):=by
  rw[atZ hk0,hfl]
  by_cases h:k.toNat<ns.length
  .rw[lKe (by simpa using h)]
   exact⟨ns[k.toNat],by simp[h]⟩
  .rw[lQk (by simpa using h),lXk]
   exact⟨0,by rw[lJc];simp;omega⟩
 exists hv
 refine⟨⟨by decide,by decide,by decide⟩,.inr (by split<;>split<;>decide),by decide,.inl (by decide),.inr (by decide),by decide,by omega,λb hbn=> ?_⟩
 obtain⟨hbr,hb1⟩:=jJ4 hbn;obtain⟨hbq,hb2⟩:=jJ4 hb1;obtain⟨hbp,hb0⟩:=jJ4 hb2;refine kk b _ hb0 ⟨_,_,_,jJg,Int.mul_nonneg (by split<;>omega) (by split<;>split<;>decide),lVp _ (by decide),?_,Int.le_refl _,by simp⟩ ((((Sub.new hp).over hq0).over hr0).over hb0)
 have:=lVq ((v%2147483647+7919*k+11)*48271) (b:=2147483629) (by decide)
 omega
noncomputable def jX0:Sp3:=λxs G Q=>∃(ns:List Int)(m:Int),xs=[.scr (jQ4 ns),.int m]/\ns.length<=63/\1<=m/\m<=63/\∀p G' (ms:List Int),G p=none->G' p=some (.lst (jQ4 ms))->ms.length<=m.toNat->ms.length<=63->Sub G G'->Q (.ref p) G'
def qJ5:List Str:=["_law_script","_law_many","_law_cells","_law_k","_law_cell"]
noncomputable def jX5:TS3:=
 (tSeq (tAsg (tCB qK8 (jJc (tSl rSlF o0 kXj (qKi o1)) tNil)) M2)
 (tSeq (tFor (kJ0 (jJc (tSl rSlF o0 (qKi o1) (qKi (tC (.int 63)))) tNil)) (gTup 2 (jKd M3 (jKd M4 gNil))) (tAsg (tOp jKz (tOp rIxF o2 (tOp rMod o3 o1)) (tOp jV1 o4 (tOp jKz o3 tI2))) (gSub o2 (tOp rMod o3 o1) jV0)))
 (tRet o2)))
theorem kQ4:RdOk jX0 jX5 qJ5:=by
 intro xs G Q h_;apply xe2 h_;clear h_;intro ns m;refine ae4 ?_;intro hl hm1 hm2 kk;show jX5 _ [some (.scr (jQ4 ns)),some (.int m),none,none,none] G
 have hs:=sz
 exists jX5,tSl,rSlF,slR,kXj,qKi,qK8,kXw,jJ7,kJ0
 intro p hp p1 hp1;obtain⟨hpp,hp10⟩:=jJ4 hp1;intro q hq;obtain⟨hq1,hq2⟩:=jJ4 hq;obtain⟨hqp,hq0⟩:=jJ4 hq2
 obtain⟨cs,hcs,lcs⟩:∃cs:List Int,cutT (jQ4 ns) none (some m)=jQ4 cs/\cs.length=min m.toNat ns.length:=by
  refine⟨ns.take (min m.toNat ns.length),?_,by simp⟩
  simp only[cutT,HT.sIx,lJf,List.drop_zero,Nat.sub_zero];rw[lJb (by omega)]
  simp[lXy]
 obtain⟨rs,hrs,lrs⟩:∃rs:List Int,cutT (jQ4 ns) (some m) (some 63)=jQ4 rs/\(rs.length<=63/\(0<rs.length->m.toNat<=ns.length)):=by
  refine⟨(ns.drop (min m.toNat ns.length)).take (min 63 ns.length-min m.toNat ns.length),?_,?_,?_⟩
  .simp only[cutT,HT.sIx,lJf];simp only[show ¬ m<0 by omega,show ¬ (63:Int)<0 by decide,lJt]
   simp[lXy,List.map_drop]
  .simp;omega
  .simp;omega
 rw[hcs,hrs];refine⟨jQ4 rs,by simp only[jU2,jJg,asL],?_⟩
 refine⟨λi τ G'=>∃(v3 v4:Option T)(ms:List Int),τ=[some (.scr (jQ4 ns)),some (.int m),some (.ref p1),v3,v4]/\G' p1=some (.lst (jQ4 ms))/\ms.length=cs.length/\G' q=some (.lst (jQ4 rs))/\Sub G G',?_,?_,?_,?_⟩
 .refine⟨none,none,cs,rfl,by rw[jJl hq1.symm,jJg],rfl,jJg,(((Sub.new hp).over hp10).over hq0)⟩
 .intro i τ G' hi h_;apply xe3 h_;clear h_;intro v3 v4 ms;refine ae4 ?_;intro h1 h2 h3 h4;simp only[jU2,h3,asL]
 .intro i x τ G' hx h_;apply xe3 h_;clear h_;intro v3 v4 ms;refine ae4 ?_;intro h1 h2 h3 h4;have hi:i<rs.length:=by have:=(lJe.mp hx).1;simpa[jKm] using this
  have hri:(jQ4 rs)[i]? =some (.int rs[i]):=by simp[hi]
  rw[jVr hri] at hx;cases hx;have hml:=lrs.2 (by omega)
  have hk0:(0:Int)<=(i:Int)%m:=lVp _ (by omega)
  have hk1:(i:Int)%m<m:=lVq _ (by omega)
  have hk:((i:Int)%m).toNat<ms.length:=by omega
  have hat:L2.atI (jQ4 ms) ((i:Int)%m)=some (.int ms[((i:Int)%m).toNat]):=by rw[atZ hk0];simp[hk]
  have hix:L2.ixN (jQ4 ms).length ((i:Int)%m)=some ((i:Int)%m).toNat:=ixZ hk0 (by simp;omega)
  exists jKp h1,hat,jYh h1 hix
  refine⟨by omega,.inr ⟨by omega,by omega⟩,by omega,?_⟩
  exact⟨ms.set ((i:Int)%m).toNat (ms[((i:Int)%m).toNat]+rs[i]*((i:Int)+2)),by simp[jQ4,List.map_set],by simpa using h2,by rw[jJl hq1];exact h3,h4.over hp10⟩
 .intro τ G' h_;apply xe3 h_;clear h_;intro v3 v4 ms;refine ae4 ?_;intro h1 h2 h3 h4
  exists tSeq
  exact kk p1 G' ms hp10 h1 (by omega) (by omega) h4
abbrev Web:=List (List (Nat×Nat))
def encE(e:Nat×Nat):T:= .tup [.int e.1,.int e.2]
def encR(r:List (Nat×Nat)):T:= .tup (r.map encE)
def encW(W:Web):T:= .tup (W.map encR)
def en(W:Web)(r i:Nat):Option (Nat×Nat):=(W[r]?).bind λes=>es[i]?
def Sym(W:Web):Prop:=∀r i s j,en W r i=some (s,j)->en W s j=some (r,i)
def sw:Nat->Nat
 | 0=>1
 | 1=>0
 | n=>n
theorem uVc{n:Nat}(h:n<=2):sw (sw n)=n/\sw n<=2:=by
 have:n=0\/n=1\/n=2:=by omega
 rcases this with rfl | rfl | rfl<;>exact⟨rfl,by decide⟩
def RowsAt(G:Gp)(h:Addr)(Hs:Web)(rs:List Addr):Prop:=G h=some (.lst (rs.map T.ref))/\rs.length=Hs.length/\∀(i:Nat)(r:Addr),rs[i]? =some r->∃hs:List (Nat×Nat),Hs[i]? =some hs/\G r=some (.lst (hs.map encE))
theorem RowsAt.sub{G G':Gp}{h:Addr}{Hs:Web}{rs:List Addr}(s:Sub G G')(x:RowsAt G h Hs rs):RowsAt G' h Hs rs:=⟨s _ _ x.1,x.2.1,λi r e=>let ⟨hs,h1,h2⟩:=x.2.2 i r e;⟨hs,h1,s _ _ h2⟩⟩
structure JoinOk (Hs:Web):Prop where
 len:Hs.length<=1000
 row:∀(r:Nat)(hs:List (Nat×Nat)),Hs[r]? =some hs->hs.length<=1000
 inj:∀r i r' i' h,en Hs r i=some h->en Hs r' i'=some h->r=r'/\i=i'
 part:∀r i t s,en Hs r i=some (t,s)->s<=2/\∃r' i',en Hs r' i'=some (t,sw s)
def keyE(e:Nat×Nat):L2.TKey:=[.inl (.inl (e.1:Int)),.inl (.inl (e.2:Int))]
theorem qXu{a b:Nat×Nat}(h:keyE a=keyE b):a=b:=by
 obtain⟨a1,a2⟩:=a;obtain⟨b1,b2⟩:=b;simp only[keyE,List.cons.injEq,Sum.inl.injEq,and_true] at h;obtain⟨h1,h2⟩:=h;rw[Int.ofNat.inj h1,Int.ofNat.inj h2]
theorem kK8{a b:Int}:jVy [.int a,.int b]=some [.inl (.inl a),.inl (.inl b)]:=rfl
theorem kQj{κ:Type}[DecidableEq κ](kvs:List (κ×T))(k j:κ)(v:T):valT (putT kvs k v) j=if k=j then some v else valT kvs j:=by
 unfold putT valT
 by_cases h:(kvs.any λkv=>decide (kv.1=k))=true
 .rw[lJc h]
  induction kvs with
  | nil=>simp at h
  | cons p ps ih=>
   rw[lJv,lKm,lKm]
   by_cases hp:p.1=k
   .rw[lJc hp]
    by_cases hj:k=j
    .simp[hp,hj]
    .have h1:¬ p.1=j:=λz=>hj (hp.symm.trans z)
     simp only[h1,decide_false,hj,lJt]
     by_cases h2:(ps.any λkv=>decide (kv.1=k))=true
     .have:=ih h2;rw[lJb hj] at this;exact this
     .have hm:ps.map (λkv=>if kv.1=k then (kv.1,v) else kv)=ps:=by
       rw[lXz (g:=id)];· simp
       intro a ha;have:¬ a.1=k:=λz=>h2 (lX0.mpr ⟨a,ha,by simp[z]⟩)
       simp[this]
      rw[hm]
   .rw[lJb hp]
    have h2:(ps.any λkv=>decide (kv.1=k))=true:=by
     rw[lK3,lJo hp,Bool.false_or] at h;exact h
    have:=ih h2
    by_cases hj:p.1=j
    .have:¬ k=j:=λz=>hp (hj.trans z.symm)
     simp[hj,this]
    .simp only[hj,decide_false];exact this
 .rw[lJb h,List.find?_append]
  have hn:(kvs.find? λkv=>decide (kv.1=j))=none\/∃p,(kvs.find? λkv=>decide (kv.1=j))=some p:=by
   cases kvs.find? λkv=>decide (kv.1=j) with
   | none=>exact .inl rfl
   | some p=>exact .inr ⟨p,rfl⟩
  by_cases hj:k=j
  .subst hj
   have:(kvs.find? λkv=>decide (kv.1=k))=none:=by
    rw[List.find?_eq_none];intro a ha z;exact h (lX0.mpr ⟨a,ha,z⟩)
   simp[this]
  .rcases hn with e | ⟨p,e⟩
   .simp[e,hj]
   .simp[e,hj]
theorem kY5{κ:Type}[DecidableEq κ](kvs:List (κ×T))(k:κ)(v:T):(putT kvs k v).length<=kvs.length+1:=by
 unfold putT;split<;>simp
theorem uKg{G:Gp}{p:Addr}{kvs:List (L2.TKey×T)}{ys:List T}{ks:L2.TKey}(h:G p=some (.dct kvs))(hk:jVy ys=some ks):dAt G (.ref p) (.tup ys)=some (valT kvs ks):=by simp only[dAt,h,hk]
theorem uJy{G:Gp}{p:Addr}{kvs:List (L2.TKey×T)}{ys:List T}{ks:L2.TKey}{t:T}(h:G p=some (.dct kvs))(hk:jVy ys=some ks)(ht:valT kvs ks=some t):ixR G (.ref p) (.tup ys)=some t:=by
 simp only[ixR,seqT,h,asL,uKg h hk,ht]
theorem kQw{G:Gp}{p:Addr}{kvs:List (L2.TKey×T)}{ys:List T}{ks:L2.TKey}{v:T}(h:G p=some (.dct kvs))(hk:jVy ys=some ks)(hz:kvs.length<sizeLine):setR G (.ref p) (.tup ys) v=some (gup G p (.dct (putT kvs ks v))):=by
 simp only[setR,h,hk,hz,lJ7]
theorem jKv{W:Web}{r i:Nat}{e:Nat×Nat}(h:en W r i=some e):∃es,W[r]? =some es/\es[i]? =some e:=by
 unfold en at h;cases e1:W[r]? with
 | none=>rw[e1] at h;cases h
 | some es=>rw[e1] at h;exact⟨es,rfl,h⟩
theorem jV2{W:Web}{r i:Nat}{es:List (Nat×Nat)}{e:Nat×Nat}(h1:W[r]? =some es)(h2:es[i]? =some e):en W r i=some e:=by unfold en;rw[h1];exact h2
structure Joined (Hs W:Web):Prop where
 len:W.length=Hs.length
 row:∀(r:Nat)(hs:List (Nat×Nat)),Hs[r]? =some hs->∃es,W[r]? =some es/\es.length=hs.length
 to:∀r i t sd s j,en Hs r i=some (t,sd)->en Hs s j=some (t,sw sd)->en W r i=some (s,j)
theorem Joined.sym{Hs W:Web}(J:Joined Hs W)(ok:JoinOk Hs):Sym W:=by
 intro r i s j h;obtain⟨es,h1,h2⟩:=jKv h;have hr:r<Hs.length:=by rw[<-J.len];exact (lJe.mp h1).1
 obtain⟨es',h3,h4⟩:=J.row r _ (lJh hr);rw[h1] at h3;cases h3;have hi:i<Hs[r].length:=by rw[<-h4];exact (lJe.mp h2).1
 have e1:en Hs r i=some (Hs[r][i]):=jV2 (lJh hr) (lJh hi)
 generalize Hs[r][i]=e0 at e1
 obtain⟨t,sd⟩:=e0;obtain⟨hsd,r',i',e2⟩:=ok.part r i t sd e1;have e3:=J.to r i t sd r' i' e1 e2;rw[h] at e3;cases e3;refine J.to s j t (sw sd) r i e2 ?_;rw[(uVc hsd).1];exact e1
open Classical in
def oth(Hs:Web)(e:Nat×Nat):Nat×Nat:=if h:∃p:Nat×Nat,en Hs p.1 p.2=some (e.1,sw e.2) then h.choose else (0,0)
theorem qY7{Hs:Web}{e:Nat×Nat}{r i:Nat}(h:en Hs r i=some (e.1,sw e.2)):en Hs (oth Hs e).1 (oth Hs e).2=some (e.1,sw e.2):=by
 unfold oth;have:∃p:Nat×Nat,en Hs p.1 p.2=some (e.1,sw e.2):=⟨(r,i),h⟩
 rw[dif_pos this];exact this.choose_spec
theorem qJq{Hs:Web}(ok:JoinOk Hs):Joined Hs (Hs.map (List.map (oth Hs))) where
 len:=by simp
 row:=λr hs h=>⟨hs.map (oth Hs),by simp[h],by simp⟩
 to:=λr i t sd s j h1 h2=>by
  obtain⟨es,q1,q2⟩:=jKv h1;have:en (Hs.map (List.map (oth Hs))) r i=some (oth Hs (t,sd)):=jV2 (es:=es.map (oth Hs)) (by simp[q1]) (by simp[q2])
  rw[this];have h3:=qY7 (e:=(t,sd)) h2;obtain⟨z1,z2⟩:=ok.inj _ _ _ _ _ h3 h2;rw[<-z1,<-z2]
def jXz:Sp3:=λxs G Q=>∃(h:Addr)(Hs:Web)(rs:List Addr),xs=[.ref h]/\RowsAt G h Hs rs/\JoinOk Hs/\∀G' W,Sub G G'->Joined Hs W->Q (encW W) G'
def qJ4:List Str:=["_law_halves","_law_at","_law_room","_law_door","_law_half","_law_web_here","_law_doors","_law_tie","_law_side"]
noncomputable def jX4:TS3:=
 (tSeq (tAsg jZ5 M1)
 (tSeq (tFor (jK9 (jJc (tCB rLen C0) tNil)) M2 (tFor (kJ0 (jJc (tOp rIxF o0 o2) tNil)) (gTup 2 (jKd M3 (jKd M4 gNil))) (tAsg (tTup (jJc o2 C3)) (gSub o1 o4 jV0))))
 (tSeq (tAsg (tLst tNil) M5)
 (tSeq (tFor (iSeq o0) M6 (jQm (tBM "list" jQo o5 (jJc (tCB jK3 (jJc (jQx [fF,fF,fF,fF,fF,fF,fF,tT,tT] (iSeq o6) (gTup 2 (jKd M7 (jKd M8 gNil))) jXx (tOp rIxF o1 (tTup (jJc o7 (jJc (tOp rIxF (tLst (jJc tI1 (jJc tI0 (jJc tI2 tNil)))) o8) tNil))))) tNil)) tNil))))
 (tRet (tCB jK3 C5))))))
def Tab(Hs:Web)(kvs:List (L2.TKey×T))(done:Nat->Nat->Prop):Prop:=∀r i e,en Hs r i=some e->done r i->valT kvs (keyE e)=some (encE (r,i))
theorem kYx{n i:Nat}{x:T}(h:(rngT 0 n)[i]? =some x):i<n/\x= .int i:=by
 unfold rngT at h;rw[lJr] at h
 have hi:i<n:=by
  rcases lKd i n with z | z
  .exact z
  .rw[lJz (by simpa using z)] at h;cases h
 simp[hi] at h;exact⟨hi,h.symm⟩
theorem jUc{n:Nat}:(rngT 0 n).length=n:=by simp[rngT]
theorem kQ3:RdOk jXz jX4 qJ4:=by
 intro xs G Q h_;apply xe3 h_;clear h_;intro h Hs rs;refine ae3 ?_;intro q0_ ok kk;obtain⟨hh,hlen,hrow⟩:=q0_;show jX4 _ [some (.ref h),none,none,none,none,none,none,none,none] G
 have hs:=sz;have hL:=ok.len
 exists jX4,jZ5,jJ7,jK9
 refine .inl λd hd=> ?_
 have hhd:=jJf hh hd;have hrl:(rs.map T.ref).length=Hs.length:=by simp[hlen]
 refine⟨rs.map T.ref,by simp only[seqT,jJl hhd,hh,asL],by rw[hrl];omega,by rw[hrl];omega,?_⟩
 rw[hrl,show ((Hs.length:Int)).toNat=Hs.length by omega]
 refine⟨λr τ G'=>∃(v2 v3 v4:Option T)(kvs:List (L2.TKey×T)),τ=[some (.ref h),some (.ref d),v2,v3,v4,none,none,none,none]/\G' d=some (.dct kvs)/\kvs.length<=1000*r/\Tab Hs kvs (λr' _=>r'<r)/\Sub G G',?_,?_,?_,?_⟩
 .exact⟨none,none,none,[],rfl,jJg,lJ0 _,λr i e _ z=>absurd z (lK4 _),.new hd⟩
 .intros;trivial
 .intro r x τ G1 hx h_;apply xe4 h_;clear h_;intro v2 v3 v4 kvs;refine ae4 ?_;intro hdk hkl tab sb;obtain⟨hr,rfl⟩:=kYx hx;have hri:r<rs.length:=by omega
  obtain⟨hs',hH,hG⟩:=hrow r rs[r] (lJh hri);have hh1:=sb _ _ hh;have hG1:=sb _ _ hG;have hat:L2.atI (rs.map T.ref) (r:Int)=some (.ref rs[r]):=by rw[atN];simp[hri]
  have hrow1000:=ok.row r hs' hH
  exists jJ7,kJ0,jKp hh1,hat
  refine⟨hs'.map encE,by simp only[jU2,hG1,asL],?_⟩
  refine⟨λi τ G'=>∃(v3 v4:Option T)(kvs:List (L2.TKey×T)),τ=[some (.ref h),some (.ref d),some (.int r),v3,v4,none,none,none,none]/\G' d=some (.dct kvs)/\kvs.length<=1000*r+i/\Tab Hs kvs (λr' i'=>r'<r\/(r'=r/\i'<i))/\Sub G G',?_,?_,?_,?_⟩
  .exact⟨v3,v4,kvs,rfl,hdk,hkl,λr' i' e he hd'=>tab r' i' e he (by rcases hd' with z | ⟨_,z⟩;exact z;exact absurd z (lK4 _)),sb⟩
  .intro i τ G' hi h_;apply xe3 h_;clear h_;intro v3 v4 kvs;refine ae4 ?_;intro h1 h2 h3 h4;simp only[jU2,h4 _ _ hG,asL]
  .intro i x τ G2 hx h_;apply xe3 h_;clear h_;intro v3 v4 kvs;refine ae4 ?_;intro h1 h2 h3 h4;have hi:i<hs'.length:=by have:=(lJe.mp hx).1;simpa[jKm] using this
   have hri2:(hs'.map encE)[i]? =some (encE hs'[i]):=by simp[hi]
   rw[jVr hri2] at hx;cases hx;have hz:kvs.length<sizeLine:=by omega
   exists encE,kQw h1 kK8 hz
   refine⟨by omega,?_⟩
   refine⟨putT kvs (keyE hs'[i]) (encE (r,i)),rfl,by have:=kY5 kvs (keyE hs'[i]) (encE (r,i));omega,λr' i' e he hd'=> ?_,h4.over hd⟩
   show valT (putT kvs (keyE hs'[i]) _) (keyE e)=_
   rw[kQj];have eri:en Hs r i=some hs'[i]:=jV2 hH (lJh hi)
   by_cases hk:keyE hs'[i]=keyE e
   .rw[lJc hk];have:=qXu hk;subst this;obtain⟨z1,z2⟩:=ok.inj _ _ _ _ _ eri he;subst z1;subst z2;rfl
   .rw[lJb hk];refine h3 r' i' e he ?_
    rcases hd' with z | ⟨z1,z2⟩
    .exact .inl z
    .subst z1
     by_cases hii:i'=i
     .subst hii;rw[eri] at he;cases he;exact absurd rfl hk
     .exact .inr ⟨rfl,by omega⟩
  .intro τ G' h_;apply xe3 h_;clear h_;intro v3 v4 kvs;refine ae4 ?_;intro h1 h2 h3 h4;refine⟨some (.int r),v3,v4,rfl,kvs,h1,?_,λr' i' e he hd'=>h3 r' i' e he ?_,h4⟩
   .simp only[jKm,lJf] at h2;omega
   .rcases lKd r' r with z | z
    .exact .inl z
    .have:r'=r:=by omega
     subst this;obtain⟨es,q1,q2⟩:=jKv he;rw[hH] at q1;cases q1;exact .inr ⟨rfl,by simpa[jKm] using (lJe.mp q2).1⟩
 .intro τ G1 h_;apply xe4 h_;clear h_;intro v2 v3 v4 kvs;refine ae4 ?_;intro hdk hkl tab sb;rw[jUc] at tab
  exists jJ7,iSeq
  refine⟨lJ0 _,λw hw=> ?_⟩
  have hdw:=jJf hdk hw;have hhw:=jJf (sb _ _ hh) hw;refine⟨rs.map T.ref,by simp only[seqT,jJl hhw,sb _ _ hh,asL],?_⟩
  refine⟨λi τ G'=>∃(v6:Option T),τ=[some (.ref h),some (.ref d),v2,v3,v4,some (.ref w),v6,none,none]/\G' w=some (.lst ((Hs.take i).map λhs=>encR (hs.map (oth Hs))))/\Sub G1 G',?_,?_,?_,?_⟩
  .exact⟨none,rfl,by simp[jJg],.new hw⟩
  .intro i τ G' hi h_;apply xe1 h_;clear h_;intro v6;refine ae2 ?_;intro h1 h2;simp only[seqT,h2 _ _ (sb _ _ hh),asL]
  .intro i x τ G2 hx0 h_;apply xe1 h_;clear h_;intro v6;refine ae2 ?_;intro h1 h2;obtain⟨ra,hx,rfl⟩:=jK4 hx0;obtain⟨hs',hH,hG⟩:=hrow i ra hx;have hG2:=h2 _ _ (sb _ _ hG);have hrow1000:=ok.row i hs' hH
   exists iSeq,jKx h1
   refine⟨hs'.map encE,jJo hG2,?_⟩;refine jQ2 (λe=>encE (oth Hs e)) (by omega) (λG' s=>jJo (s _ _ hG2)) ?_ ?_
   .intro j e he G' K K0 s hk;obtain⟨t,sd⟩:=e;have hen:=jV2 hH he;obtain⟨hsd,r',i',e2⟩:=ok.part _ _ _ _ hen;have hv:=qY7 (e:=(t,sd)) e2;have hr':(oth Hs (t,sd)).1<List.length Hs:=by obtain⟨es,q1,q2⟩:=jKv hv;exact (lJe.mp q1).1
    have ht:=tab _ _ _ hv hr';have hd3:=s _ _ (h2 _ _ hdk)
    exists encE
    refine⟨by omega,λp hp=> ?_⟩
    have hdp:=jJf hd3 hp
    have hsw:L2.atI [T.int 1,T.int 0,T.int 2] (sd:Int)=some (.int (sw sd:Int)):=by
     have:sd=0\/sd=1\/sd=2:=by omega
     rcases this with rfl | rfl | rfl<;>rw[atN]<;>rfl
    refine⟨_,hsw,by omega,_,uJy (ks:=[.inl (.inl (t:Int)),.inl (.inl (sw sd:Int))]) (by rw[jJl hdp];exact hd3) kK8 ht,hk _ (.new hp)⟩
   .intro D G3 hD h3 h4
    exists jJo h3,h4 _ _ h1
    refine⟨by simp;omega,?_,((h2.trans h4).over hw)⟩
    rw[lV3,hH];simp[encR]
  .intro τ G' h_;apply xe1 h_;clear h_;intro v6;refine ae2 ?_;intro h1 h2
   exists jJo h1
   have e1:(Hs.take (rs.map T.ref).length).map (λhs=>encR (hs.map (oth Hs)))=(Hs.map (List.map (oth Hs))).map encR:=by
    rw[hrl,lVl,lKf];rfl
   rw[e1];exact kk G' _ (sb.trans h2) (qJq ok)
theorem BoxAt.mono{G:Gp}{b:Addr}{n m:Nat}(h:BoxAt G b n)(hm:n<=m):BoxAt G b m:=by
 obtain⟨x,y,z,h1,h2,h3,h4,h5,h6⟩:=h;exact⟨x,y,z,h1,h2,h3,h4,h5,by omega⟩
theorem BoxAt.some{G:Gp}{b:Addr}{n:Nat}(h:BoxAt G b n):∃o,G b=some o:=by
 obtain⟨x,y,z,h1,_⟩:=h;exact⟨_,h1⟩
theorem BoxAt.sub{G G':Gp}{b:Addr}{n:Nat}(h:BoxAt G b n)(s:Sub G G'):BoxAt G' b n:=by
 obtain⟨x,y,z,h1,h2,h3,h4,h5,h6⟩:=h;exact⟨x,y,z,s _ _ h1,h2,h3,h4,h5,h6⟩
theorem BoxAt.gup{G:Gp}{b p:Addr}{n:Nat}{o:GO}(h:BoxAt G b n)(hp:b≠p):BoxAt (gup G p o) b n:=by
 obtain⟨x,y,z,h1,h2,h3,h4,h5,h6⟩:=h;exact⟨x,y,z,by rw[jJl hp];exact h1,h2,h3,h4,h5,h6⟩
theorem Keep.sub{b:Addr}{G G':Gp}(h:Sub G G'):Keep b G G':=λc o _ e=>h c o e
theorem Keep.over{b p:Addr}{G G':Gp}{o:GO}(h:Keep b G G')(hp:G p=none):Keep b G (L3.gup G' p o):=λc u hc e=>by rw[jJl];exact h c u hc e;rintro rfl;rw[hp] at e;cases e
theorem RowsAt.keep{b:Addr}{G G':Gp}{h:Addr}{Hs:Web}{rs:List Addr}(s:Keep b G G')(hb:b∉h::rs)(x:RowsAt G h Hs rs):RowsAt G' h Hs rs:=by
 simp only[lJk,not_or] at hb;exact⟨s _ _ (Ne.symm hb.1) x.1,x.2.1,λi r e=>let ⟨hs,h1,h2⟩:=x.2.2 i r e;⟨hs,h1,s _ _ (by rintro rfl;exact hb.2 (lJm e)) h2⟩⟩
theorem RowsAt.set{G:Gp}{h:Addr}{Hs:Web}{rs:List Addr}{r:Nat}{a:Addr}{hs':List (Nat×Nat)}(x:RowsAt G h Hs rs)(hn:(h::rs).Nodup)(hr:rs[r]? =some a):RowsAt (gup G a (.lst (hs'.map encE))) h (Hs.set r hs') rs:=by
 rw[lKk] at hn;have hrl:r<rs.length:=(lJe.mp hr).1;refine⟨by rw[jJl];exact x.1;rintro rfl;exact hn.1 (lJm hr),by rw[lQt];exact x.2.1,λi c e=> ?_⟩
 by_cases hi:i=r
 .subst hi;rw[hr] at e;cases e;exact⟨hs',by rw[lKi];rw[<-x.2.1];exact hrl,jJg⟩
 .obtain⟨hs,h1,h2⟩:=x.2.2 i c e;refine⟨hs,by rw[lKh (Ne.symm hi)];exact h1,?_⟩
  rw[jJl];exact h2;rintro rfl;have hil:i<rs.length:=(lJe.mp e).1;exact hi ((lVn hil hn.2).mp (e.trans hr.symm))
def hv(n t:Nat)(p:Nat×Nat):List (Nat×Nat×Nat):=if p.2=n then [(p.1,t,2)] else [(p.1,t,0),(p.2,t,1)]
def hvs(P:List (Nat×Nat))(n k:Nat):List (Nat×Nat×Nat):=(List.range k).flatMap λt=>match P[t]? with
 | some p=>hv n t p
 | none=>[]
theorem jVw{P:List (Nat×Nat)}{n k:Nat}{p:Nat×Nat}(h:P[k]? =some p):hvs P n (k+1)=hvs P n k++hv n k p:=by
 unfold hvs;rw[lKn,lV7];simp[h]
theorem kQc{n t:Nat}{p:Nat×Nat}{r t' s:Nat}(h:(r,t',s)∈hv n t p):t'=t/\s<=2/\((p.2=n/\s=2/\r=p.1)\/(p.2≠n/\s=0/\r=p.1)\/(p.2≠n/\s=1/\r=p.2)):=by
 unfold hv at h;split at h
 .rename_i hp;simp at h;obtain⟨rfl,rfl,rfl⟩:=h;exact⟨rfl,by omega,.inl ⟨hp,rfl,rfl⟩⟩
 .rename_i hp;simp at h
  rcases h with ⟨rfl,rfl,rfl⟩ | ⟨rfl,rfl,rfl⟩
  .exact⟨rfl,by omega,.inr (.inl ⟨hp,rfl,rfl⟩)⟩
  .exact⟨rfl,by omega,.inr (.inr ⟨hp,rfl,rfl⟩)⟩
theorem kJ2{P:List (Nat×Nat)}{n k:Nat}{r t s:Nat}(h:(r,t,s)∈hvs P n k):∃p,P[t]? =some p/\t<k/\(r,t,s)∈hv n t p:=by
 unfold hvs at h;rw[lQx] at h;obtain⟨t',h1,h2⟩:=h;cases e:P[t']? with
 | none=>rw[e] at h2;cases h2
 | some p=>
  rw[e] at h2;have h2:(r,t,s)∈hv n t' p:=h2;have ht:=(kQc h2).1;subst ht;exact⟨p,e,lJ3.mp h1,h2⟩
theorem kZi{P:List (Nat×Nat)}{n k:Nat}{r t s:Nat}{p:Nat×Nat}(h:P[t]? =some p)(hk:t<k)(hm:(r,t,s)∈hv n t p):(r,t,s)∈hvs P n k:=by
 unfold hvs;rw[lQx];exact⟨t,lJ3.mpr hk,by rw[h];exact hm⟩
theorem kJ1{P:List (Nat×Nat)}{n:Nat}:∀k,((hvs P n k).map λx=>x.2).Nodup
 | 0=>by simp[hvs]
 | k+1=>by
  cases e:P[k]? with
  | none=>
   have:hvs P n (k+1)=hvs P n k:=by unfold hvs;rw[lKn,lV7];simp[e]
   rw[this];exact kJ1 k
  | some p=>
   rw[jVw e,lQ5,lQa];refine⟨kJ1 k,by unfold hv;split<;>simp,?_⟩
   intro a ha b hb;obtain⟨⟨r,t,s⟩,h1,rfl⟩:=lJy.mp ha;obtain⟨⟨r',t',s'⟩,h2,rfl⟩:=lJy.mp hb;obtain⟨_,_,h3,_⟩:=kJ2 h1;have h4:=(kQc h2).1;intro z;have:t=t':=lJx Prod.fst z;omega
theorem kUe{P:List (Nat×Nat)}{n:Nat}:∀k,(hvs P n k).length<=2*k
 | 0=>by simp[hvs]
 | k+1=>by
  have ih:=kUe (P:=P) (n:=n) k;cases e:P[k]? with
  | none=>
   have:hvs P n (k+1)=hvs P n k:=by unfold hvs;rw[lKn,lV7];simp[e]
   rw[this];omega
  | some p=>
   rw[jVw e,lJ9];have:(hv n k p).length<=2:=by unfold hv;split<;>simp
   omega
structure HalfL (L:List (Nat×Nat×Nat)) (n:Nat) (Hs:Web):Prop where
 len:Hs.length=n
 perm:∀(r:Nat)(hs:List (Nat×Nat)),Hs[r]? =some hs->hs.Perm ((L.filter λx=>x.1 == r).map λx=>x.2)
theorem ins_perm{α:Type}{xs:List α}{k:Nat}{y:α}:(xs.take k++y::xs.drop k).Perm (xs++[y]):=by
 have h1:(xs.take k++y::xs.drop k).Perm (y::(xs.take k++xs.drop k)):=List.perm_middle;rw[List.take_append_drop] at h1;exact h1.trans (List.perm_append_comm (l₁:=[y]) (l₂:=xs))
theorem HalfL.ins{L:List (Nat×Nat×Nat)}{n:Nat}{Hs:Web}{r k:Nat}{hs:List (Nat×Nat)}{e:Nat×Nat}(h:HalfL L n Hs)(hr:Hs[r]? =some hs):HalfL (L++[(r,e)]) n (Hs.set r (hs.take k++e::hs.drop k)) where
 len:=by rw[lQt];exact h.len
 perm:=λr' hs' h'=>by
  have hrl:r<Hs.length:=(lJe.mp hr).1;rw[List.filter_append,lQ5]
  by_cases hi:r'=r
  .subst hi;rw[lKi hrl] at h';cases h';have:=h.perm r' hs hr;refine ins_perm.trans ?_;simp;exact this.append_right [e]
  .rw[lKh (Ne.symm hi)] at h';have:=h.perm r' hs' h';have hne:¬ r=r':=λz=>hi z.symm
   simp[hne];exact this
theorem HalfL.mem{L:List (Nat×Nat×Nat)}{n:Nat}{Hs:Web}{r i:Nat}{e:Nat×Nat}(h:HalfL L n Hs)(he:en Hs r i=some e):(r,e)∈L:=by
 obtain⟨es,h1,h2⟩:=jKv he;have:=(h.perm r es h1).mem_iff.mp (lJm h2);obtain⟨⟨r',e'⟩,h3,rfl⟩:=lJy.mp this;obtain⟨h4,h5⟩:=lQi.mp h3;have:r'=r:=by simpa using h5
 subst this;exact h4
theorem HalfL.of{L:List (Nat×Nat×Nat)}{n:Nat}{Hs:Web}{r:Nat}{e:Nat×Nat}(h:HalfL L n Hs)(hr:r<n)(he:(r,e)∈L):∃i,en Hs r i=some e:=by
 have hrl:r<Hs.length:=by rw[h.len];exact hr
 have h1:Hs[r]? =some Hs[r]:=lJh hrl;have:e∈Hs[r]:=(h.perm r _ h1).mem_iff.mpr (lJy.mpr ⟨(r,e),lQi.mpr ⟨he,by simp⟩,rfl⟩)
 obtain⟨i,hi⟩:=lJ4 this;exact⟨i,jV2 h1 hi⟩
def kUs(P:List (Nat×Nat))(n:Nat):Prop:=∀p,p∈P->p.1<n/\p.2<=n
theorem HalfL.ok{P:List (Nat×Nat)}{n:Nat}{Hs:Web}(h:HalfL (hvs P n P.length) n Hs)(hp:kUs P n)(hn:n<=1000)(hl:P.length<=500):JoinOk Hs where
 len:=by rw[h.len];exact hn
 row:=λr hs hr=>by
  rw[(h.perm r hs hr).length_eq,lJf];have h1:=lVo (λx:Nat×Nat×Nat=>x.1 == r) (hvs P n P.length)
  have h2:=kUe (P:=P) (n:=n) P.length;omega
 inj:=λr i r' i' e h1 h2=>by
  obtain⟨t,s⟩:=e;obtain⟨p,q1,q2,q3⟩:=kJ2 (h.mem h1);obtain⟨p',q1',q2',q3'⟩:=kJ2 (h.mem h2);rw[q1] at q1';cases q1';have m1:=(kQc q3).2.2;have m2:=(kQc q3').2.2
  have hrr:r=r':=by
   rcases m1 with ⟨a,b,c⟩ | ⟨a,b,c⟩ | ⟨a,b,c⟩<;>rcases m2 with ⟨a',b',c'⟩ | ⟨a',b',c'⟩ | ⟨a',b',c'⟩<;>omega
  subst hrr;refine⟨rfl,?_⟩;obtain⟨es,z1,z2⟩:=jKv h1;obtain⟨es',z3,z4⟩:=jKv h2;rw[z1] at z3;cases z3
  have nd:es.Nodup:=by
   rw[(h.perm r es z1).nodup_iff];exact (lYx.map _).nodup (kJ1 _)
  exact (lVn (lJe.mp z2).1 nd).mp (z2.trans z4.symm)
 part:=λr i t s h1=>by
  obtain⟨p,q1,q2,q3⟩:=kJ2 (h.mem h1);obtain⟨_,h2,m⟩:=kQc q3;refine⟨h2,?_⟩;have hpp:=hp p (lJm q1)
  rcases m with ⟨a,rfl,c⟩ | ⟨a,rfl,c⟩ | ⟨a,rfl,c⟩
  .exact⟨r,i,h1⟩
  .obtain⟨i',h3⟩:=h.of (r:=p.2) (e:=(t,1)) (by omega) (kZi q1 q2 (by unfold hv;rw[lJb a];simp))
   exact⟨p.2,i',h3⟩
  .obtain⟨i',h3⟩:=h.of (r:=p.1) (e:=(t,0)) (by omega) (kZi q1 q2 (by unfold hv;rw[lJb a];simp))
   exact⟨p.1,i',h3⟩
structure Made (P:List (Nat×Nat)) (n:Nat) (W:Web):Prop where
 len:W.length=n
 sym:Sym W
 deg:∀(r:Nat)(es:List (Nat×Nat)),W[r]? =some es->es.length=((hvs P n P.length).filter λx=>x.1 == r).length
 tie:∀p,p∈P->p.2<n->∃i j,en W p.1 i=some (p.2,j)
theorem uJo{P:List (Nat×Nat)}{n:Nat}{Hs W:Web}(h:HalfL (hvs P n P.length) n Hs)(hp:kUs P n)(ok:JoinOk Hs)(J:Joined Hs W):Made P n W where
 len:=by rw[J.len,h.len]
 sym:=J.sym ok
 deg:=λr es hr=>by
  have hrl:r<Hs.length:=by rw[<-J.len];exact (lJe.mp hr).1
  obtain⟨es',h1,h2⟩:=J.row r _ (lJh hrl);rw[hr] at h1;cases h1;rw[h2,(h.perm r _ (lJh hrl)).length_eq,lJf]
 tie:=λp hpm hpn=>by
  obtain⟨t,ht⟩:=lJ4 hpm;have htl:t<P.length:=(lJe.mp ht).1;have hne:¬ p.2=n:=by omega
  obtain⟨i,h1⟩:=h.of (r:=p.1) (e:=(t,0)) (hp p hpm).1 (kZi ht htl (by unfold hv;rw[lJb hne];simp))
  obtain⟨j,h2⟩:=h.of (r:=p.2) (e:=(t,1)) hpn (kZi ht htl (by unfold hv;rw[lJb hne];simp))
  exact⟨i,j,J.to _ _ _ _ _ _ h1 h2⟩
theorem Keep.none{b p:Addr}{G G':Gp}(h:Keep b G G')(hb:p≠b)(hp:G' p=none):G p=none:=by
 cases e:G p with
 | none=>rfl
 | some o=>rw[h p o hb e] at hp;cases hp
theorem qXx{xs:List (Nat×Nat)}{k:Nat}{y:Nat×Nat}:insT (xs.map encE) k (encE y)=(xs.take k++y::xs.drop k).map encE:=by simp[insT,lXy,List.map_drop]
theorem HalfL.len_le{L:List (Nat×Nat×Nat)}{n:Nat}{Hs:Web}{r:Nat}{hs:List (Nat×Nat)}(h:HalfL L n Hs)(hr:Hs[r]? =some hs):hs.length<=L.length:=by
 rw[(h.perm r hs hr).length_eq,lJf];exact lVo _ _
theorem kJ8{E:Ends3}{G G2:Gp}{b D p:Addr}{rs:List Addr}{n k m':Nat}{S:List (Nat×Nat)}{L:List (Nat×Nat×Nat)}{Hs:Web}{w1 w2 w5 w6 w8 w9:Option T}
  (h1:HalfL L n Hs) (h2:RowsAt G2 D Hs rs) (h3:BoxAt G2 b m') (h4:Keep b G G2) (hnd:(D::rs).Nodup) (hbn:b∉D::rs) (hfr:∀r,r∈D::rs->G r=none) (hp:G2 p=some (.lst (S.map encE))) (hpn:p∉D::rs) (hpb:p≠b) (hS:∀x,x∈S->x.1<n) (hm:m'+S.length<2^40) (hL:L.length+S.length<10000)
  (kk:∀G' Hs' v8 v9,HalfL (L++S.map λx=>(x.1,k,x.2)) n Hs'->RowsAt G' D Hs' rs->BoxAt G' b (m'+S.length)->Keep b G G'->E.nx [some (.ref b),w1,w2,some (.ref D),some (.int k),w5,w6,some (.ref p),v8,v9] G'):
  uKu (gTup 2 (jKd M8 (jKd M9 gNil))) (jQm (tBM "list" kJj (tOp rIxF o3 o8) (jJc (jJq jJx (jJc o0 (jJc (tOp jKz (tCB rLen (jJc (tOp rIxF o3 o8) tNil)) (tC (T.int 1))) tNil))) (jJc (tTup (jJc o4 C9)) tNil)))) E
   [some (.ref b),w1,w2,some (.ref D),some (.int k),w5,w6,some (.ref p),w8,w9] (S.map encE) (λG'=>seqT G' (.ref p)=some (S.map encE)) G2:=by
 have hs:=sz;refine⟨λj τ G'=>∃(v8 v9:Option T)(Hs:Web),τ=[some (.ref b),w1,w2,some (.ref D),some (.int k),w5,w6,some (.ref p),v8,v9]/\HalfL (L++(S.take j).map λx=>(x.1,k,x.2)) n Hs/\RowsAt G' D Hs rs/\BoxAt G' b (m'+j)/\Keep b G G'/\G' p=some (.lst (S.map encE)),?_,?_,?_,?_⟩
 .exact⟨w8,w9,Hs,rfl,by simpa using h1,h2,h3,h4,hp⟩
 .intro j τ G' hj h_;apply xe3 h_;clear h_;intro v8 v9 Hs;refine ae5 ?_;intro i1 i2 i3 i4 i5;exact jJo i5
 .intro j x τ G' hx0 h_;apply xe3 h_;clear h_;intro v8 v9 Hs;refine ae5 ?_;intro i1 i2 i3 i4 i5;obtain⟨⟨r,s⟩,hx,rfl⟩:=jK4 hx0;have hj:j<S.length:=(lJe.mp hx).1;have hr:r<n:=hS _ (lJm hx);have hrl:r<rs.length:=by rw[i2.2.1,i1.len];exact hr
  have hra:rs[r]? =some rs[r]:=lJh hrl
  generalize rs[r]=a at hra
  obtain⟨hs',hh1,hh2⟩:=i2.2.2 r a hra;have hat:L2.atI (rs.map T.ref) (r:Int)=some (.ref a):=by rw[atN];simp[hra]
  have hle:=i1.len_le hh1;have hlt:(L++(S.take j).map λx=>(x.1,k,x.2)).length<10000:=by simp;omega
  exists encE,jKp i2.1,hat,jKx hh2,jJo hh2,List.length_map
  refine⟨b,_,m'+j,rfl,i3,by omega,by omega,by omega,λc G3 c0 c1 bx kp=> ?_⟩
  have ham:a∈D::rs:=lJ8 _ (lJm hra);have hab:a≠b:=by rintro rfl;exact hbn ham
  have hap:a≠p:=by rintro rfl;exact hpn ham
  have i2':=i2.keep kp hbn;refine⟨by omega,hs'.map encE,c,rfl,kp _ _ hab hh2,c0,by simp;omega,by simp;omega,?_⟩
  rw[show T.tup [T.int (k:Int),T.int (s:Int)]=encE (k,s) from rfl,qXx]
  refine⟨Hs.set r (hs'.take c.toNat++(k,s)::hs'.drop c.toNat),?_,i2'.set hnd hra,?_,(i4.trans kp).over (hfr a ham),?_⟩
  .have:=i1.ins (k:=c.toNat) (e:=(k,s)) hh1;rw[lV3,hx,lQ5,<-lXn];exact this
  .exact bx.gup hab.symm
  .rw[jJl hap.symm];exact kp _ _ hpb i5
 .intro τ G' h_;apply xe3 h_;clear h_;intro v8 v9 Hs;refine ae5 ?_;intro i1 i2 i3 i4 i5;rw[lJf] at i1 i3;rw[lVl] at i1;exact kk G' Hs v8 v9 i1 i2 i3 i4
theorem jZt{xs:List T}:(numT xs).length=xs.length:=by simp[numT]
noncomputable def jUv:Sp3:=λxs G Q=>∃(b pr:Addr)(P:List (Nat×Nat))(n m:Nat),xs=[.ref b,.ref pr,.int n]/\BoxAt G b m/\m+2*P.length<2^40/\pr≠b/\G pr=some (.lst (P.map encE))/\kUs P n/\n<=1000/\P.length<=500/\∀W G',Made P n W->BoxAt G' b (m+2*P.length)->Keep b G G'->Q (encW W) G'
def kUu:List Str:=["_law_box_here","_law_pairs","_law_many","_law_halves","_law_tie","_law_one","_law_other","_law_sides","_law_room","_law_side"]
noncomputable def jUy:TS3:=
 (tSeq (tAsg (jQx [fF,fF,fF,fF,fF,fF,fF,fF,tT,fF] (jK9 C2) M8 jXx (tLst tNil)) M3)
 (tSeq (tFor (kJ0 C1) (gTup 2 (jKd M4 (jKd (gTup 2 (jKd M5 (jKd M6 gNil))) gNil))) (tSeq (tAsg (tIf (jJv (tOp rEqA o6 o2)) (tLst (jJc (tTup (jJc o5 (jJc tI2 tNil))) tNil)) (tLst (jJc (tTup (jJc o5 (jJc tI0 tNil))) (jJc (tTup (jJc o6 (jJc tI1 tNil))) tNil)))) M7)
 (tFor (iSeq o7) (gTup 2 (jKd M8 (jKd M9 gNil))) (jQm (tBM "list" kJj (tOp rIxF o3 o8) (jJc (jJq jJx (jJc o0 (jJc (tOp jKz (tCB rLen (jJc (tOp rIxF o3 o8) tNil)) tI1) tNil))) (jJc (tTup (jJc o4 C9)) tNil)))))))
 (tRet (jJq jXz C3))))
theorem jQt{n:Nat}:rngT 0 n=(List.range n).map λ(k:Nat)=>T.int k:=by simp[rngT]
theorem jZe:RdOk jUv jUy kUu:=by
 intro xs G Q h_;apply xe5 h_;clear h_;intro b pr P n m;refine ae8 ?_;intro hb hm hpb hpr hP hn hPl kk;show jUy _ [some (.ref b),some (.ref pr),some (.int n),none,none,none,none,none,none,none] G
 have hs:=sz
 exists jUy,jJ7,jK9,kJ0
 refine⟨by omega,by omega,?_⟩
 rw[show ((n:Int)).toNat=n by omega,jQt]
 refine kQd (λ_=>[]) (by simp;omega) (λ_ _=>trivial) ?_ ?_
 .intro i e he G' K K0 s hk
  exists tSeq
  exact⟨lJ0 _,λp hp=>hk p _ hp jJg (.new hp)⟩
 .intro D rs G1 hD hD1 s1 hrl hnd hrs;rw[lQc] at hrl;obtain⟨bo,hbo⟩:=hb.some
  have hbn:b∉D::rs:=by
   intro z;rw[lJk] at z
   rcases z with rfl | z
   .rw[hD] at hbo;cases hbo
   .obtain⟨j,hj⟩:=lJ4 z;have hjl:j<rs.length:=(lJe.mp hj).1;have:=(hrs j b j hj (by rw[lQd (by omega)])).1
    rw[this] at hbo;cases hbo
  have hfr:∀r,r∈D::rs->G r=none:=by
   intro r z;rw[lJk] at z
   rcases z with rfl | z
   .exact hD
   .obtain⟨j,hj⟩:=lJ4 z;have hjl:j<rs.length:=(lJe.mp hj).1;exact (hrs j r j hj (by rw[lQd (by omega)])).1
  refine⟨P.map encE,by simp only[jU2,s1 _ _ hpr,asL],?_⟩
  refine⟨λk τ G'=>∃(v4 v5 v6 v7 v8 v9:Option T)(Hs:Web),τ=[some (.ref b),some (.ref pr),some (.int n),some (.ref D),v4,v5,v6,v7,v8,v9]/\HalfL (hvs P n k) n Hs/\RowsAt G' D Hs rs/\BoxAt G' b (m+2*k)/\Keep b G G',?_,?_,?_,?_⟩
  .refine⟨none,none,none,none,none,none,List.replicate n [],rfl,⟨by simp,?_⟩,⟨hD1,by simp[hrl],?_⟩,hb.sub s1,.sub s1⟩
   .intro r hs' h;have:hs'=[]:=by rw[lXk] at h;split at h;cases h;rfl;cases h
    subst this;simp[hvs]
   .intro i r h;have hi:i<n:=by rw[<-hrl];exact (lJe.mp h).1
    exact⟨[],by simp[hi],(hrs i r i h (by simp[hi])).2⟩
  .intro k τ G' hk h_;apply xe7 h_;clear h_;intro v4 v5 v6 v7 v8 v9 Hs;refine ae4 ?_;intro h1 h2 h3 h4;simp only[jU2,h4 _ _ hpb hpr,asL]
  .intro k x τ G2 hx h_;apply xe7 h_;clear h_;intro v4 v5 v6 v7 v8 v9 Hs;refine ae4 ?_;intro h1 h2 h3 h4;have hk:k<P.length:=by have:=(lJe.mp hx).1;simpa[jZt] using this
   rw[jVr (x:=encE P[k]) (by simp[hk])] at hx
   cases hx
   generalize hpk:P[k]=p
   have hpe:P[k]? =some p:=by rw[lJh hk,hpk]
   obtain⟨a,c⟩:=p;obtain⟨ha,hc⟩:=hP _ (lJm hpe);have ha:a<n:=ha;have hc:c<=n:=hc
   exists encE,rEqA,iSeq,jJ7
   rw[show eqG G2 (T.int (c:Int)) (T.int (n:Int))=some (decide ((c:Int)=n)) from rfl]
   have hL:=kUe (P:=P) (n:=n) k;refine⟨_,rfl,?_⟩
   have fresh:∀p,G2 p=none->p∉D::rs/\p≠b:=by
    intro p hp;refine⟨λz=> ?_,?_⟩
    .rw[lJk] at z
     rcases z with rfl | z
     .rw[h2.1] at hp;cases hp
     .obtain⟨j,hj⟩:=lJ4 z;obtain⟨_,_,q⟩:=h2.2.2 j p hj;rw[q] at hp;cases hp
    .rintro rfl;obtain⟨o,ho⟩:=h3.some;rw[ho] at hp;cases hp
   by_cases hcn:c=n
   .rw[lJc (by simp[hcn])]
    refine⟨by omega,by omega,λp hp=> ?_⟩
    obtain⟨f1,f2⟩:=fresh p hp;refine kJ8 (S:=[(a,2)]) h1 (h2.sub (.new hp)) (h3.gup f2.symm) (h4.over (h4.none f2 hp)) hnd hbn hfr jJg f1 f2 (by simp[ha]) (by simp;omega) (by simp;omega) ?_
    intro G' Hs' v8 v9 i1 i2 i3 i4;refine⟨_,_,_,_,_,_,rfl,Hs',?_,i2,i3.mono (by simp;omega),i4⟩
    rw[jVw hpe];unfold hv;rw[lJc hcn];exact i1
   .rw[lJb (by simp;omega)]
    refine⟨by omega,by omega,by omega,λp hp=> ?_⟩
    obtain⟨f1,f2⟩:=fresh p hp;refine kJ8 (S:=[(a,0),(c,1)]) h1 (h2.sub (.new hp)) (h3.gup f2.symm) (h4.over (h4.none f2 hp)) hnd hbn hfr jJg f1 f2 (by simp;omega) (by simp;omega) (by simp;omega) ?_
    intro G' Hs' v8 v9 i1 i2 i3 i4;refine⟨_,_,_,_,_,_,rfl,Hs',?_,i2,i3.mono (by simp;omega),i4⟩
    rw[jVw hpe];unfold hv;rw[lJb hcn];exact i1
  .intro τ G' h_;apply xe7 h_;clear h_;intro v4 v5 v6 v7 v8 v9 Hs;refine ae4 ?_;intro h1 h2 h3 h4;rw[jZt,lJf] at h1 h3
   exists tSeq
   have ok:=h1.ok hP hn hPl;refine⟨D,Hs,rs,rfl,h2,ok,λG3 W s3 J=> ?_⟩
   exact kk W G3 (uJo h1 hP ok J) (h3.sub s3) (h4.trans (.sub s3))
def dgr(P:List (Nat×Nat))(n r:Nat):Nat:=((hvs P n P.length).filter λx=>x.1 == r).length
def jQ5(n:Nat)(p:Nat×Nat):List Nat:=if p.2=n then [p.1] else [p.1,p.2]
theorem qQ8{P Q:List (Nat×Nat)}{n:Nat}:∀k,k<=P.length->hvs (P++Q) n k=hvs P n k
 | 0,_=>rfl
 | k+1,h=>by
  have e:P[k]? =some P[k]:=lJh (by omega)
  rw[jVw e,jVw (p:=P[k]) (by rw[lKe (by omega)];exact e),qQ8 k (by omega)]
theorem qX4{P:List (Nat×Nat)}{n:Nat}{p:Nat×Nat}:hvs (P++[p]) n (P++[p]).length=hvs P n P.length++hv n P.length p:=by
 rw[lJ9,List.length_singleton,jVw (p:=p) (by simp),qQ8 _ (lJg _)]
theorem uUk{n t r:Nat}{p:Nat×Nat}:((hv n t p).filter λx=>x.1 == r).length=(jQ5 n p).count r:=by
 unfold hv jQ5;split
 .by_cases h:p.1=r<;>simp[h]
 .by_cases h:p.1=r<;>by_cases h':p.2=r<;>simp[h,h',lK5]
theorem jZw{P:List (Nat×Nat)}{n r:Nat}{p:Nat×Nat}:dgr (P++[p]) n r=dgr P n r+(jQ5 n p).count r:=by
 unfold dgr;rw[qX4,List.filter_append,lJ9,uUk]
theorem qX9{L:List (Nat×Nat×Nat)}{k:Nat}:(L.filter λx=>decide (x.1<k+1)).length=(L.filter λx=>decide (x.1<k)).length+(L.filter λx=>x.1 == k).length:=by
 induction L with
 | nil=>rfl
 | cons a as ih=>
  rw[lK5,lK5,lK5]
  rcases lYu a.1 k with h | h | h
  .have h1:a.1<k+1:=by omega
   have h2:¬ a.1=k:=by omega
   simp[h,h1,h2,ih];omega
  .have h1:a.1<k+1:=by omega
   simp[h,ih];omega
  .have h1:¬ a.1<k+1:=by omega
   have h2:¬ a.1=k:=by omega
   have h3:¬ a.1<k:=by omega
   simp[h1,h2,h3,ih]
theorem qY6{L:List (Nat×Nat×Nat)}{d:Nat}:∀k,(∀r,r<k->d<=(L.filter λx=>x.1 == r).length)->k*d<=(L.filter λx=>decide (x.1<k)).length
 | 0,_=>by simp
 | k+1,h=>by
  rw[qX9,lQu];have h1:=qY6 k λr hr=>h r (by omega)
  have h2:=h k (by omega)
  omega
theorem qUd{P:List (Nat×Nat)}{n d k:Nat}(hd:2<=d)(hk:P.length<k):∃r,r<k/\dgr P n r<d:=by
 apply lVu;intro h
 have h1:∀r,r<k->d<=((hvs P n P.length).filter λx=>x.1 == r).length:=λr hr=>by
  rcases lKd (dgr P n r) d with z | z
  .exact absurd ⟨r,hr,z⟩ h
  .exact z
 have h2:=qY6 k h1;have h3:=lVo (λx:Nat×Nat×Nat=>decide (x.1<k)) (hvs P n P.length)
 have h4:=kUe (P:=P) (n:=n) P.length;have h5:k*2<=k*d:=Nat.mul_le_mul_left k hd;omega
theorem qYj{P:List (Nat×Nat)}{n k r:Nat}(h:∀p,p∈P->p.1<k/\p.2<k)(hr:k<=r):dgr P n r=0:=by
 unfold dgr;rw[lQm,List.filter_eq_nil_iff];rintro⟨a,t,s⟩ hx;obtain⟨p,h1,h2,h3⟩:=kJ2 hx;have h4:=h p (lJm h1);have h5:=(kQc h3).2.2;simp;omega
def jUi(n:Nat)(f:Nat->Nat):List T:=(List.range n).map λr=>T.int (f r)
theorem kQk{n:Nat}{f:Nat->Nat}{r:Nat}(h:r<n):L2.atI (jUi n f) (r:Int)=some (.int (f r)):=by rw[atN];simp[jUi,h]
theorem qKd{n:Nat}{f:Nat->Nat}:(jUi n f).length=n:=by simp[jUi]
theorem qKc{n:Nat}{f:Nat->Nat}{r v:Nat}:(jUi n f).set r (.int v)=jUi n λx=>if x=r then v else f x:=by
 apply lQh;intro i
 by_cases hi:i=r
 .subst hi
  by_cases h:i<n
  .rw[lKi (by simpa[jUi] using h)];simp[jUi,h]
  .rw[lJz (by simp[jUi];omega),lJz (by simp[jUi];omega)]
 .rw[lKh (Ne.symm hi)]
  by_cases h:i<n
  .simp[jUi,h,hi]
  .rw[lJz (by simp[jUi];omega),lJz (by simp[jUi];omega)]
theorem bump{E:Ends3}{G2:Gp}{u:Addr}{n:Nat}{f:Nat->Nat}{es:List Nat}{stay:Gp->Prop}{w0 w1 w2 w4 w5 w6 w7 w8 w9 w10 w11:Option T}(hu:G2 u=some (.lst (jUi n f)))(hst:∀G',(∀c,c≠u->G' c=G2 c)->stay G')(hes:∀e,e∈es->e<n)
  (kk:∀G' v7,G' u=some (.lst (jUi n λr=>f r+es.count r))->(∀c,c≠u->G' c=G2 c)->E.nx [w0,w1,w2,some (.ref u),w4,w5,w6,v7,w8,w9,w10,w11] G'):
  uKu M7 (tAsg (tOp jKz (tOp rIxF o3 o7) tI1) (gSub o3 o7 jV0)) E [w0,w1,w2,some (.ref u),w4,w5,w6,w7,w8,w9,w10,w11] (es.map λe=>T.int (e:Nat)) stay G2:=by
 refine⟨λj τ G'=>∃v7,τ=[w0,w1,w2,some (.ref u),w4,w5,w6,v7,w8,w9,w10,w11]/\G' u=some (.lst (jUi n λr=>f r+(es.take j).count r))/\(∀c,c≠u->G' c=G2 c),?_,?_,?_,?_⟩
 .exact⟨w7,rfl,by simpa using hu,λ_ _=>rfl⟩
 .intro j τ G' hj h_;apply xe1 h_;clear h_;intro v7;refine ae2 ?_;intro h1 h2;exact hst G' h2
 .intro j x τ G' hx0 h_;apply xe1 h_;clear h_;intro v7;refine ae2 ?_;intro h1 h2;obtain⟨e,hx,rfl⟩:=jK4 hx0;have he:=hes e (lJm hx);have hix:L2.ixN (jUi n λr=>f r+(es.take j).count r).length (e:Int)=some e:=kVk (by rw[qKd];exact he)
  exists jKp h1,kQk he,jYh h1 hix
  refine⟨?_,λc hc=>by rw[jJl hc];exact h2 c hc⟩
  rw[show T.int (((f e+(es.take j).count e:Nat):Int)+1)=T.int ((f e+(es.take j).count e+1:Nat):Int) by simp,qKc]
  congr 1
  funext r
  rw[lV3,hx,Option.toList_some,List.count_append]
  by_cases hr:r=e
  .subst hr;simp;omega
  .have:¬ e=r:=λz=>hr z.symm
   simp[hr,this]
 .intro τ G' h_;apply xe1 h_;clear h_;intro v7;refine ae2 ?_;intro h1 h2;rw[lJf,lVl] at h1;exact kk G' v7 h1 h2
structure WebOk (n d:Nat) (W:Web):Prop where
 len:W.length=n
 sym:Sym W
 deg:∀(r:Nat)(es:List (Nat×Nat)),W[r]? =some es->es.length<=d
 low:∀r,1<=r->r<n->∃i a j,en W r i=some (a,j)/\a<r
structure POk (P:List (Nat×Nat)) (n d k:Nat):Prop where
 ok:kUs P n
 deg:∀r,r<n->dgr P n r<=d
 low:∀r,1<=r->r<k->∃p,p∈P/\p.2=r/\p.1<r
theorem POk.web{P:List (Nat×Nat)}{n d:Nat}{W:Web}(h:POk P n d n)(m:Made P n W):WebOk n d W where
 len:=m.len
 sym:=m.sym
 deg:=λr es hr=>by
  rw[m.deg r es hr];exact h.deg r (by rw[<-m.len];exact (lJe.mp hr).1)
 low:=λr h1 h2=>by
  obtain⟨p,q1,q2,q3⟩:=h.low r h1 h2;obtain⟨i,j,q4⟩:=m.tie p q1 (by omega)
  have:=m.sym _ _ _ _ q4;rw[q2] at this;exact⟨j,p.1,i,this,q3⟩
noncomputable def jYg:Sp3:=λxs G Q=>∃(b:Addr)(n d m:Nat),xs=[.ref b,.int n,.int d]/\BoxAt G b m/\m+300<2^40/\1<=n/\n<=24/\2<=d/\d<=100/\∀W G',WebOk n d W->BoxAt G' b (m+300)->Keep b G G'->Q (encW W) G'
def uKr:List Str:=["_law_box_here","_law_many","_law_most","_law_used","_law_pairs","_law_room","_law_free","_law_end","_law_turn_here","_law_pair","_law_ends_here","_law_one"]
noncomputable def kQ5:TS3:=
 (tSeq (tAsg (tOp jV1 (tLst (jJc tI0 tNil)) o1) M3)
 (tSeq (tAsg (tLst tNil) M4)
 (tSeq (tFor (uJ3 (jJc tI1 C1)) M5 (tSeq (tAsg (jQx [fF,fF,fF,fF,fF,fF,fF,fF,fF,fF,fF,tT] (jK9 C5) M11 (jJv (tOp rLt (tOp rIxF o3 o11) o2)) o11) M6)
 (tSeq (jQm (tBM "list" jQo o4 (jJc (tTup (jJc (tOp rIxF o6 (jJq jJx (jJc o0 (jJc (tCB rLen C6) tNil)))) C5)) tNil)))
 (tFor (iSeq (tOp rIxF o4 (tUn rNeg tI1))) M7 (tAsg (tOp jKz (tOp rIxF o3 o7) tI1) (gSub o3 o7 jV0))))))
 (tSeq (tFor (jK9 (jJc (jJq jJx (jJc o0 (jJc (tOp jKz o1 tI2) tNil))) tNil)) M8 (tSeq (tAsg (tTup (jJc (jJq jJx (jJc o0 C1)) (jJc (jJq jJx (jJc o0 (jJc (tOp jKz o1 tI1) tNil))) tNil))) M9)
 (tSeq (tAsg (jQx [fF,fF,fF,fF,fF,fF,fF,tT,fF,fF,fF,fF] (iSeq o9) M7 (jJv (tOp rLt o7 o1)) o7) M10)
 (tIfS (jJv (tCB rAll (jJc (jQx [fF,fF,fF,fF,fF,fF,fF,tT,fF,fF,fF,fF] (iSeq o10) M7 jXx (tOp rLeF (tOp jKz (tOp rIxF o3 o7) (tBM "list" qQd o10 C7)) o2)) tNil))) (tSeq (jQm (tBM "list" jQo o4 C9))
 (tFor (iSeq o10) M7 (tAsg (tOp jKz (tOp rIxF o3 o7) tI1) (gSub o3 o7 jV0)))) jJ5))))
 (tRet (jJq jUv (jJc o0 (jJc o4 C1))))))))
theorem qVz{n:Nat}:(List.replicate n [T.int 0]).flatten=jUi n λ_=>0:=by
 have:(List.replicate n [T.int 0]).flatten=List.replicate n (T.int 0):=by
  induction n with
  | zero=>rfl
  | succ n ih=>rw[lK8,lQ3,ih];rfl
 rw[this];apply lQh;intro i
 by_cases h:i<n
 .simp[jUi,h]
 .rw[lJz (by simp;omega),lJz (by simp[jUi];omega)]
theorem qKx{lo n:Nat}:rngT lo n=(List.range n).map λ(k:Nat)=>T.int ((lo+k:Nat):Int):=by simp[rngT]
theorem uKi{es:List Nat}{r:Nat}:(es.map λe=>T.int (e:Nat)).countP (λz=>eqT z (.int r))=es.count r:=by
 rw[List.countP_map,List.count]
 congr 1
 funext e
 simp only[eqT,Function.comp]
 by_cases h:e=r
 .subst h;simp
 .have h2:¬ (e:Int)=r:=by omega
  rw[beq_eq_false_iff_ne.mpr h,beq_eq_false_iff_ne.mpr h2]
theorem kJ4{es:List Nat}:(es.map λe=>T.int (e:Nat)).all jVd=true:=by
 rw[List.all_map,lQn];intros;rfl
theorem kV8{α:Type}{f:α->Bool}:∀{es:List α},kYn (es.map λe=>T.bl (f e))=some (es.all f)
 | []=>rfl
 | e::es=>by rw[lJv,kYn,kV8,lQl]
theorem qJe:RdOk jYg kQ5 uKr:=by
 intro xs G Q h_;apply xe4 h_;clear h_;intro b n d m;refine ae7 ?_;intro hb hm hn1 hn2 hd1 hd2 kk;show kQ5 _ [some (.ref b),some (.int n),some (.int d),none,none,none,none,none,none,none,none,none] G
 have hs:=sz
 exists kQ5,jJ7,jK9,uJ3
 refine⟨by omega,λz hz=> ?_⟩
 have e1:mulR (gup G z (GO.lst [T.int 0])) (.ref z) (.int n)=some (.newL (jUi n λ_=>0)):=by
  rw[<-qVz];simp only[mulR,jJg];rw[lJc];congr;refine⟨?_,?_,?_⟩<;>simp<;>omega
 exists e1
 intro u hu;obtain⟨huz,hu0⟩:=jJ4 hu;refine⟨lJ0 _,λpr hpr=> ?_⟩
 obtain⟨hpu,hpr1⟩:=jJ4 hpr;obtain⟨hpz,hpr0⟩:=jJ4 hpr1;obtain⟨bo,hbo⟩:=hb.some;have hbu:=jJf hbo hu0;have hbp:=jJf hbo hpr0;have hbz:=jJf hbo hz;refine⟨by omega,by omega,by omega,by omega,?_⟩
 rw[show ((n:Int)-1).toNat=n-1 by omega,show rngT 1 (n-1)=rngT ((1:Nat):Int) (n-1) from rfl,qKx]
 let J1:Nat->St3->Gp->Prop:=λk τ G'=>∃(v5 v6 v7:Option T)(P:List (Nat×Nat)),τ=[some (.ref b),some (.int n),some (.int d),some (.ref u),some (.ref pr),v5,v6,v7,none,none,none,none]/\P.length=k/\POk P n d (k+1)/\(∀p,p∈P->p.1<k+1/\p.2<k+1)/\G' u=some (.lst (jUi n (dgr P n)))/\G' pr=some (.lst (P.map encE))/\BoxAt G' b (m+k)/\Keep b G G'
 refine⟨J1,?_,?_,?_,?_⟩
 .refine xi4 none none none [] rfl ⟨rfl,⟨by intro p h;simp at h,λr _=>by simp[dgr,hvs],λr h1 h2=>by omega⟩,by intro p h;simp at h,by rw[jJl hpu.symm,jJg];rfl,jJg,((hb.gup hbz).gup hbu).gup hbp,(((Keep.new hz).over hu0).over hpr0)⟩
 .intros;trivial
 .intro k x τ G1 hx0 h_;apply xe4 h_;clear h_;intro v5 v6 v7 P;refine ae7 ?_;intro hPl hP hlt hgu hgp hbx hkp;obtain⟨e,hx,rfl⟩:=jK4 hx0
  obtain⟨hk,rfl⟩:k<n-1/\k=e:=by
   rw[lJe] at hx;obtain⟨q1,q2⟩:=hx;simp at q1 q2;exact⟨q1,q2⟩
  exists iSeq,jK9,jJ7
  refine⟨by omega,by omega,?_⟩
  rw[show (((1+k:Nat)):Int).toNat=1+k by omega,jQt]
  refine jUt (λr=>if dgr P n r<d then some (T.int (r:Nat)) else none) (by simp;omega) (λ_ _=>trivial) ?_ ?_
  .intro i r hr G2 K K0 s2 hK hK0
   obtain⟨hr1,rfl⟩:i<1+k/\i=r:=by
    rw[lJe] at hr;obtain⟨q1,q2⟩:=hr;simp at q1 q2;exact⟨q1,q2⟩
   exists jKp (s2 _ _ hgu),kQk (show i<n by omega)
   by_cases hdg:dgr P n i<d
   .rw[lJc (by omega)]
    exact hK _ _ (by rw[lJc hdg]) (.refl _)
   .rw[lJb (by omega)]
    exact hK0 (by rw[lJb hdg]) _ (.refl _)
  .intro fr G2 hfr hfr2 s2
   obtain⟨F,hF1,hF2⟩:∃F:List Nat,(List.range (1+k)).filterMap (λr=>if dgr P n r<d then some (T.int (r:Nat)) else none)=F.map (λr=>T.int (r:Nat))/\F=(List.range (1+k)).filter λr=>decide (dgr P n r<d):=by
    refine⟨_,?_,rfl⟩
    generalize List.range (1+k)=l
    induction l with
    | nil=>rfl
    | cons a as ih=>
     rw[lQ1,lK5]
     by_cases h:dgr P n a<d<;>simp[h,ih]
   rw[hF1] at hfr2;have hFl:F.length<=1+k:=by rw[hF2];have:=lVo (λr=>decide (dgr P n r<d)) (List.range (1+k));rw[lQc] at this;exact this
   have hF0:1<=F.length:=by
    obtain⟨r,q1,q2⟩:=qUd (P:=P) (n:=n) (d:=d) (k:=1+k) hd1 (by omega)
    have:r∈F:=by rw[hF2,lQi];exact⟨lJ3.mpr q1,by simpa using q2⟩
    exact List.length_pos_of_mem this
   have hgp2:=s2 _ _ hgp
   exists jKx hgp2,jJo hfr2,List.length_map
   refine⟨b,_,m+k,rfl,hbx.sub s2,by omega,by omega,by omega,λc G3 c0 c1 bx kp=> ?_⟩
   have hfb:fr≠b:=by rintro rfl;obtain⟨o,ho⟩:=hbx.some;rw[ho] at hfr;cases hfr
   have hcF:c.toNat<F.length:=by omega
   have hca:L2.atI (F.map λr=>T.int (r:Nat)) c=some (.int (F[c.toNat]:Nat)):=by rw[atZ c0];simp[hcF]
   have hmem:F[c.toNat]∈F:=lV8 hcF
   generalize F[c.toNat]=a at hca hmem
   rw[hF2,lQi] at hmem;have ha1:a<1+k:=lJ3.mp hmem.1;have ha2:dgr P n a<d:=by simpa using hmem.2
   have hgp3:=kp _ _ hbp.symm hgp2;have hgu3:=kp _ _ hbu.symm (s2 _ _ hgu)
   exists jKp (kp _ _ hfb hfr2),hca,hgp3
   refine⟨by omega,by simp;omega,_,uKo,[T.int (a:Nat),T.int ((1+k:Nat):Int)],rfl,?_⟩
   have hne:u≠pr:=hpu.symm;have hE:jQ5 n (a,1+k)=[a,1+k]:=by unfold jQ5;rw[lJb (show ¬ (1+k)=n by omega)]
   refine bump (es:=[a,1+k]) (n:=n) (f:=dgr P n) (by rw[jJl hne];exact hgu3) (λ_ _=>rfl) (by simp;omega) ?_
   intro G4 v7 hu4 hk4
   have hlt':∀p,p∈P++[(a,1+k)]->p.1<k+1+1/\p.2<k+1+1:=by
    intro p hp;rw[lKt,lJ5] at hp
    rcases hp with hp | rfl
    .have:=hlt p hp;omega
    .exact⟨by show a<_;omega,by show 1+k<_;omega⟩
   refine xi4 _ _ _ (P++[(a,1+k)]) rfl ⟨by simp[hPl],⟨?_,?_,?_⟩,hlt',?_,?_,?_,?_⟩
   .intro p hp;have:=hlt' p hp;omega
   .intro r hr;rw[jZw,hE];have h0:=hP.deg r hr;have hz1:=qYj (n:=n) (r:=1+k) hlt (by omega)
    by_cases h1:r=a
    .subst h1;have:¬ 1+k=r:=by omega
     simp[this];omega
    .have h1':¬ a=r:=λz=>h1 z.symm
     by_cases h2:1+k=r
     .subst h2;simp[h1'];omega
     .simp[h1',h2];omega
   .intro r h1 h2
    by_cases h3:r<k+1
    .obtain⟨p,q1,q2⟩:=hP.low r h1 h3;exact⟨p,lQj _ q1,q2⟩
    .exact⟨(a,1+k),by simp,by show 1+k=r;omega,by show a<r;omega⟩
   .rw[hu4,show (λr=>dgr P n r+List.count r [a,1+k])=dgr (P++[(a,1+k)]) n from funext λr=>by rw[jZw,hE]]
   .rw[hk4 pr hpu,jJg];simp[encE]
   .obtain⟨x,y,w,z1,z2⟩:=bx;exact⟨x,y,w,by rw[hk4 b hbu,jJl hbp];exact z1,z2⟩
   .intro c o hc he;have hcu:=jJf he hu0;have hcp:=jJf he hpr0;rw[hk4 c hcu,jJl hcp];exact kp _ _ hc (s2 _ _ (hkp _ _ hc he))
 .intro τ G1 h_;apply xe4 h_;clear h_;intro v5 v6 v7 P;refine ae7 ?_;intro hPl hP hlt hgu hgp hbx hkp;rw[lJf,lQc] at hPl hP hbx;rw[show n-1+1=n by omega] at hP
  exists jJ7,jK9
  refine⟨b,_,m+(n-1),rfl,hbx,by omega,by omega,by omega,λq G2 q0 q1 bx kp=> ?_⟩
  refine⟨q,rfl,by omega,by omega,?_⟩
  let J2:Nat->St3->Gp->Prop:=λk τ G'=>∃(v7 v8 v9 v10 v11:Option T)(P:List (Nat×Nat)),τ=[some (.ref b),some (.int n),some (.int d),some (.ref u),some (.ref pr),v5,v6,v7,v8,v9,v10,v11]/\P.length<=n+k/\POk P n d n/\G' u=some (.lst (jUi n (dgr P n)))/\G' pr=some (.lst (P.map encE))/\BoxAt G' b (m+n+2*k)/\Keep b G G'
  refine⟨J2,?_,?_,?_,?_⟩
  .exact xi6 _ _ _ _ _ P rfl ⟨by omega,hP,kp _ _ hbu.symm hgu,kp _ _ hbp.symm hgp,bx.mono (by omega),hkp.trans kp⟩
  .intros;trivial
  .intro k x τ G3 hx0 h_;apply xe6 h_;clear h_;intro v7 v8 v9 v10 v11 P;refine ae6 ?_;intro hPl hP hgu hgp hbx hkp;have hk:k<q.toNat:=by have:=(lJe.mp hx0).1;rw[jUc] at this;exact this
   exists jJ7,iSeq
   refine⟨b,_,_,rfl,hbx,by omega,by omega,by omega,λc G4 c0 c1 bx4 kp4=> ?_⟩
   refine⟨b,_,_,rfl,bx4,by omega,by omega,by omega,λe G5 e0 e1 bx5 kp5=> ?_⟩
   obtain⟨a,rfl⟩:=lKz c0;obtain⟨y,rfl⟩:=lKz e0;have ha:a<n:=by omega
   have hy:y<=n:=by omega
   have kp35:=kp4.trans kp5;have hgu5:=kp35 _ _ hbu.symm hgu;have hgp5:=kp35 _ _ hbp.symm hgp;refine⟨by omega,?_⟩
   have hEn:∀e',e'∈jQ5 n (a,y)->e'<n:=by
    intro e' he';unfold jQ5 at he';split at he'<;>simp at he'<;>simp at * <;>omega
   have hEl:(jQ5 n (a,y)).length<=2:=by unfold jQ5;split<;>simp
   refine jUt (es:=[a,y]) (enc:=λr:Nat=>T.int r) (λr=>if r<n then some (T.int (r:Nat)) else none) (by simp;omega) (λ_ _=>trivial) ?_ ?_
   .intro i r hr G6 K K0 s6 hK hK0
    exists tSeq
    by_cases hrn:r<n
    .rw[lJc (by omega)]
     exact hK _ _ (by rw[lJc hrn]) (.refl _)
    .rw[lJb (by omega)]
     exact hK0 (by rw[lJb hrn]) _ (.refl _)
   .intro en G6 hen hen6 s6
    have hEE:List.filterMap (λr=>if r<n then some (T.int (r:Nat)) else none) [a,y]=(jQ5 n (a,y)).map λr=>T.int (r:Nat):=by
     unfold jQ5
     by_cases hyn:y=n
     .simp[ha,hyn]
     .have:y<n:=by omega
      simp[ha,hyn,this]
    rw[hEE] at hen6;refine⟨_,jJo hen6,?_⟩;refine jQ2 (λr=>T.bl (decide (dgr P n r+(jQ5 n (a,y)).count r<=d))) (by omega) (λG' s=>jJo (s _ _ hen6)) ?_ ?_
    .intro i r hr G7 K K0 s7 hK;have hrn:=hEn r (lJm hr)
     exists jKp (s7 _ _ (s6 _ _ hgu5)),kQk hrn,jKx (s7 _ _ hen6),qQd,s7 _ _ hen6,rLeF
     refine⟨rfl,kJ4,?_⟩;rw[uKi,show decide (((dgr P n r:Nat):Int)+((jQ5 n (a,y)).count r:Nat)<=(d:Nat))=decide (dgr P n r+(jQ5 n (a,y)).count r<=d) from decide_eq_decide.mpr (by omega)]
     exact hK _ (.refl _)
    .intro al G7 hal hal7 s7;refine⟨al,_,_,rfl,hal7,kV8,_,rfl,?_⟩;have s57:=s6.trans s7;have hgp7:=s57 _ _ hgp5;have hgu7:=s57 _ _ hgu5;have henp:en≠pr:=(jJf hgp5 hen).symm;have henu:en≠u:=(jJf hgu5 hen).symm;have hkp7:Keep b G G7:=(hkp.trans kp35).trans (.sub s57);split
     .rename_i hall
      rw[lQn] at hall;refine⟨by rw[jKx hgp7];trivial,_,hgp7,by simp;omega,_,jJo (by rw[jJl henp];exact s7 _ _ hen6),?_⟩
      refine bump (es:=jQ5 n (a,y)) (n:=n) (f:=dgr P n) (by rw[jJl hpu.symm];exact hgu7) (λG' hG'=>jJo (by rw[hG' _ henu,jJl henp];exact s7 _ _ hen6)) hEn ?_
      intro G8 w7 hu8 hk8;refine xi6 _ _ _ _ _ (P++[(a,y)]) rfl ⟨by simp;omega,⟨?_,?_,?_⟩,?_,?_,?_,?_⟩
      .intro p hp;rw[lKt,lJ5] at hp
       rcases hp with hp | rfl
       .exact hP.ok p hp
       .exact⟨ha,hy⟩
      .intro r hr;rw[jZw]
       by_cases hm:r∈jQ5 n (a,y)
       .simpa using hall r hm
       .rw[List.count_eq_zero_of_not_mem hm];exact hP.deg r hr
      .intro r h1 h2;obtain⟨p,q1,q2⟩:=hP.low r h1 h2;exact⟨p,lQj _ q1,q2⟩
      .rw[hu8,show (λr=>dgr P n r+List.count r (jQ5 n (a,y)))=dgr (P++[(a,y)]) n from funext λr=>by rw[jZw]]
      .rw[hk8 pr hpu,jJg];simp[encE]
      .obtain⟨x1,y1,w,z1,z2⟩:=(bx5.sub s57).mono (show m+n+2*k+1+1<=m+n+2*(k+1) by omega)
       exact⟨x1,y1,w,by rw[hk8 b hbu,jJl hbp];exact z1,z2⟩
      .intro c o hc he;have hcu:=jJf he hu0;have hcp:=jJf he hpr0;rw[hk8 c hcu,jJl hcp];exact hkp7 _ _ hc he
     .exact xi6 _ _ _ _ _ P rfl ⟨by omega,hP,hgu7,hgp7,(bx5.sub s57).mono (by omega),hkp7⟩
  .intro τ G3 h_;apply xe6 h_;clear h_;intro v7 v8 v9 v10 v11 P;refine ae6 ?_;intro hPl hP hgu hgp hbx hkp;rw[jUc] at hPl hbx
   exists tSeq
   refine⟨b,pr,P,n,_,rfl,hbx,by omega,hbp.symm,hgp,hP.ok,by omega,by omega,λW G4 mw bx4 kp4=> ?_⟩
   exact kk W G4 (hP.web mw) (bx4.mono (by omega)) (hkp.trans kp4)
def Conn(W:Web):Prop:=∀S:Nat->Prop,S 0->(∀r i s j,S r->en W r i=some (s,j)->S s)->∀r,r<W.length->S r
theorem WebOk.conn{n d:Nat}{W:Web}(h:WebOk n d W):Conn W:=by
 intro S h0 hst r
 induction r using Nat.strongRecOn with
 | ind r ih=>
  intro hr
  by_cases hz:r=0
  .subst hz;exact h0
  .obtain⟨i,a,j,q1,q2⟩:=h.low r (by omega) (by rw[<-h.len];exact hr)
   exact hst a j r i (ih a q2 (by omega)) (h.sym _ _ _ _ q1)
theorem jUf{W:Web}{r i:Nat}{e:Nat×Nat}(h:en W r i=some e):r<W.length:=by
 obtain⟨es,h1,h2⟩:=jKv h;exact (lJe.mp h1).1
def ring(n:Nat):Web:=(List.range n).map λr=>[((r+1)%n,1),((r+n-1)%n,0)]
theorem kZu{n r:Nat}(h:r<n):en (ring n) r 0=some ((r+1)%n,1):=jV2 (es:=[((r+1)%n,1),((r+n-1)%n,0)]) (by simp[ring,h]) rfl
theorem kUg{n r:Nat}(h:r<n):en (ring n) r 1=some ((r+n-1)%n,0):=jV2 (es:=[((r+1)%n,1),((r+n-1)%n,0)]) (by simp[ring,h]) rfl
theorem kQz{n:Nat}:(ring n).length=n:=by simp[ring]
theorem qZ4{n:Nat}(hn:1<=n):WebOk n 2 (ring n) where
 len:=kQz
 sym:=by
  intro r i s j h;have hr:r<n:=by have:=jUf h;rwa [kQz] at this
  have hi:i=0\/i=1:=by
   obtain⟨es,h1,h2⟩:=jKv h;have:es=[((r+1)%n,1),((r+n-1)%n,0)]:=by simp[ring,hr] at h1;exact h1.symm
   subst this;have:=(lJe.mp h2).1;simp at this;omega
  rcases hi with rfl | rfl
  .rw[kZu hr] at h;cases h;rw[kUg (lQ6 _ (by omega))]
   congr 2
   by_cases hz:r+1=n
   .rw[hz,Nat.mod_self];rw[lQe (by omega)];omega
   .rw[lQe (show r+1<n by omega),show r+1+n-1=r+n by omega,lYz,lQe hr]
  .rw[kUg hr] at h;cases h;rw[kZu (lQ6 _ (by omega))]
   congr 2
   by_cases hz:r=0
   .subst hz;rw[lQe (show 0+n-1<n by omega),show 0+n-1+1=n by omega,Nat.mod_self]
   .rw[show r+n-1=(r-1)+n by omega,lYz,lQe (show r-1<n by omega),show r-1+1=r by omega,lQe hr]
 deg:=λr es hr=>by
  have hrl:r<n:=by have:=(lJe.mp hr).1;rwa [kQz] at this
  simp[ring,hrl] at hr;rw[<-hr];simp
 low:=λr h1 h2=>⟨1,r-1,0,by rw[kUg h2,show r+n-1=(r-1)+n by omega,lYz,lQe (show r-1<n by omega)],by omega⟩
def jZ7:Sp3:=λxs G Q=>∃n:Nat,xs=[.int n]/\1<=n/\n<=1000/\∀G',Sub G G'->Q (encW (ring n)) G'
def qYw:List Str:=["_law_many","_law_room"]
noncomputable def kJg:TS3:=
 (tRet (tCB jK3 (jJc (jQx [fF,tT] (jK9 C0) M1 jXx (tTup (jJc (tTup (jJc (tOp rMod (tOp jKz o1 tI1) o0) (jJc tI1 tNil))) (jJc (tTup (jJc (tOp rMod (tOp rSub o1 tI1) o0) (jJc tI0 tNil))) tNil)))) tNil)))
theorem kXr:RdOk jZ7 kJg qYw:=by
 intro xs G Q h_;apply xe1 h_;clear h_;intro n;refine ae3 ?_;intro hn1 hn2 kk;show kJg _ [some (.int n),none] G
 have hs:=sz
 exists kJg,jK9
 refine⟨by omega,by omega,?_⟩
 rw[show ((n:Int)).toNat=n by omega,jQt]
 refine jQ2 (λr=>encR [((r+1)%n,1),((r+n-1)%n,0)]) (by simp;omega) (λ_ _=>trivial) ?_ ?_
 .intro i r hr G' K K0 s hk
  have hrn:r<n:=by
   rw[lJe] at hr;obtain⟨q1,q2⟩:=hr;simp at q1 q2;omega
  exists tSeq
  have e1:((r:Int)+1)%(n:Int)=(((r+1)%n:Nat):Int):=by simp
  have e2:((r:Int)-1)%(n:Int)=(((r+n-1)%n:Nat):Int):=by
   rw[Int.natCast_emod,show ((r+n-1:Nat):Int)=(r:Int)-1+n by omega,Int.add_emod_right]
  rw[e1,e2];refine⟨by omega,by omega,by omega,by omega,by omega,?_⟩
  exact hk _ (.refl _)
 .intro D G' hD h1 h2
  exists jJo h1
  have:=kk G' h2;rw[encW,ring,lKf] at this;exact this
structure Fine (W:Web):Prop where
 len:W.length<=1000
 row:∀(r:Nat)(es:List (Nat×Nat)),W[r]? =some es->es.length<=1000
 rng:∀r i s j,en W r i=some (s,j)->s<W.length
theorem jQf{W:Web}{r:Nat}{es:List (Nat×Nat)}(h:W[r]? =some es):L2.atI (W.map encR) (r:Int)=some (encR es):=by rw[atN];simp[h]
theorem kUf{es:List (Nat×Nat)}{i:Nat}{e:Nat×Nat}(h:es[i]? =some e):L2.atI (es.map encE) (i:Int)=some (encE e):=by rw[atN];simp[h]
theorem jYi{n k:Nat}{x:T}(h:(rngT 0 n)[k]? =some x):k<n/\x= .int (k:Nat):=kYx h
def leE(a b:Nat×Nat):Bool:=HT.lexLe [(a.1:Int),(a.2:Int)] [(b.1:Int),(b.2:Int)]
theorem leE_iff{a b:Nat×Nat}:leE a b=true↔(a.1<b.1\/(a.1=b.1/\a.2<=b.2)):=by
 unfold leE;rw[HT.lexLe_cons,HT.lexLe_cons,HT.lexLe_nil]
 by_cases h1:a.1=b.1
 .rw[lJc (by omega)]
  by_cases h2:a.2=b.2
  .rw[lJc (by omega)];simp;omega
  .rw[lJb (by omega)];simp;omega
 .rw[lJb (by omega)];simp;omega
abbrev Tie:=(Nat×Nat)×(Nat×Nat)
def encT(x:Tie):T:= .tup [encE x.1,encE x.2]
def jZm(r:Nat)(es:List (Nat×Nat))(i:Nat):Option Tie:=match es[i]? with
 | some e=>if leE (r,i) e=true then some ((r,i),e) else none
 | none=>none
def rowE(W:Web)(r:Nat):List Tie:=match W[r]? with
 | some es=>(List.range es.length).filterMap (jZm r es)
 | none=>[]
def jQe(W:Web):List Tie:=(List.range W.length).flatMap (rowE W)
theorem jXp{r i:Nat}{es:List (Nat×Nat)}{x:Tie}(h:jZm r es i=some x):x.1=(r,i)/\es[i]? =some x.2/\leE x.1 x.2=true:=by
 unfold jZm at h;split at h
 .rename_i e he
  split at h
  .rename_i hl;cases h;exact⟨rfl,he,hl⟩
  .cases h
 .cases h
theorem endsL_mem{W:Web}{x:Tie}:x∈jQe W↔en W x.1.1 x.1.2=some x.2/\leE x.1 x.2=true:=by
 obtain⟨⟨r,i⟩,e⟩:=x;unfold jQe;rw[lQx]
 constructor
 .rintro⟨r',h1,h2⟩;unfold rowE at h2;split at h2
  .rename_i es hes
   rw[lQs] at h2;obtain⟨i',h3,h4⟩:=h2;obtain⟨q1,q2,q3⟩:=jXp h4;cases q1;exact⟨jV2 hes q2,q3⟩
  .cases h2
 .rintro⟨h1,h2⟩;obtain⟨es,q1,q2⟩:=jKv h1;refine⟨r,lJ3.mpr (lJe.mp q1).1,?_⟩;unfold rowE;rw[q1];show _∈List.filterMap _ _
  rw[lQs];refine⟨i,lJ3.mpr (lJe.mp q2).1,?_⟩;have q2:es[i]? =some e:=q2;unfold jZm;rw[q2];show (if leE (r,i) e=true then _ else _)=_
  rw[lJc h2]
theorem uVl{α β:Type}{f:α->Option β}{R:β->β->Prop}{xs:List α}(hx:xs.Nodup)(h:∀a a' b b',a≠a'->f a=some b->f a'=some b'->R b b'):(xs.filterMap f).Pairwise R:=by
 rw[List.pairwise_filterMap];exact hx.imp λhne b hb b' hb'=>h _ _ b b' hne hb hb'
theorem kYe{W:Web}:(jQe W).Nodup:=by
 unfold jQe
 have h:∀l:List Nat,l.Nodup->(l.flatMap (rowE W)).Nodup:=by
  intro l hl
  induction l with
  | nil=>exact lV0
  | cons a as ih=>
   rw[lKk] at hl;rw[List.flatMap_cons,lQa];refine⟨?_,ih hl.2,?_⟩
   .unfold rowE;split
    .refine uVl lV9 ?_;rintro i i' x x' hne hx hx' rfl;have q1:=(jXp hx).1;have q2:=(jXp hx').1;rw[q1] at q2;cases q2;exact hne rfl
    .exact lV0
   .intro x hx y hy;rintro rfl;rw[lQx] at hy;obtain⟨a',h1,h2⟩:=hy
    have fst:∀r,x∈rowE W r->x.1.1=r:=by
     intro r hr;unfold rowE at hr;split at hr
     .rw[lQs] at hr;obtain⟨i,_,h4⟩:=hr;rw[(jXp h4).1]
     .cases hr
    have:a=a':=(fst a hx).symm.trans (fst a' h2);subst this;exact hl.1 h1
 exact h _ lV9
def jU5:Sp3:=λxs G Q=>∃W:Web,xs=[encW W]/\Fine W/\∀p G',G p=none->G' p=some (.lst ((jQe W).map encT))->(jQe W).length<=1000000->Sub G G'->Q (.ref p) G'
def qYy:List Str:=["_law_web_here","_law_found","_law_room","_law_door"]
noncomputable def kJi:TS3:=
 (tSeq (tAsg (tLst tNil) M1)
 (tSeq (tFor (jK9 (jJc (tCB rLen C0) tNil)) M2 (tFor (jK9 (jJc (tCB rLen (jJc (tOp rIxF o0 o2) tNil)) tNil)) M3 (tIfS (jJv (tOp rLeF (tTup (jJc o2 C3)) (tOp rIxF (tOp rIxF o0 o2) o3))) (jQm (tBM "list" jQo o1 (jJc (tTup (jJc (tTup (jJc o2 C3)) (jJc (tOp rIxF (tOp rIxF o0 o2) o3) tNil))) tNil))) jJ5)))
 (tRet o1)))
theorem kXt:RdOk jU5 kJi qYy:=by
 intro xs G Q h_;apply xe1 h_;clear h_;intro W;refine ae2 ?_;intro fine kk;show kJi _ [some (.tup (W.map encR)),none,none,none] G
 have hs:=sz;have hl:=fine.len
 exists kJi,jJ7,jK9,List.length_map
 refine⟨lJ0 _,λp hp=>⟨by omega,by omega,?_⟩⟩
 rw[show ((W.length:Int)).toNat=W.length by omega]
 refine⟨λk τ G'=>∃(v2 v3:Option T),τ=[some (.tup (W.map encR)),some (.ref p),v2,v3]/\G' p=some (.lst (((List.range k).flatMap (rowE W)).map encT))/\((List.range k).flatMap (rowE W)).length<=1000*k/\Sub G G',?_,?_,?_,?_⟩
 .exact⟨none,none,rfl,jJg,lJ0 _,.new hp⟩
 .intros;trivial
 .intro k x τ G1 hx h_;apply xe2 h_;clear h_;intro v2 v3;refine ae3 ?_;intro h1 h2 h3;obtain⟨hk,rfl⟩:=jYi hx;have hW:W[k]? =some W[k]:=lJh hk
  generalize W[k]=es at hW
  have hes:=fine.row k es hW
  exists jJ7,jK9,jQf hW,encR,List.length_map
  refine⟨by omega,by omega,?_⟩
  rw[show ((es.length:Int)).toNat=es.length by omega]
  refine⟨λi τ G'=>∃(v3:Option T),τ=[some (.tup (W.map encR)),some (.ref p),some (.int k),v3]/\G' p=some (.lst (((List.range k).flatMap (rowE W)++(List.range i).filterMap (jZm k es)).map encT))/\((List.range k).flatMap (rowE W)++(List.range i).filterMap (jZm k es)).length<=1000*k+i/\Sub G G',?_,?_,?_,?_⟩
  .exact⟨v3,rfl,by simpa using h1,by simpa using h2,h3⟩
  .intros;trivial
  .intro i x τ G2 hx h_;apply xe1 h_;clear h_;intro v3;refine ae3 ?_;intro i1 i2 i3;obtain⟨hi,rfl⟩:=jYi hx;have hE:es[i]? =some es[i]:=lJh hi
   generalize es[i]=e at hE
   exists rLeF,jQf hW,encR,kUf hE,encE,jKx i1,i1
   refine⟨by omega,?_⟩
   have hle:HT.lexLe [(k:Int),(i:Int)] [(e.1:Int),(e.2:Int)]=leE (k,i) e:=rfl;rw[hle]
   by_cases hc:leE (k,i) e=true
   .have hcell:jZm k es i=some ((k,i),e):=by unfold jZm;rw[hE];show (if _ then _ else _)=_;rw[lJc hc]
    rw[lJc hc];refine⟨by omega,by omega,by rw[lJf];omega,?_,?_,i3.over hp⟩
    .rw[lKn,lK9];simp[hcell,encT,encE]
    .rw[lKn,lK9,lJ9,lJ9];rw[lJ9] at i2;simp[hcell] at i2 ⊢; omega
   .have hcell:jZm k es i=none:=by unfold jZm;rw[hE];show (if _ then _ else _)=_;rw[lJb hc]
    rw[lJb hc];refine⟨?_,?_,i3⟩
    .rw[lKn,lK9];simp[hcell]
    .rw[lKn,lK9];simp[hcell];simp at i2;omega
  .intro τ G' h_;apply xe1 h_;clear h_;intro v3;refine ae3 ?_;intro i1 i2 i3;rw[jUc] at i1 i2
   have e1:(List.range (k+1)).flatMap (rowE W)=(List.range k).flatMap (rowE W)++(List.range es.length).filterMap (jZm k es):=by
    rw[lKn,lV7]
    congr 1
    simp[rowE,hW]
   refine⟨_,_,rfl,by rw[e1];exact i1,by rw[e1];omega,i3⟩
 .intro τ G1 h_;apply xe2 h_;clear h_;intro v2 v3;refine ae3 ?_;intro h1 h2 h3;rw[jUc] at h1 h2
  exists tSeq
  exact kk p G1 hp h1 (by show ((List.range W.length).flatMap (rowE W)).length<=_;omega) h3
def jJm(F:List Nat):List T:=F.map λe=>T.int (e:Nat)
theorem qXy{F:List Nat}{r:Nat}:inT (.int r) (jJm F)=F.contains r:=by
 unfold inT jJm;rw[List.any_map,List.contains_eq_any_beq]
 congr 1
 funext e
 simp only[Function.comp,eqT]
 by_cases h:e=r
 .subst h;simp
 .have h2:¬ (e:Int)=r:=by omega
  have h3:¬ r=e:=λz=>h z.symm
  rw[beq_eq_false_iff_ne.mpr h3,beq_eq_false_iff_ne.mpr h2]
theorem qXz{G:Gp}{p:Addr}{F:List Nat}{r:Nat}(h:G p=some (.lst (jJm F))):inR G (.int r) (.ref p)=some (F.contains r):=by
 unfold inR;rw[jJo h];show (if _ then _ else _)=_
 rw[lJc ⟨rfl,kJ4⟩,qXy]
theorem jKe:∀{n:Nat}{F:List Nat}(hn:F.Nodup)(hl:∀x,x∈F->x<n),F.length<=n
 | 0,F,hn,hl=>by
  cases F with
  | nil=>exact lJg _
  | cons a as=>exact absurd (hl a (lKg)) (lK4 _)
 | n+1,F,hn,hl=>by
  have h1:=jKe (n:=n) (hn.erase n) (λx hx=>by
   rw[hn.mem_erase_iff] at hx;have:=hl x hx.2;omega)
  by_cases h:n∈F
  .rw[List.length_erase_of_mem h] at h1;omega
  .rw[List.erase_of_not_mem h] at h1;omega
theorem kJp{F:List Nat}{n:Nat}(hn:F.Nodup)(hl:∀x,x∈F->x<n)(he:F.length=n):∀r,r<n->r∈F:=by
 intro r hr;apply lVu;intro hm;have:(r::F).length<=n:=jKe (lKk.mpr ⟨hm,hn⟩) (λx hx=>by rw[lJk] at hx;rcases hx with rfl | hx;exact hr;exact hl x hx)
 simp at this;omega
def uU9(W:Web)(S:Nat->Prop):Prop:=∀r i s j,S r->en W r i=some (s,j)->S s
structure Found (W:Web) (r0:Nat) (F:List Nat):Prop where
 nd:F.Nodup
 lt:∀x,x∈F->x<W.length
 got:∀S,S r0->uU9 W S->∀x,x∈F->S x
def vis(F:List Nat)(es:List (Nat×Nat)):List Nat:=es.foldl (λF e=>if F.contains e.1=true then F else F++[e.1]) F
def row(W:Web)(r:Nat):List (Nat×Nat):=(W[r]?).getD []
theorem kK5{W:Web}{r:Nat}{es:List (Nat×Nat)}(h:W[r]? =some es):row W r=es:=by unfold row;rw[h];rfl
theorem jZo{F:List Nat}{es:List (Nat×Nat)}{j:Nat}{e:Nat×Nat}(h:es[j]? =some e):vis F (es.take (j+1))=if (vis F (es.take j)).contains e.1=true then vis F (es.take j) else vis F (es.take j)++[e.1]:=by
 unfold vis;rw[lV3,h,List.foldl_append];rfl
def bfsN(W:Web):Nat->Nat->List Nat->List Nat
 | 0,_,F=>F
 | n+1,k,F=>match F[k]? with
  | some r=>bfsN W n (k+1) (vis F (row W r))
  | none=>F
def bfs(W:Web)(r:Nat):List Nat:=bfsN W W.length 0 [r]
theorem kKe{W:Web}{n k:Nat}{F:List Nat}(h:F.length<=k):bfsN W n k F=F:=by
 cases n with
 | zero=>rfl
 | succ n=>rw[bfsN,lJz h]
theorem kKd{W:Web}{n k r:Nat}{F:List Nat}(h:F[k]? =some r):bfsN W (n+1) k F=bfsN W n (k+1) (vis F (row W r)):=by rw[bfsN,h]
noncomputable def jV6:Sp3:=λxs G Q=>∃(W:Web)(r0:Nat),xs=[encW W,.int r0]/\Fine W/\r0<W.length/\∀p G' F,G p=none->G' p=some (.lst (jJm F))->Found W r0 F->F=bfs W r0->Sub G G'->Q (.ref p) G'
def kYp:List Str:=["_law_web_here","_law_room","_law_found","_law_at","_law_other","_law_door"]
noncomputable def jXb:TS3:=
 (tSeq (tAsg (tLst C1) M2)
 (tSeq (tAsg tI0 M3)
 (tSeq (jYe (jJv (tOp rLt o3 (tCB rLen C2))) (tSeq (tFor (iSeq (tOp rIxF o0 (tOp rIxF o2 o3))) (gTup 2 (jKd M4 (jKd M5 gNil))) (tIfS (jJv (tOp jUd o4 o2)) (jQm (tBM "list" jQo o2 C4)) jJ5))
 (tAsg (tOp jKz o3 tI1) M3)))
 (tRet o2))))
theorem kKn:RdOk jV6 jXb kYp:=by
 intro xs G Q h_;apply xe2 h_;clear h_;intro W r0;refine ae3 ?_;intro fine hr0 kk;show jXb _ [some (.tup (W.map encR)),some (.int r0),none,none,none,none] G
 have hs:=sz;have hl:=fine.len
 exists jXb,jYe,jJ7
 refine⟨by omega,λp hp=> ?_⟩
 refine⟨λm τ G'=>∃(at':Nat)(v4 v5:Option T)(F:List Nat),τ=[some (.tup (W.map encR)),some (.int r0),some (.ref p),some (.int at'),v4,v5]/\G' p=some (.lst (jJm F))/\Found W r0 F/\Sub G G'/\bfs W r0=bfsN W (W.length-at') at' F/\m=W.length-at',⟨_,0,none,none,[r0],rfl,jJg,⟨by simp,by simpa using hr0,λS h0 _ x hx=>by rw[lJ5] at hx;rw[hx];exact h0⟩,.new hp,rfl,rfl⟩,?_⟩
 intro m τ G1 h_;apply xe4 h_;clear h_;intro at' v4 v5 F;refine ae5 ?_;intro h1 h2 h3 hB e4_;subst e4_
 exists iSeq,jJo h1,jKp h1
 have hFl:=jKe h2.nd h2.lt;split
 .rename_i hc
  have hat:at'<F.length:=by rw[jJm,lJf] at hc;omega
  have hF:F[at']? =some F[at']:=lJh hat;have hfm:F[at']∈F:=lV8 hat
  generalize F[at']=r at hF hfm
  have hrW:=h2.lt r hfm;have hW:W[r]? =some W[r]:=lJh hrW
  generalize W[r]=es at hW
  have hatI:L2.atI (jJm F) (at':Int)=some (.int r):=by rw[atN];simp[jJm,hF]
  exists hatI,jQf hW,encR
  refine⟨λτ G'=>∃(v4 v5:Option T)(F:List Nat),τ=[some (.tup (W.map encR)),some (.int r0),some (.ref p),some (.int ((at'+1:Nat):Int)),v4,v5]/\G' p=some (.lst (jJm F))/\Found W r0 F/\Sub G G'/\bfs W r0=bfsN W (W.length-(at'+1)) (at'+1) F,?_,?_⟩
  .intro τ' G' h_;apply xe3 h_;clear h_;intro v4 v5 F';refine ae4 ?_;intro i1 i2 i3 iB;exact⟨W.length-(at'+1),by omega,at'+1,v4,v5,rfl,F',i1,i2,i3,iB,rfl⟩
  .refine⟨λj τ G'=>∃(v4 v5:Option T)(F':List Nat),τ=[some (.tup (W.map encR)),some (.int r0),some (.ref p),some (.int at'),v4,v5]/\G' p=some (.lst (jJm F'))/\r∈F'/\Found W r0 F'/\Sub G G'/\F'=vis F (es.take j),?_,?_,?_,?_⟩
   .exact⟨v4,v5,F,rfl,h1,hfm,h2,h3,rfl⟩
   .intros;trivial
   .intro j x τ G2 hx0 h_;apply xe3 h_;clear h_;intro v4 v5 F0;refine ae5 ?_;intro i1 i2 i3 i4 iB;obtain⟨⟨s,t⟩,hx,rfl⟩:=jK4 hx0;have hen:=jV2 hW hx
    exists encE,jUd,qXz i1,jKx i1,i1
    by_cases hm:s∈F0
    .rw[lJb (by simp[hm])]
     exact⟨F0,rfl,i2,i3,i4,by rw[jZo hx,<-iB,lJc (by simpa using hm)]⟩
    .rw[lJc (by simp[hm])]
     have hFl:=jKe i3.nd i3.lt;refine⟨by rw[jJm,lJf];omega,F0++[s],by simp[jJm],lQj _ i2,⟨?_,?_,?_⟩,i4.over hp,by rw[jZo hx,<-iB,lJb (by simpa using hm)]⟩
     .rw[lQa];exact⟨i3.nd,by simp,λa ha b hb=>by rw[lJ5] at hb;subst hb;rintro rfl;exact hm ha⟩
     .intro x hx;rw[lKt,lJ5] at hx
      rcases hx with hx | rfl
      .exact i3.lt x hx
      .exact fine.rng _ _ _ _ hen
     .intro S h0 hc x hx;rw[lKt,lJ5] at hx
      rcases hx with hx | rfl
      .exact i3.got S h0 hc x hx
      .exact hc _ _ _ _ (i3.got S h0 hc r i2) hen
   .intro τ G' h_;apply xe3 h_;clear h_;intro v4 v5 F0;refine ae5 ?_;intro i1 i2 i3 i4 iB
    exists tSeq
    refine⟨by simp,F0,i1,i3,i4,?_⟩
    rw[lJf,lVl] at iB;rw[hB,show W.length-at'=W.length-(at'+1)+1 by omega,kKd hF,kK5 hW,<-iB]
 .rename_i hc
  exact kk p G1 F hp h1 h2 (by rw[hB,kKe (by rw[jJm,lJf] at hc;omega)]) h3
structure Turn (m:Nat) (σ:List Nat):Prop where
 len:σ.length=m
 nd:σ.Nodup
 lt:∀x,x∈σ->x<m
def Invol(σ:List Nat):Prop:=∀(k x:Nat),σ[k]? =some x->σ[x]? =some k
theorem Turn.at{m:Nat}{σ:List Nat}(h:Turn m σ){k:Nat}(hk:k<m):∃x,σ[k]? =some x/\x<m:=by
 have hk':k<σ.length:=by rw[h.len];exact hk
 exact⟨σ[k],lJh hk',h.lt _ (lV8 hk')⟩
theorem Turn.onto{m:Nat}{σ:List Nat}(h:Turn m σ){x:Nat}(hx:x<m):∃k,k<m/\σ[k]? =some x:=by
 obtain⟨k,hk⟩:=lJ4 (kJp h.nd h.lt h.len x hx);exact⟨k,by rw[<-h.len];exact (lJe.mp hk).1,hk⟩
theorem Turn.inj{m:Nat}{σ:List Nat}(h:Turn m σ){k k' x:Nat}(h1:σ[k]? =some x)(h2:σ[k']? =some x):k=k':=
 (lVn (lJe.mp h1).1 h.nd).mp (h1.trans h2.symm)
theorem Invol.turn{m:Nat}{σ:List Nat}(hl:σ.length=m)(h:Invol σ):Turn m σ where
 len:=hl
 nd:=by
  unfold List.Nodup;refine lYv.mpr ?_;intro i j hi hj hij e;have h1:=h j _ (lJh hj);have h2:=h i _ (lJh hi);rw[e,h1] at h2;cases h2;omega
 lt:=λx hx=>by
  obtain⟨k,hk⟩:=lJ4 hx;rw[<-hl];exact (lJe.mp (h k x hk)).1
theorem Invol.swap{σ:List Nat}{a b:Nat}(h:Invol σ)(ha:σ[a]? =some a)(hb:σ[b]? =some b)(hab:a≠b):Invol ((σ.set a b).set b a):=by
 have hal:=(lJe.mp ha).1;have hbl:=(lJe.mp hb).1
 have gt:∀k,((σ.set a b).set b a)[k]? =if k=b then some a else if k=a then some b else σ[k]? :=by
  intro k
  by_cases h1:k=b
  .subst h1;rw[lJc rfl,lKi (by simpa using hbl)]
  .rw[lJb h1,lKh (λz=>h1 z.symm)]
   by_cases h2:k=a
   .subst h2;rw[lJc rfl,lKi hal]
   .rw[lJb h2,lKh (λz=>h2 z.symm)]
 intro k x hk;rw[gt] at hk ⊢
 by_cases h1:k=b
 .subst h1;rw[lJc rfl] at hk;cases hk;rw[lJb hab,lJc rfl]
 .rw[lJb h1] at hk
  by_cases h2:k=a
  .subst h2;rw[lJc rfl] at hk;cases hk;rw[lJc rfl]
  .rw[lJb h2] at hk;have hx:=h k x hk;have h3:x≠b:=by rintro rfl;rw[hb] at hx;cases hx;exact h1 rfl
   have h4:x≠a:=by rintro rfl;rw[ha] at hx;cases hx;exact h2 rfl
   rw[lJb h3,lJb h4];exact hx
noncomputable def jZ6:Sp3:=λxs G Q=>∃(b:Addr)(m n:Nat)(own:Bool),xs=[.ref b,.int m,.bl own]/\BoxAt G b n/\n+m<2^40/\1<=m/\m<=1000/\∀ σ G',Turn m σ->(own=true->Invol σ)->BoxAt G' b (n+m)->Keep b G G'->Q (.tup (jJm σ)) G'
def qYu:List Str:=["_law_box_here","_law_many","_law_own","_law_order","_law_k","_law_turn_here","_law_one","_law_other"]
noncomputable def kJe:TS3:=
 (tSeq (tAsg (tLst tNil) M3)
 (tSeq (tFor (jK9 C1) M4 (jQm (tBM "list" kJj o3 (jJc (jJq jJx (jJc o0 (jJc (tOp jKz o4 tI1) tNil))) C4))))
 (tSeq (tIfS (tNot (tTru rTru o2)) (tRet (tCB jK3 C3)) jJ5)
 (tSeq (tAsg (jUh C1) M5)
 (tSeq (tFor (qX3 (jJc tI0 (jJc (tOp rSub o1 tI1) (jJc tI2 tNil)))) M4 (tSeq (tPar 6 7 (jJc (tOp rIxF o3 o4) (jJc (tOp rIxF o3 (tOp jKz o4 tI1)) tNil)))
 (tSeq (tAsg o7 (gSub o5 o6 jV0))
 (tAsg o6 (gSub o5 o7 jV0)))))
 (tRet (tCB jK3 C5)))))))
theorem kXp:RdOk jZ6 kJe qYu:=by
 intro xs G Q h_;apply xe4 h_;clear h_;intro b m n own;refine ae5 ?_;intro hb hn hm1 hm2 kk;show kJe _ [some (.ref b),some (.int m),some (.bl own),none,none,none,none,none] G
 have hs:=sz;obtain⟨bo,hbo⟩:=hb.some
 exists kJe,jJ7,jK9,qX3,jUh
 refine⟨lJ0 _,λo ho=>⟨by omega,by omega,?_⟩⟩
 have hob:=jJf hbo ho;rw[show ((m:Int)).toNat=m by omega]
 refine⟨λk τ G'=>∃(v4:Option T)(σ:List Nat),τ=[some (.ref b),some (.int m),some (.bl own),some (.ref o),v4,none,none,none]/\G' o=some (.lst (jJm σ))/\Turn k σ/\BoxAt G' b (n+k)/\Keep b G G',?_,?_,?_,?_⟩
 .exact⟨none,[],rfl,jJg,⟨rfl,lV0,λx hx=>by cases hx⟩,hb.gup hob,.new ho⟩
 .intros;trivial
 .intro k x τ G1 hx h_;apply xe2 h_;clear h_;intro v4 σ;refine ae4 ?_;intro h1 h2 h3 h4;obtain⟨hk,rfl⟩:=jYi hx
  exists jKx h1
  refine⟨b,_,n+k,rfl,h3,by omega,by omega,by omega,λc G2 c0 c1 bx kp=> ?_⟩
  have h1':=kp _ _ hob.symm h1;refine⟨jJm σ,c,rfl,h1',c0,by rw[jJm,lJf,h2.len];omega,by rw[jJm,lJf,h2.len];omega,σ.take c.toNat++k::σ.drop c.toNat,?_,⟨?_,?_,?_⟩,bx.gup hob,(h4.trans kp).over ho⟩
  .simp[insT,jJm,lXy,List.map_drop]
  .rw[ins_perm.length_eq,lJ9,h2.len];rfl
  .rw[ins_perm.nodup_iff,lQa];exact⟨h2.nd,by simp,λa ha e he=>by rw[lJ5] at he;subst he;have:=h2.lt a ha;omega⟩
  .intro x hx;rw[ins_perm.mem_iff,lKt,lJ5] at hx
   rcases hx with hx | rfl
   .have:=h2.lt x hx;omega
   .omega
 .intro τ G1 h_;apply xe2 h_;clear h_;intro v4 σ;refine ae4 ?_;intro h1 h2 h3 h4;rw[jUc] at h2 h3
  exists jJo h1
  cases own with
  | false=>exact kk σ G1 h2 (λz=>by cases z) h3 h4
  | true=>
   exists jJ7,qX3,jUh
   refine⟨by omega,by omega,λt ht=> ?_⟩
   have hto:=jJf h1 ht;have htb:b≠t:=by obtain⟨u,hu⟩:=h3.some;exact jJf hu ht
   have ht0:=h4.none htb.symm ht
   have hsm:Builtin.Range.small 0 ((m:Int)-1) 2=true:=by
    unfold Builtin.Range.small Builtin.Range.rangeSize;simp only[Builtin.Range.rangeFitsLong,lKl,Bool.or_eq_true,lX9,beq_iff_eq,show (2:Int)>0 by decide,lJ7]
    split<;>omega
   refine⟨by decide,by decide,hsm,?_⟩
   have hN:(Builtin.Range.rangeSize 0 ((m:Int)-1) 2).toNat=m / 2:=by
    unfold Builtin.Range.rangeSize;rw[lJc (by decide)]
    split<;>omega
   rw[hN,show ((m:Int)).toNat=m by omega,jQt]
   refine⟨λk τ G'=>∃(v4 v6 v7:Option T)(ρ:List Nat),τ=[some (.ref b),some (.int m),some (.bl true),some (.ref o),v4,some (.ref t),v6,v7]/\G' t=some (.lst (jJm ρ))/\G' o=some (.lst (jJm σ))/\Invol ρ/\ρ.length=m/\(∀i x,2*k<=i->σ[i]? =some x->ρ[x]? =some x)/\BoxAt G' b (n+m)/\Keep b G G',?_,?_,?_,?_⟩
   .refine⟨_,_,_,List.range m,rfl,jJg,by rw[jJl hto];exact h1,?_,by simp,?_,h3.gup htb,h4.over ht0⟩
    .intro k x hk;obtain⟨q1,q2⟩:=lJe.mp hk;simp at q1 q2;subst q2;exact hk
    .intro i x _ hx;have:=h2.lt x (lJm hx);simp[this]
   .intros;trivial
   .intro k x τ G2 hx h_;apply xe4 h_;clear h_;intro v4 v6 v7 ρ;refine ae7 ?_;intro i1 i2 i3 i4 i5 i6 i7
    obtain⟨hk,rfl⟩:k<m / 2/\x= .int ((2*k:Nat):Int):=by
     obtain⟨q1,q2⟩:=lJe.mp hx;simp[rngS] at q1 q2;refine⟨q1,?_⟩;rw[<-q2];congr 1;omega
    obtain⟨a,ha,_⟩:=h2.at (show 2*k<m by omega)
    obtain⟨c,hc,_⟩:=h2.at (show 2*k+1<m by omega)
    have hca:L2.atI (jJm σ) ((2*k:Nat):Int)=some (.int (a:Nat)):=by rw[atN];simp[jJm,ha]
    have hcc:L2.atI (jJm σ) (((2*k:Nat):Int)+1)=some (.int (c:Nat)):=by rw[show ((2*k:Nat):Int)+1=((2*k+1:Nat):Int) by omega,atN];simp[jJm,hc]
    have hac:a≠c:=by rintro rfl;have:=h2.inj ha hc;omega
    have fa:=i5 (2*k) a (lJg _) ha;have fc:=i5 (2*k+1) c (by omega) hc
    have hal:a<ρ.length:=(lJe.mp fa).1;have hcl:c<ρ.length:=(lJe.mp fc).1;have ixa:L2.ixN (jJm ρ).length (a:Int)=some a:=kVk (by rw[jJm,lJf];exact hal)
    have ixc:L2.ixN ((jJm ρ).set a (.int (c:Nat))).length (c:Int)=some c:=kVk (by rw[lQt,jJm,lJf];exact hcl)
    exists jKp i2,hca,hcc,jYh i1 ixa,ixc
    have e1:((jJm ρ).set a (.int (c:Nat))).set c (.int (a:Nat))=jJm ((ρ.set a c).set c a):=by simp[jJm,List.map_set]
    rw[e1];refine⟨(ρ.set a c).set c a,rfl,by rw[jJl hto];exact i2,i3.swap fa fc hac,by simp[i4],?_,i6.gup htb,i7.over ht0⟩
    intro i x hi hx;have hxa:a≠x:=by rintro rfl;have:=h2.inj ha hx;omega
    have hxc:c≠x:=by rintro rfl;have:=h2.inj hc hx;omega
    rw[lKh hxc,lKh hxa];exact i5 i x (by omega) hx
   .intro τ G2 h_;apply xe4 h_;clear h_;intro v4 v6 v7 ρ;refine ae7 ?_;intro i1 i2 i3 i4 i5 i6 i7
    exists jJo i1
    exact kk ρ G2 (i3.turn i4) (λ_=>i3) i6 i7
structure TurnsOk (W:Web) (m:Nat) (Ts:List (List Nat)):Prop where
 len:Ts.length=(jQe W).length
 ok:∀(t:Nat)(x:Tie)(σ:List Nat),(jQe W)[t]? =some x->Ts[t]? =some σ->Turn m σ/\(x.1=x.2->Invol σ)
def Bel(W:Web)(Ts:List (List Nat))(x i y j:Nat):Prop:=∃(t:Nat)(e f:Nat×Nat)(σ:List Nat)(k k':Nat),(jQe W)[t]? =some (e,f)/\Ts[t]? =some σ/\σ[k]? =some k'/\
 ((x=e.1+k*W.length/\i=e.2/\y=f.1+k'*W.length/\j=f.2)\/(y=e.1+k*W.length/\j=e.2/\x=f.1+k'*W.length/\i=f.2))
theorem Bel.symm{W:Web}{Ts:List (List Nat)}{x i y j:Nat}(h:Bel W Ts x i y j):Bel W Ts y j x i:=by
 obtain⟨t,e,f,σ,k,k',h1,h2,h3,h4⟩:=h;exact⟨t,e,f,σ,k,k',h1,h2,h3,h4.symm⟩
theorem spl{n r k r' k':Nat}(h1:r<n)(h2:r'<n)(h:r+k*n=r'+k'*n):r=r'/\k=k':=by
 have e1:(r+k*n)%n=r:=by rw[lY0,lQe h1]
 have e2:(r'+k'*n)%n=r':=by rw[lY0,lQe h2]
 have hn:0<n:=by omega
 have e3:(r+k*n) / n=k:=by rw[Nat.add_mul_div_right _ _ hn,Nat.div_eq_of_lt h1,Nat.zero_add]
 have e4:(r'+k'*n) / n=k':=by rw[Nat.add_mul_div_right _ _ hn,Nat.div_eq_of_lt h2,Nat.zero_add]
 rw[h] at e1 e3;exact⟨e1.symm.trans e2,e3.symm.trans e4⟩
theorem kQp{W:Web}{t:Nat}{x:Tie}(h:(jQe W)[t]? =some x):en W x.1.1 x.1.2=some x.2/\leE x.1 x.2=true:=endsL_mem.mp (lJm h)
theorem kQo{W:Web}{t t':Nat}{x:Tie}(h:(jQe W)[t]? =some x)(h':(jQe W)[t']? =some x):t=t':=(lVn (lJe.mp h).1 kYe).mp (h.trans h'.symm)
theorem Bel.fn{W:Web}{m:Nat}{Ts:List (List Nat)}{x i y j y' j':Nat}(hs:Sym W)(ok:TurnsOk W m Ts)(h:Bel W Ts x i y j)(h':Bel W Ts x i y' j'):y=y'/\j=j':=by
 obtain⟨t,e,f,σ,k,l,h1,h2,h3,h4⟩:=h;obtain⟨t',e',f',σ',k',l',h1',h2',h3',h4'⟩:=h';obtain⟨q1,q2⟩:=kQp h1;obtain⟨q1',q2'⟩:=kQp h1';have q1:en W e.1 e.2=some (f.1,f.2):=q1;have q1':en W e'.1 e'.2=some (f'.1,f'.2):=q1';have qs:=hs _ _ _ _ q1;have qs':=hs _ _ _ _ q1';have l1:=jUf q1;have l2:=jUf qs;have l1':=jUf q1';have l2':=jUf qs';obtain⟨e1,e2⟩:=e;obtain⟨f1,f2⟩:=f;obtain⟨e1',e2'⟩:=e';obtain⟨f1',f2'⟩:=f';obtain⟨T1,T2⟩:=ok.ok _ _ _ h1 h2;simp only at *
 rcases h4 with ⟨rfl,rfl,rfl,rfl⟩ | ⟨rfl,rfl,rfl,rfl⟩<;>rcases h4' with ⟨z1,rfl,rfl,rfl⟩ | ⟨rfl,rfl,z1,rfl⟩
 .obtain⟨rfl,rfl⟩:=spl l1 l1' z1;rw[q1] at q1';cases q1';have:=kQo h1 h1';subst this;rw[h2] at h2';cases h2';rw[h3] at h3';cases h3';exact⟨rfl,rfl⟩
 .obtain⟨rfl,rfl⟩:=spl l1 l2' z1;rw[q1] at qs';cases qs';have a1:=leE_iff.mp q2;have a2:=leE_iff.mp q2';simp only at a1 a2;have:e1=f1/\i=j:=by omega
  obtain⟨rfl,rfl⟩:=this;have:=kQo h1 h1';subst this;rw[h2] at h2';cases h2';have:=T2 rfl _ _ h3';rw[h3] at this;cases this;exact⟨rfl,rfl⟩
 .obtain⟨rfl,rfl⟩:=spl l2 l1' z1;rw[qs] at q1';cases q1';have a1:=leE_iff.mp q2;have a2:=leE_iff.mp q2';simp only at a1 a2;have:e1=f1/\j=i:=by omega
  obtain⟨rfl,rfl⟩:=this;have:=kQo h1 h1';subst this;rw[h2] at h2';cases h2';have:=T2 rfl _ _ h3;rw[h3'] at this;cases this;exact⟨rfl,rfl⟩
 .obtain⟨rfl,rfl⟩:=spl l2 l2' z1;rw[qs] at qs';cases qs';have:=kQo h1 h1';subst this;rw[h2] at h2';cases h2';have:=T1.inj h3 h3';subst this;exact⟨rfl,rfl⟩
def cl(M:List (List T))(x i:Nat):Option T:=(M[x]?).bind λts=>ts[i]?
def put(M:List (List T))(x i:Nat)(v:T):List (List T):=match M[x]? with
 | some ts=>M.set x (ts.set i v)
 | none=>M
theorem kUo{M:List (List T)}{x i:Nat}{v:T}(h:cl M x i=some v):∃ts,M[x]? =some ts/\ts[i]? =some v:=by
 unfold cl at h;cases e1:M[x]? with
 | none=>rw[e1] at h;cases h
 | some ts=>rw[e1] at h;exact⟨ts,rfl,h⟩
theorem kVz{M:List (List T)}{x i:Nat}{ts:List T}(h1:M[x]? =some ts):cl M x i=ts[i]? :=by unfold cl;rw[h1];rfl
theorem kZz{M:List (List T)}{x i:Nat}{v u:T}(h:cl M x i=some u)(x' i':Nat):cl (put M x i v) x' i'=if x'=x/\i'=i then some v else cl M x' i':=by
 obtain⟨ts,h1,h2⟩:=kUo h;have hx:=(lJe.mp h1).1;have hi:=(lJe.mp h2).1;unfold put;rw[h1];show cl (M.set x (ts.set i v)) x' i'=_
 by_cases hxx:x'=x
 .subst hxx;rw[kVz (lKi hx),kVz h1]
  by_cases hii:i'=i
  .subst hii;rw[lKi hi,lJc ⟨rfl,rfl⟩]
  .rw[lKh (λz=>hii z.symm),lJb (λz=>hii z.2)]
 .rw[lJb (λz=>hxx z.1)]
  unfold cl;rw[lKh (λz=>hxx z.symm)]
structure SInv (W:Web) (m:Nat) (Ts:List (List Nat)) (M:List (List T)):Prop where
 len:M.length=m*W.length
 row:∀(x:Nat)(ts:List T),M[x]? =some ts->∃es,W[x%W.length]? =some es/\ts.length=es.length
 val:∀x i v,cl M x i=some v->v= .non\/∃y j,Bel W Ts x i y j/\v=encE (y,j)
def Fl(M:List (List T))(x i:Nat):Prop:=∃e,cl M x i=some (encE e)
theorem SInv.at{W:Web}{m:Nat}{Ts:List (List Nat)}{M:List (List T)}{r i k:Nat}{e:Nat×Nat}(h:SInv W m Ts M)(hk:k<m)(he:en W r i=some e):∃ts,M[r+k*W.length]? =some ts/\i<ts.length:=by
 obtain⟨es,h1,h2⟩:=jKv he;have hr:=jUf he
 have hx:r+k*W.length<M.length:=by
  rw[h.len];have:(k+1)*W.length<=m*W.length:=lX1 _ hk;rw[lQu] at this;omega
 have hM:M[r+k*W.length]? =some M[r+k*W.length]:=lJh hx;obtain⟨es',q1,q2⟩:=h.row _ _ hM;rw[lY0,lQe hr,h1] at q1;cases q1;exact⟨_,hM,by rw[q2];exact (lJe.mp h2).1⟩
theorem SInv.put{W:Web}{m:Nat}{Ts:List (List Nat)}{M:List (List T)}{x i y j:Nat}{ts:List T}(h:SInv W m Ts M)(hx:M[x]? =some ts)(hi:i<ts.length)(hb:Bel W Ts x i y j):
  SInv W m Ts (M.set x (ts.set i (encE (y,j))))/\Fl (M.set x (ts.set i (encE (y,j)))) x i/\∀x' i',Fl M x' i'->Fl (M.set x (ts.set i (encE (y,j)))) x' i':=by
 have hc:cl M x i=some ts[i]:=by rw[kVz hx];exact lJh hi
 have hp:M.set x (ts.set i (encE (y,j)))=_root_.W.put M x i (encE (y,j)):=by unfold _root_.W.put;rw[hx]
 have hxl:=(lJe.mp hx).1;refine⟨⟨by rw[lQt];exact h.len,λx' ts' h'=> ?_,λx' i' v hv=> ?_⟩,?_,λx' i' ⟨e,he⟩=> ?_⟩
 .by_cases hxx:x'=x
  .subst hxx;rw[lKi hxl] at h';cases h';rw[lQt];exact h.row _ _ hx
  .rw[lKh (λz=>hxx z.symm)] at h';exact h.row _ _ h'
 .rw[hp,kZz hc] at hv
  by_cases hxx:x'=x/\i'=i
  .rw[lJc hxx] at hv;cases hv;obtain⟨rfl,rfl⟩:=hxx;exact .inr ⟨y,j,hb,rfl⟩
  .rw[lJb hxx] at hv;exact h.val _ _ _ hv
 .exact⟨(y,j),by rw[hp,kZz hc,lJc ⟨rfl,rfl⟩]⟩
 .by_cases hxx:x'=x/\i'=i
  .exact⟨(y,j),by rw[hp,kZz hc,lJc hxx]⟩
  .exact⟨e,by rw[hp,kZz hc,lJb hxx];exact he⟩
structure Sheet (W:Web) (m:Nat) (V:Web):Prop where
 len:V.length=m*W.length
 row:∀(x:Nat)(ts:List (Nat×Nat)),V[x]? =some ts->∃es,W[x%W.length]? =some es/\ts.length=es.length
 sym:Sym V
def uKv(W:Web)(m:Nat)(Ts:List (List Nat))(M:List (List T))(d:Nat->Nat->Prop):Prop:=∀t k e f σ k',d t k->(jQe W)[t]? =some (e,f)->Ts[t]? =some σ->σ[k]? =some k'->Fl M (e.1+k*W.length) e.2/\Fl M (f.1+k'*W.length) f.2
def dec:T->Nat×Nat
 | .tup [.int a,.int b]=>(a.toNat,b.toNat)
 | _=>(0,0)
theorem kJ9{e:Nat×Nat}:dec (encE e)=e:=by obtain⟨a,b⟩:=e;simp[encE,dec]
theorem qVq{W:Web}{m:Nat}{Ts:List (List Nat)}{M:List (List T)}(hs:Sym W)(ok:TurnsOk W m Ts)(h:SInv W m Ts M)(hd:uKv W m Ts M λt k=>t<(jQe W).length/\k<m):Sheet W m (M.map (List.map dec))/\M=(M.map (List.map dec)).map (List.map encE):=by
 have full:∀x i v,cl M x i=some v->Fl M x i:=by
  intro x i v hv;obtain⟨ts,h1,h2⟩:=kUo hv;obtain⟨es,q1,q2⟩:=h.row _ _ h1;have hx:x<m*W.length:=by rw[<-h.len];exact (lJe.mp h1).1
  have hi:i<es.length:=by rw[<-q2];exact (lJe.mp h2).1
  have hW:0<W.length:=by rcases Nat.eq_zero_or_pos W.length with z | z;rw[z] at hx;omega;exact z
  have hk:x / W.length<m:=Nat.div_lt_of_lt_mul (by rw[lXo];exact hx)
  have hxe:x%W.length+x / W.length*W.length=x:=by rw[lXo];exact Nat.mod_add_div x W.length
  have he:=jV2 q1 (lJh hi)
  generalize es[i]=e at he
  obtain⟨s,j⟩:=e
  by_cases hle:leE (x%W.length,i) (s,j)=true
  .obtain⟨t,ht⟩:=lJ4 (endsL_mem (x:=((x%W.length,i),(s,j))).mpr ⟨he,hle⟩);have htl:=(lJe.mp ht).1;have htT:t<Ts.length:=by rw[ok.len];exact htl
   have hσ:Ts[t]? =some Ts[t]:=lJh htT;obtain⟨k',hk',_⟩:=(ok.ok _ _ _ ht hσ).1.at hk;have:=(hd t _ _ _ _ _ ⟨htl,hk⟩ ht hσ hk').1;simp only at this;rw[hxe] at this;exact this
  .have hle2:leE (s,j) (x%W.length,i)=true:=by
    rw[leE_iff] at hle ⊢; simp only at hle ⊢; omega
   obtain⟨t,ht⟩:=lJ4 (endsL_mem (x:=((s,j),(x%W.length,i))).mpr ⟨hs _ _ _ _ he,hle2⟩);have htl:=(lJe.mp ht).1;have htT:t<Ts.length:=by rw[ok.len];exact htl
   have hσ:Ts[t]? =some Ts[t]:=lJh htT;obtain⟨k0,hk0,hk1⟩:=(ok.ok _ _ _ ht hσ).1.onto hk;have:=(hd t _ _ _ _ _ ⟨htl,hk0⟩ ht hσ hk1).2;simp only at this;rw[hxe] at this;exact this
 have enM:∀x i e,en (M.map (List.map dec)) x i=some e->cl M x i=some (encE e)/\Bel W Ts x i e.1 e.2:=by
  intro x i e he;obtain⟨es,h1,h2⟩:=jKv he;rw[lJr] at h1;cases e1:M[x]? with
  | none=>rw[e1] at h1;cases h1
  | some ts=>
   rw[e1] at h1;cases h1;rw[lJr] at h2;cases e2:ts[i]? with
   | none=>rw[e2] at h2;cases h2
   | some v=>
    rw[e2] at h2;cases h2;have hc:cl M x i=some v:=by rw[kVz e1];exact e2
    obtain⟨e',he'⟩:=full x i v hc;rw[hc] at he';cases he';rw[kJ9];refine⟨hc,?_⟩
    rcases h.val _ _ _ hc with z | ⟨y,j,hb,z⟩
    .cases z
    .have:e'=(y,j):=by rw[<-kJ9 (e:=e'),z,kJ9]
     rw[this];exact hb
 have toM:∀x i e,cl M x i=some (encE e)->en (M.map (List.map dec)) x i=some e:=by
  intro x i e he;obtain⟨ts,h1,h2⟩:=kUo he;exact jV2 (es:=ts.map dec) (by simp[h1]) (by simp[h2,kJ9])
 refine⟨⟨by rw[lJf];exact h.len,λx ts hx=> ?_,λx i y j he=> ?_⟩,?_⟩
 .rw[lJr] at hx;cases e1:M[x]? with
  | none=>rw[e1] at hx;cases hx
  | some us=>
   rw[e1] at hx;cases hx;rw[lJf];exact h.row _ _ e1
 .obtain⟨h1,h2⟩:=enM x i (y,j) he;have h3:Bel W Ts y j x i:=h2.symm
  have hin:∃v,cl M y j=some v:=by
   obtain⟨t,e,f,σ,k,k',q1,q2,q3,q4⟩:=h3;obtain⟨z1,z2⟩:=kQp q1;have z1:en W e.1 e.2=some (f.1,f.2):=z1;have T1:=(ok.ok _ _ _ q1 q2).1;have hk:k<m:=by rw[<-T1.len];exact (lJe.mp q3).1
   have hk':k'<m:=T1.lt _ (lJm q3)
   rcases q4 with ⟨a1,a2,_,_⟩ | ⟨_,_,a1,a2⟩
   .obtain⟨ts,b1,b2⟩:=h.at hk z1;exact⟨ts[e.2],by rw[a1,a2,kVz b1];exact lJh b2⟩
   .obtain⟨ts,b1,b2⟩:=h.at hk' (hs _ _ _ _ z1);exact⟨ts[f.2],by rw[a1,a2,kVz b1];exact lJh b2⟩
  obtain⟨v,hv⟩:=hin;obtain⟨e',he'⟩:=full y j v hv;have h4:=toM y j e' he';obtain⟨_,h5⟩:=enM y j e' h4;obtain⟨a1,a2⟩:=Bel.fn hs ok h3 h5;rw[h4,<-show (e'.1,e'.2)=e' from rfl,<-a1,<-a2]
 .rw[lKf]
  conv=>lhs;rw[<-List.map_id M]
  apply lXz;intro ts hts;show ts=(ts.map dec).map encE
  rw[lKf]
  conv=>lhs;rw[<-List.map_id ts]
  apply lXz;intro v hv;obtain⟨x,hx⟩:=lJ4 hts;obtain⟨i,hi⟩:=lJ4 hv;obtain⟨e,he⟩:=full x i v (by rw[kVz hx];exact hi)
  rw[kVz hx,hi] at he;cases he;show encE e=encE (dec (encE e))
  rw[kJ9]
def RowsT(G:Gp)(h:Addr)(M:List (List T))(rs:List Addr):Prop:=G h=some (.lst (rs.map T.ref))/\rs.length=M.length/\∀(i:Nat)(r:Addr),rs[i]? =some r->∃ts:List T,M[i]? =some ts/\G r=some (.lst ts)
theorem RowsT.set{G:Gp}{h:Addr}{M:List (List T)}{rs:List Addr}{r:Nat}{a:Addr}{ts:List T}(x:RowsT G h M rs)(hn:(h::rs).Nodup)(hr:rs[r]? =some a):RowsT (gup G a (.lst ts)) h (M.set r ts) rs:=by
 rw[lKk] at hn;have hrl:r<rs.length:=(lJe.mp hr).1;refine⟨by rw[jJl];exact x.1;rintro rfl;exact hn.1 (lJm hr),by rw[lQt];exact x.2.1,λi c e=> ?_⟩
 by_cases hi:i=r
 .subst hi;rw[hr] at e;cases e;exact⟨ts,by rw[lKi];rw[<-x.2.1];exact hrl,jJg⟩
 .obtain⟨us,h1,h2⟩:=x.2.2 i c e;refine⟨us,by rw[lKh (Ne.symm hi)];exact h1,?_⟩
  rw[jJl];exact h2;rintro rfl;have hil:i<rs.length:=(lJe.mp e).1;exact hi ((lVn hil hn.2).mp (e.trans hr.symm))
theorem RowsT.get{G:Gp}{h:Addr}{M:List (List T)}{rs:List Addr}{x:Nat}{ts:List T}(R:RowsT G h M rs)(hx:M[x]? =some ts):∃a,rs[x]? =some a/\L2.atI (rs.map T.ref) (x:Int)=some (.ref a)/\G a=some (.lst ts):=by
 have hxl:x<rs.length:=by rw[R.2.1];exact (lJe.mp hx).1
 have hr:rs[x]? =some rs[x]:=lJh hxl;obtain⟨us,h1,h2⟩:=R.2.2 x _ hr;rw[hx] at h1;cases h1;exact⟨_,hr,by rw[atN,lJr,hr];rfl,h2⟩
theorem qZ5{n:Nat}:(List.replicate n [T.non]).flatten=List.replicate n T.non:=by
 induction n with
 | zero=>rfl
 | succ n ih=>rw[lK8,lQ3,ih];rfl
def rowN(W:Web)(x:Nat):List T:=List.replicate ((W[x%W.length]?).getD []).length .non
theorem qJb{W:Web}{m:Nat}{Ts:List (List Nat)}:SInv W m Ts ((List.range (m*W.length)).map (rowN W)) where
 len:=by simp
 row:=λx ts h=>by
  rw[lJr] at h;cases e:(List.range (m*W.length))[x]? with
  | none=>rw[e] at h;cases h
  | some y=>
   rw[e] at h;cases h;obtain⟨q1,q2⟩:=lJe.mp e;simp at q1 q2;subst q2;have hW:0<W.length:=by rcases Nat.eq_zero_or_pos W.length with z | z;rw[z] at q1;omega;exact z
   have hx:x%W.length<W.length:=lQ6 _ hW;exact⟨W[x%W.length],lJh hx,by simp[rowN,hx]⟩
 val:=λx i v h=>by
  obtain⟨ts,h1,h2⟩:=kUo h;rw[lJr] at h1;cases e:(List.range (m*W.length))[x]? with
  | none=>rw[e] at h1;cases h1
  | some y=>
   rw[e] at h1;cases h1;have:=lJm h2;unfold rowN at this;exact .inl (List.mem_replicate.mp this).2
noncomputable def jV5:Sp3:=λxs G Q=>∃(W:Web)(tr:Addr)(m:Nat)(Ts:List (List Nat)),xs=[encW W,.ref tr,.int m]/\Fine W/\Sym W/\1<=W.length/\1<=m/\m*W.length<=1000/\TurnsOk W m Ts/\G tr=some (.lst (Ts.map λσ=>T.tup (jJm σ)))/\∀V G',Sheet W m V->Sub G G'->Q (encW V) G'
def kYo:List Str:=["_law_web_here","_law_turns","_law_many","_law_made","_law_t","_law_one","_law_other","_law_k","_law_spot","_law_there","_law_n","_law_room"]
noncomputable def jXa:TS3:=
 (tSeq (tAsg (jQx [fF,fF,fF,fF,fF,fF,fF,fF,fF,fF,tT,fF] (jK9 (jJc (tOp jV1 o2 (tCB rLen C0)) tNil)) M10 jXx (tOp jV1 (tLst (jJc (tC .non) tNil)) (tCB rLen (jJc (tOp rIxF o0 (tOp rMod o10 (tCB rLen C0))) tNil)))) M3)
 (tSeq (tFor (kJ0 (jJc (jJq jU5 C0) tNil)) (gTup 2 (jKd M4 (jKd (gTup 2 (jKd M5 (jKd M6 gNil))) gNil))) (tFor (jK9 C2) M7 (tSeq (tAsg (tOp jKz (tOp rIxF o5 tI0) (tOp jV1 o7 (tCB rLen C0))) M8)
 (tSeq (tAsg (tOp jKz (tOp rIxF o6 tI0) (tOp jV1 (tOp rIxF (tOp rIxF o1 o4) o7) (tCB rLen C0))) M9)
 (tSeq (tAsg (tTup (jJc o9 (jJc (tOp rIxF o6 tI1) tNil))) (gSub (tOp rIxF o3 o8) (tOp rIxF o5 tI1) jV0))
 (tAsg (tTup (jJc o8 (jJc (tOp rIxF o5 tI1) tNil))) (gSub (tOp rIxF o3 o9) (tOp rIxF o6 tI1) jV0)))))))
 (tRet (tCB jK3 (jJc (jQx [fF,fF,fF,fF,fF,fF,fF,fF,fF,fF,fF,tT] (iSeq o3) M11 jXx (tCB jK3 C11)) tNil)))))
theorem kKm:RdOk jV5 jXa kYo:=by
 intro xs G Q h_;apply xe4 h_;clear h_;intro W tr m Ts;refine ae8 ?_;intro fine sym hW1 hm1 hmn ok htr kk;show jXa _ [some (.tup (W.map encR)),some (.ref tr),some (.int m),none,none,none,none,none,none,none,none,none] G
 have hs:=sz;have hl:=fine.len;have hm2:m<=1000:=lKb (Nat.le_mul_of_pos_right m hW1) hmn
 exists jXa,jJ7,jK9,kJ0,iSeq,List.length_map
 have hcast:(m:Int)*(W.length:Int)=((m*W.length:Nat):Int):=by simp
 rw[hcast];refine⟨.inr ⟨by omega,by omega⟩,by omega,by omega,?_⟩
 rw[show ((m*W.length:Nat):Int).toNat=m*W.length by omega,jQt]
 refine kQd (rowN W) (by simp;omega) (λ_ _=>trivial) ?_ ?_
 .intro x x' hx G' K K0 s hk;obtain⟨q1,q2⟩:=lJe.mp hx;simp at q1 q2;subst q2;have hmod:x%W.length<W.length:=lQ6 _ hW1;have hWx:W[x%W.length]? =some W[x%W.length]:=lJh hmod;have hrow:rowN W x=List.replicate (W[x%W.length]).length .non:=by simp[rowN,hWx]
  rw[hrow] at hk
  generalize W[x%W.length]=es at hWx hk
  have hes:=fine.row _ _ hWx
  exists List.length_map,show (x:Int)%(W.length:Int)=((x%W.length:Nat):Int) by simp,jQf hWx,encR
  refine⟨by omega,λp hp=>⟨by omega,.newL (List.replicate es.length .non),?_,?_⟩⟩
  .rw[<-qZ5];simp only[mulR,jJg];rw[lJc];congr;refine⟨?_,?_,?_⟩<;>simp<;>omega
  .rw[qUf];intro q hq;have hq0:=(jJ4 hq).2;exact hk q _ hq0 jJg ((Sub.new hp).over hq0)
 .intro D rs G1 hD hD1 s1 hrl hnd hrs;rw[lQc] at hrl
  have hfr:∀r,r∈rs->G r=none:=by
   intro r z;obtain⟨j,hj⟩:=lJ4 z;have hjl:j<rs.length:=(lJe.mp hj).1;exact (hrs j r j hj (by rw[lQd (by omega)])).1
  refine⟨W,rfl,fine,λpe G2 hpe hG2 hlen s2=> ?_⟩
  have hpn:∀r,r∈rs->pe≠r:=by
   rintro r z rfl;obtain⟨j,hj⟩:=lJ4 z;have hjl:j<rs.length:=(lJe.mp hj).1;have:=(hrs j pe j hj (by rw[lQd (by omega)])).2
   rw[this] at hpe;cases hpe
  refine⟨(jQe W).map encT,by simp only[jU2,hG2,asL],?_⟩
  let J1:Nat->St3->Gp->Prop:=λt τ G'=>∃(v4 v5 v6 v7 v8 v9:Option T)(M:List (List T)),τ=[some (.tup (W.map encR)),some (.ref tr),some (.int m),some (.ref D),v4,v5,v6,v7,v8,v9,none,none]/\RowsT G' D M rs/\SInv W m Ts M/\uKv W m Ts M (λt' k=>t'<t/\k<m)/\Sub G G'/\G' pe=some (.lst ((jQe W).map encT))
  refine⟨J1,?_,?_,?_,?_⟩
  .refine xi7 none none none none none none ((List.range (m*W.length)).map (rowN W)) rfl ⟨⟨s2 _ _ hD1,by simp[hrl],λi r hi=> ?_⟩,qJb,λt k e f σ k' h=>absurd h.1 (lK4 _),s1.trans s2,hG2⟩
   have hil:i<m*W.length:=by rw[<-hrl];exact (lJe.mp hi).1
   exact⟨rowN W i,by simp[hil],s2 _ _ (hrs i r i hi (by simp[hil])).2⟩
  .intro t τ G' ht h_;apply xe7 h_;clear h_;intro v4 v5 v6 v7 v8 v9 M;refine ae5 ?_;intro i1 i2 i3 i4 i5;simp only[jU2,i5,asL]
  .intro t x τ G3 hx h_;apply xe7 h_;clear h_;intro v4 v5 v6 v7 v8 v9 M;refine ae5 ?_;intro i1 i2 i3 i4 i5;have ht:t<(jQe W).length:=by have:=(lJe.mp hx).1;simpa[jZt] using this
   have hte:(jQe W)[t]? =some (jQe W)[t]:=lJh ht;rw[jVr (x:=encT (jQe W)[t]) (by simp[ht])] at hx
   cases hx
   generalize (jQe W)[t]=x at hte
   obtain⟨e,f⟩:=x;have htT:t<Ts.length:=by rw[ok.len];exact ht
   have hσ:Ts[t]? =some Ts[t]:=lJh htT
   generalize Ts[t]=σ at hσ
   obtain⟨T1,T2⟩:=ok.ok _ _ _ hte hσ;have hef:en W e.1 e.2=some (f.1,f.2):=(kQp hte).1;have hfe:=sym _ _ _ _ hef
   exists jJ7,jK9,encT
   refine⟨by omega,by omega,?_⟩
   rw[show ((m:Int)).toNat=m by omega]
   let J2:Nat->St3->Gp->Prop:=λk τ G'=>∃(v7 v8 v9:Option T)(M:List (List T)),τ=[some (.tup (W.map encR)),some (.ref tr),some (.int m),some (.ref D),some (.int t),some (encE e),some (encE f),v7,v8,v9,none,none]/\RowsT G' D M rs/\SInv W m Ts M/\uKv W m Ts M (λt' k'=>(t'<t/\k'<m)\/(t'=t/\k'<k))/\Sub G G'/\G' pe=some (.lst ((jQe W).map encT))
   refine⟨J2,?_,?_,?_,?_⟩
   .refine xi4 v7 v8 v9 M rfl ⟨i1,i2,λt' k e f σ k' h=> ?_,i4,i5⟩
    rcases h with h | h
    .exact i3 t' k e f σ k' h
    .exact absurd h.2 (lK4 _)
   .intros;trivial
   .intro k x τ G4 hx h_;apply xe4 h_;clear h_;intro v7 v8 v9 M;refine ae5 ?_;intro i1 i2 i3 i4 i5;obtain⟨hk,rfl⟩:=jYi hx;obtain⟨k',hk',hkm⟩:=T1.at hk;have hb1:Bel W Ts (e.1+k*W.length) e.2 (f.1+k'*W.length) f.2:=⟨t,e,f,σ,k,k',hte,hσ,hk',.inl ⟨rfl,rfl,rfl,rfl⟩⟩;obtain⟨ts,m1,m2⟩:=i2.at hk hef;obtain⟨a,a1,a2,a3⟩:=i1.get m1;have ham:=lJm a1;obtain⟨p1,p2,p3⟩:=i2.put m1 m2 hb1;have q1:=i1.set (ts:=ts.set e.2 (encE (f.1+k'*W.length,f.2))) hnd a1;obtain⟨us,m3,m4⟩:=p1.at hkm hfe;obtain⟨c,c1,c2,c3⟩:=q1.get m3;have hcm:=lJm c1;obtain⟨p4,p5,p6⟩:=p1.put m3 m4 hb1.symm;have q2:=q1.set (ts:=us.set f.2 (encE (e.1+k*W.length,e.2))) hnd c1;have g2:L2.atI (Ts.map λσ=>T.tup (jJm σ)) (t:Int)=some (.tup (jJm σ)):=by rw[atN];simp[hσ]
    have g3:L2.atI (jJm σ) (k:Int)=some (.int (k':Nat)):=by rw[atN];simp[jJm,hk']
    have b1:e.1+k*W.length<m*W.length:=by rw[<-i2.len];exact (lJe.mp m1).1
    have b2:f.1+k'*W.length<m*W.length:=by rw[<-p1.len];exact (lJe.mp m3).1
    have s8:(e.1:Int)+(k:Int)*(W.length:Int)=((e.1+k*W.length:Nat):Int):=by simp
    have s9:(f.1:Int)+(k':Int)*(W.length:Int)=((f.1+k'*W.length:Nat):Int):=by simp
    exists encE,List.length_map,jKp (i4 _ _ htr),g2,g3,s8,s9,jKp i1.1,a2,jYh a3 (kVk m2)
    refine⟨.inr ⟨by omega,by omega⟩,.inr ⟨by omega,by omega⟩,by omega,by omega,.ref c,(jKp q1.1).trans c2,_,jYh c3 (kVk m4),xi4 _ _ _ _ rfl ⟨q2,p4,?_,(i4.over (hfr a ham)).over (hfr c hcm),?_⟩⟩
    .intro t' k0 e' f' σ' k1 h g4 g5 g6
     by_cases hh:t'=t/\k0=k
     .obtain⟨rfl,rfl⟩:=hh;rw[hte] at g4;cases g4;rw[hσ] at g5;cases g5;rw[hk'] at g6;cases g6;exact⟨p6 _ _ p2,p5⟩
     .obtain⟨z1,z2⟩:=i3 t' k0 e' f' σ' k1 (by omega) g4 g5 g6
      exact⟨p6 _ _ (p3 _ _ z1),p6 _ _ (p3 _ _ z2)⟩
    .rw[jJl (hpn c hcm),jJl (hpn a ham)];exact i5
   .intro τ G' h_;apply xe4 h_;clear h_;intro v7 v8 v9 M;refine ae5 ?_;intro i1 i2 i3 i4 i5;rw[jUc] at i3;refine xi7 _ _ _ _ _ _ M rfl ⟨i1,i2,λt' k e f σ k' h=>i3 t' k e f σ k' ?_,i4,i5⟩
    by_cases hh:t'=t
    .exact .inr ⟨hh,h.2⟩
    .exact .inl ⟨by omega,h.2⟩
  .intro τ G3 h_;apply xe7 h_;clear h_;intro v4 v5 v6 v7 v8 v9 M;refine ae5 ?_;intro i1 i2 i3 i4 i5;rw[jZt,lJf] at i3;obtain⟨sh,eM⟩:=qVq sym ok i2 i3
   exists iSeq,jJo i1.1
   refine jQ2 (es:=rs) (λr=>T.tup (match G3 r with | some (.lst ts)=>ts | _=>[])) (by omega) (λG' s=>jJo (s _ _ i1.1)) ?_ ?_
   .intro i r hr G4 K K0 s hk;obtain⟨ts,z1,z2⟩:=i1.2.2 i r hr
    exists jJo (s _ _ z2)
    have:=hk G4 (.refl _);rw[z2] at this;exact this
   .intro E G4 hE h4 s4;refine⟨_,jJo h4,?_⟩
    have e1:rs.map (λr=>T.tup (match G3 r with | some (.lst ts)=>ts | _=>[]))=(M.map (List.map dec)).map encR:=by
     have e2:(M.map (List.map dec)).map encR=M.map T.tup:=by
      conv=>rhs;rw[eM]
      rw[lKf,lKf,lKf];rfl
     rw[e2];apply lQh;intro i
     by_cases hi:i<rs.length
     .have hri:rs[i]? =some rs[i]:=lJh hi;obtain⟨ts,z1,z2⟩:=i1.2.2 i _ hri;rw[lJr,lJr,hri,z1];simp only[lQv,z2]
     .rw[lJz (by rw[lJf];omega),lJz (by rw[lJf,<-i1.2.1];omega)]
    rw[e1];exact kk _ G4 sh (i4.trans s4)
def Cov(W:Web)(m:Nat)(V:Web):Prop:=V=W\/(Sheet W m V/\Conn V)
theorem Sheet.fine{W V:Web}{m:Nat}(h:Sheet W m V)(f:Fine W)(hm:m*W.length<=1000):Fine V where
 len:=by rw[h.len];exact hm
 row:=λx ts hx=>by obtain⟨es,h1,h2⟩:=h.row x ts hx;rw[h2];exact f.row _ _ h1
 rng:=λr i s j he=>jUf (h.sym _ _ _ _ he)
theorem Found.conn{V:Web}{F:List Nat}(h:Found V 0 F)(hl:F.length=V.length):Conn V:=λS h0 hst r hr=>h.got S h0 hst r (kJp h.nd h.lt hl r hr)
theorem jY5{G:Gp}{e f:Nat×Nat}:eqG G (encE e) (encE f)=some (decide (e=f)):=by
 obtain⟨a,b⟩:=e;obtain⟨c,d⟩:=f;rw[show eqG G (encE (a,b)) (encE (c,d))=some (eqT (encE (a,b)) (encE (c,d))) from rfl]
 congr 1
 simp only[encE,eqT,eqTs,Bool.and_true]
 by_cases h1:a=c
 .by_cases h2:b=d
  .simp[h1,h2]
  .have:¬ (b:Int)=d:=by omega
   simp[h1,h2,this]
 .have:¬ (a:Int)=c:=by omega
  simp[h1,this]
theorem jXj{G:Gp}{a c:Nat}:eqG G (.int a) (.int c)=some (decide (a=c)):=by
 rw[show eqG G (.int a) (.int c)=some (eqT (.int a) (.int c)) from rfl]
 congr 1
 simp only[eqT]
 by_cases h1:a=c
 .simp[h1]
 .have:¬ (a:Int)=c:=by omega
  simp[h1,this]
noncomputable def jV7:Sp3:=λxs G Q=>∃(b:Addr)(W:Web)(m n:Nat),xs=[.ref b,encW W,.int m]/\BoxAt G b n/\n+3*((jQe W).length*m)<2^40/\Fine W/\Sym W/\1<=W.length/\1<=m/\m*W.length<=1000/\∀V G',Cov W m V->BoxAt G' b (n+3*((jQe W).length*m))->Keep b G G'->Q (encW V) G'
def kYq:List Str:=["_law_box_here","_law_web_here","_law_many","_law_turn_here","_law_turns","_law_made","_law_pair"]
noncomputable def jXc:TS3:=
 (tSeq (tFor (jK9 (jJc (tC (.int 3)) tNil)) M3 (tSeq (tAsg (jQx [fF,fF,fF,fF,fF,fF,tT] (iSeq (jJq jU5 C1)) M6 jXx (jJq jZ6 (jJc o0 (jJc o2 (jJc (tOp rEqA (tOp rIxF o6 tI0) (tOp rIxF o6 tI1)) tNil))))) M4)
 (tSeq (tAsg (jJq jV5 (jJc o1 (jJc o4 C2))) M5)
 (tIfS (jJv (tOp rEqA (tCB rLen (jJc (jJq jV6 (jJc o5 (jJc tI0 tNil))) tNil)) (tCB rLen C5))) (tRet o5) jJ5))))
 (tRet o1))
theorem kKo:RdOk jV7 jXc kYq:=by
 intro xs G Q h_;apply xe4 h_;clear h_;intro b W m n;refine ae8 ?_;intro hb hn fine sym hW1 hm1 hmn kk;show jXc _ [some (.ref b),some (encW W),some (.int m),none,none,none,none] G
 have hs:=sz;have hm2:m<=1000:=lKb (Nat.le_mul_of_pos_right m hW1) hmn
 exists jXc,jJ7,jK9
 refine⟨by decide,by decide,?_⟩
 refine⟨λk τ G'=>∃(v3 v4 v5:Option T),τ=[some (.ref b),some (encW W),some (.int m),v3,v4,v5,none]/\BoxAt G' b (n+k*((jQe W).length*m))/\Keep b G G',?_,?_,?_,?_⟩
 .exact⟨none,none,none,rfl,by simpa using hb,.refl _ _⟩
 .intros;trivial
 .intro k x τ G1 hx h_;apply xe3 h_;clear h_;intro v3 v4 v5;refine ae2 ?_;intro hb1 kp1;have hk:k<3:=by have:=(lJe.mp hx).1;rw[jUc] at this;exact this
  have hk3:(k+1)*((jQe W).length*m)<=3*((jQe W).length*m):=lX1 _ (by omega)
  rw[lQu] at hk3;obtain⟨bo,hbo⟩:=hb1.some
  exists iSeq
  refine⟨W,rfl,fine,λpe G2 hpe hG2 hlen s2=> ?_⟩
  have hpb:=jJf hbo hpe;refine⟨_,jJo hG2,?_⟩;intro D hD;have hDb:=jJf (s2 _ _ hbo) hD;have hDe:=jJf hG2 hD;refine⟨λi acc G'=>∃Ts:List (List Nat),acc=Ts.map (λσ=>T.tup (jJm σ))/\Ts.length=i/\(∀(t:Nat)(x:Tie)(σ:List Nat),(jQe W)[t]? =some x->Ts[t]? =some σ->Turn m σ/\(x.1=x.2->Invol σ))/\BoxAt G' b (n+k*((jQe W).length*m)+i*m)/\Keep b G2 G'/\G' D=some (.lst acc),?_,?_,?_,?_⟩
  .exact⟨[],rfl,rfl,λt x σ _ h=>by simp at h,by simpa using (hb1.sub s2).gup hDb,.new hD,jJg⟩
  .rintro i acc G' hi ⟨Ts,rfl,j1,j2,j3,j4,j5⟩;exact⟨jJo (j4 _ _ hpb.symm hG2),j5⟩
  .rintro i x acc G3 hx0 ⟨Ts,rfl,j1,j2,j3,j4,j5⟩;obtain⟨⟨e,f⟩,hte,rfl⟩:=jK4 hx0;have hi:i<(jQe W).length:=(lJe.mp hte).1;have him:(i+1)*m<=(jQe W).length*m:=lX1 _ hi;rw[lQu] at him
   exists encT,rEqA,jY5
   refine⟨b,m,_,_,rfl,j3,by omega,hm1,hm2,λσ G4 T1 T2 bx kp=> ?_⟩
   refine⟨kp _ _ hDb.symm j5,by rw[lJf];omega,Ts++[σ],by simp,by simp[j1],?_,?_,?_⟩
   .intro t y ρ h1 h2
    by_cases htl:t<Ts.length
    .rw[lKe htl] at h2;exact j2 t y ρ h1 h2
    .have htl2:t<(Ts++[σ]).length:=(lJe.mp h2).1;simp at htl2;have:t=Ts.length:=by omega
     subst this;rw[lQk (lJg _)] at h2;simp at h2;subst h2;rw[j1,hte] at h1;cases h1;exact⟨T1,λz=>T2 (by simpa using z)⟩
   .exact (bx.gup hDb).mono (by rw[lQu];omega)
   .exact (j4.trans kp).over hD
  .rintro acc G3 ⟨Ts,rfl,j1,j2,j3,j4,j5⟩;rw[lJf] at j1 j3;have hkp3:Keep b G G3:=(kp1.trans (.sub s2)).trans j4;refine⟨W,D,m,Ts,rfl,fine,sym,hW1,hm1,hmn,⟨j1,j2⟩,j5,λV G4 sh s4=> ?_⟩
   have hVl:1<=V.length:=by rw[sh.len];exact Nat.mul_pos hm1 hW1
   refine⟨V,0,rfl,sh.fine fine hmn,hVl,λp G5 F hp hp5 fd _ s5=> ?_⟩
   exists rEqA,jJo hp5,encW,jJm,List.length_map,jXj
   split
   .rename_i hc
    have hc:F.length=V.length:=by simpa using hc
    exact kk V G5 (.inr ⟨sh,fd.conn hc⟩) (((j3.sub s4).sub s5).mono (by omega)) ((hkp3.trans (.sub s4)).trans (.sub s5))
   .exact⟨((j3.sub s4).sub s5).mono (by rw[lQu];omega),(hkp3.trans (.sub s4)).trans (.sub s5)⟩
 .intro τ G1 h_;apply xe3 h_;clear h_;intro v3 v4 v5;refine ae2 ?_;intro hb1 kp1;rw[jUc] at hb1
  exists tSeq
  exact kk W G1 (.inl rfl) hb1 kp1
structure AnyWeb (W:Web):Prop where
 pos:1<=W.length
 len:W.length<=24
 sym:Sym W
 deg:∀(r:Nat)(es:List (Nat×Nat)),W[r]? =some es->es.length<=6
 conn:Conn W
theorem WebOk.any{n d:Nat}{W:Web}(h:WebOk n d W)(h1:1<=n)(h2:n<=24)(h3:d<=6):AnyWeb W:=⟨by rw[h.len];exact h1,by rw[h.len];exact h2,h.sym,λr es hr=>lKb (h.deg r es hr) h3,h.conn⟩
theorem WebOk.fine{n d:Nat}{W:Web}(h:WebOk n d W)(h2:n<=24)(h3:d<=6):Fine W:=⟨by rw[h.len];omega,λr es hr=>by have:=h.deg r es hr;omega,λr i s j he=>jUf (h.sym _ _ _ _ he)⟩
theorem AnyWeb.fine{W:Web}(h:AnyWeb W):Fine W:=⟨by have:=h.len;omega,λr es hr=>by have:=h.deg r es hr;omega,λr i s j he=>jUf (h.sym _ _ _ _ he)⟩
theorem kZm{α β:Type}{f:α->List β}{d:Nat}:∀{l:List α},(∀a,a∈l->(f a).length<=d)->(l.flatMap f).length<=l.length*d
 | [],_=>by simp
 | a::l,h=>by
  rw[List.flatMap_cons,lJ9,lKj,lQu];have h1:=h a (lKg);have h2:=kZm (l:=l) λx hx=>h x (lJ8 _ hx)
  omega
theorem qYh{W:Web}{d:Nat}(h:∀(r:Nat)(es:List (Nat×Nat)),W[r]? =some es->es.length<=d):(jQe W).length<=W.length*d:=by
 have:=kZm (f:=rowE W) (d:=d) (l:=List.range W.length) λr hr=>by
  unfold rowE;split
  .rename_i es hes
   have h1:=lXs (jZm r es) (List.range es.length);rw[lQc] at h1;have h2:=h r es hes;omega
  .simp
 rwa [lQc] at this
def jV8:Sp3:=λxs G Q=>∃(b:Addr)(n:Nat),xs=[.ref b]/\BoxAt G b n/\n+1000<2^40/\∀W G',AnyWeb W->BoxAt G' b (n+1000)->Keep b G G'->Q (encW W) G'
def kYs:List Str:=["_law_box_here","_law_way","_law_base","_law_many"]
noncomputable def jXe:TS3:=
 (tSeq (tAsg (jJq jJx (jJc o0 (jJc (tC (.int 8)) tNil))) M1)
 (tSeq (tIfS (jJv (tOp rEqA o1 tI0)) (tRet (jJq jYg (jJc o0 (jJc (tOp jKz (tC (.int 8)) (jJq jJx (jJc o0 (jJc (tC (.int 17)) tNil)))) (jJc (tOp jKz (tC (.int 3)) (jJq jJx (jJc o0 (jJc (tC (.int 4)) tNil)))) tNil))))) jJ5)
 (tSeq (tIfS (jJv (tOp rLt o1 (tC (.int 4)))) (tRet (jJq jYg (jJc o0 (jJc (tOp jKz tI1 (jJq jJx (jJc o0 (jJc (tC (.int 7)) tNil)))) (jJc (tOp jKz tI2 (jJq jJx (jJc o0 (jJc (tC (.int 3)) tNil)))) tNil))))) jJ5)
 (tSeq (tIfS (jJv (tOp rEqA o1 (tC (.int 4)))) (tRet (jJq jZ7 (jJc (tOp jKz tI1 (jJq jJx (jJc o0 (jJc (tC (.int 12)) tNil)))) tNil))) jJ5)
 (tSeq (tAsg (jJq jYg (jJc o0 (jJc (tOp jKz tI1 (jJq jJx (jJc o0 (jJc (tC (.int 4)) tNil)))) (jJc (tOp jKz tI2 (jJq jJx (jJc o0 (jJc tI2 tNil)))) tNil)))) M2)
 (tSeq (tAsg (tOp jKz tI2 (jJq jJx (jJc o0 (jJc (tOp rIxF (tLst (jJc (tC (.int 5)) (jJc (tC (.int 5)) (jJc (tC (.int 5)) (jJc (tC (.int 3)) tNil))))) (tOp rSub (tCB rLen C2) tI1)) tNil)))) M3)
 (tRet (jJq jV7 (jJc o0 (jJc o2 C3))))))))))
theorem kKq:RdOk jV8 jXe kYs:=by
 intro xs G Q h_;apply xe2 h_;clear h_;intro b n;refine ae3 ?_;intro hb hn kk;show jXe _ [some (.ref b),none,none,none] G
 have hs:=sz
 exists jXe,rEqA
 refine⟨b,_,n,rfl,hb,by omega,by omega,by omega,λw G1 w0 w1 b1 k1=> ?_⟩
 obtain⟨w,rfl⟩:=lKz w0;have e0:eqG G1 (T.int (w:Nat)) (T.int 0)=some (decide (w=0)):=jXj (c:=0);have e4:eqG G1 (T.int (w:Nat)) (T.int 4)=some (decide (w=4)):=jXj (c:=4)
 exists e0,e4
 split
 .refine⟨b,_,_,rfl,b1,by omega,by omega,by omega,λr G2 r0 r1 b2 k2=> ?_⟩
  exists tSeq
  refine⟨b,_,_,rfl,b2,by omega,by omega,by omega,λq G3 q0 q1 b3 k3=> ?_⟩
  exists tSeq
  obtain⟨r,rfl⟩:=lKz r0;obtain⟨q,rfl⟩:=lKz q0;refine⟨b,8+r,3+q,_,by simp,b3,by omega,by omega,by omega,by omega,by omega,λW G4 ok b4 k4=> ?_⟩
  exact kk W G4 (ok.any (by omega) (by omega) (by omega)) (b4.mono (by omega)) (((k1.trans k2).trans k3).trans k4)
 split
 .refine⟨b,_,_,rfl,b1,by omega,by omega,by omega,λr G2 r0 r1 b2 k2=> ?_⟩
  exists tSeq
  refine⟨b,_,_,rfl,b2,by omega,by omega,by omega,λq G3 q0 q1 b3 k3=> ?_⟩
  exists tSeq
  obtain⟨r,rfl⟩:=lKz r0;obtain⟨q,rfl⟩:=lKz q0;refine⟨b,1+r,2+q,_,by simp,b3,by omega,by omega,by omega,by omega,by omega,λW G4 ok b4 k4=> ?_⟩
  exact kk W G4 (ok.any (by omega) (by omega) (by omega)) (b4.mono (by omega)) (((k1.trans k2).trans k3).trans k4)
 split
 .refine⟨b,_,_,rfl,b1,by omega,by omega,by omega,λr G2 r0 r1 b2 k2=> ?_⟩
  exists tSeq
  obtain⟨r,rfl⟩:=lKz r0;refine⟨1+r,by simp,by omega,by omega,λG3 s3=> ?_⟩
  exact kk _ G3 ((qZ4 (n:=1+r) (by omega)).any (by omega) (by omega) (by omega)) ((b2.sub s3).mono (by omega)) ((k1.trans k2).trans (.sub s3))
 refine⟨b,_,_,rfl,b1,by omega,by omega,by omega,λr G2 r0 r1 b2 k2=> ?_⟩
 exists tSeq
 refine⟨b,_,_,rfl,b2,by omega,by omega,by omega,λq G3 q0 q1 b3 k3=> ?_⟩
 exists tSeq
 obtain⟨r,rfl⟩:=lKz r0;obtain⟨q,rfl⟩:=lKz q0;refine⟨b,1+r,2+q,_,by simp,b3,by omega,by omega,by omega,by omega,by omega,λW G4 ok b4 k4=> ?_⟩
 exists encW,List.length_map
 refine⟨by omega,λp hp=> ?_⟩
 obtain⟨bo,hbo⟩:=b4.some;have hbp:=jJf hbo hp;have hWl:=ok.len;have hfine:=ok.fine (by omega) (by omega)
 have hends:=qYh ok.deg
 obtain⟨c,hc,hc1,hc2,hc3⟩:∃c:Nat,L2.atI [T.int 5,T.int 5,T.int 5,T.int 3] ((W.length:Int)-1)=some (.int (c:Nat))/\1<=c/\c<=5/\(c+1)*W.length<=24:=by
  have:W.length=1\/W.length=2\/W.length=3\/W.length=4:=by omega
  rcases this with h | h | h | h<;>rw[h]
  .exact⟨5,rfl,by decide,by decide,by decide⟩
  .exact⟨5,rfl,by decide,by decide,by decide⟩
  .exact⟨5,rfl,by decide,by decide,by decide⟩
  .exact⟨3,rfl,by decide,by decide,by decide⟩
 refine⟨_,hc,?_⟩;refine⟨b,_,_,rfl,b4.gup hbp,by omega,by omega,by omega,λx G5 x0 x1 b5 k5=> ?_⟩
 exists tSeq
 obtain⟨x,rfl⟩:=lKz x0;have hm:(2+x)*W.length<=24:=lKb (lX1 _ (by omega)) hc3
 have hcost:(jQe W).length*(2+x)<=12*6:=Nat.mul_le_mul (lKb hends (by rw[hWl];exact Nat.mul_le_mul (show 1+r<=4 by omega) (show 2+q<=3 by omega))) (by omega)
 refine⟨b,W,2+x,_,by simp[encW],b5,by omega,hfine,ok.sym,by omega,by omega,by omega,λV G6 cov b6 k6=> ?_⟩
 refine kk V G6 ?_ (b6.mono (by omega)) (((((k1.trans k2).trans k3).trans k4).trans (.new hp)).trans k5 |>.trans k6)
 rcases cov with rfl | ⟨sh,cn⟩
 .exact ok.any (by omega) (by omega) (by omega)
 .refine⟨by rw[sh.len];exact Nat.mul_pos (by omega) (by omega),by rw[sh.len];exact hm,sh.sym,λy es hy=> ?_,cn⟩
  obtain⟨es',h1,h2⟩:=sh.row y es hy;have:=ok.deg _ _ h1;omega
theorem kXe{kvs:List (L2.Key×T)}{k:L2.Key}:(valT kvs k).isSome=true↔k∈kvs.map Prod.fst:=by
 unfold valT;rw[lXp,List.find?_isSome,lJy];exact⟨λ⟨a,h1,h2⟩=>⟨a,h1,by simpa using h2⟩,λ⟨a,h1,h2⟩=>⟨a,h1,by simpa using h2⟩⟩
def keyN(x:Nat):L2.Key:= .inl (x:Nat)
theorem kZg{F:List Nat}{x:Nat}:keyN x∈F.map keyN↔x∈F:=by
 rw[lJy];refine⟨λ⟨a,ha,e⟩=> ?_,λh=>⟨x,h,rfl⟩⟩
 have e1:(Sum.inl (a:Int):L2.Key)=Sum.inl (x:Int):=e;have:(a:Int)=x:=by injection e1
 have:a=x:=by omega
 exact this▸ha
theorem qQ5{G:Gp}{d:Addr}{kvs:List (L2.Key×T)}{F:List Nat}{x:Nat}(h:G d=some (.dck kvs))(hk:kvs.map Prod.fst=F.map keyN):inR G (.int (x:Nat)) (.ref d)=some (decide (x∈F)):=by
 have e1:seqT G (.ref d)=none:=by simp only[seqT,h];rfl
 have e2:dAt G (.ref d) (.int (x:Nat))=some (valT kvs (keyN x)):=by simp only[dAt,h,jZl];rfl
 unfold inR;simp only[e1,e2]
 congr 1
 rw[Bool.eq_iff_iff,kXe,hk,kZg];simp
theorem qV7{kvs:List (L2.Key×T)}{k:L2.Key}{v:T}(h:k∉kvs.map Prod.fst):putT kvs k v=kvs++[(k,v)]:=by
 unfold putT;rw[lJb];rw[lX0];rintro⟨a,ha,e⟩;exact h (lJy.mpr ⟨a,ha,by simpa using e⟩)
theorem qVu{G:Gp}{d:Addr}{kvs:List (L2.Key×T)}{x:Nat}{v:T}(h:G d=some (.dck kvs))(hz:kvs.length<sizeLine):setR G (.ref d) (.int (x:Nat)) v=some (gup G d (.dck (putT kvs (keyN x) v))):=by
 simp only[setR,h,jZl];rw[lJc hz];rfl
theorem kUa{xs:List T}{j:Nat}{y:T}(h:(numT xs)[j]? =some y):∃x,xs[j]? =some x/\y= .tup [.int j,x]:=by
 have hj:j<xs.length:=by have:=(lJe.mp h).1;rwa [jKm] at this
 refine⟨xs[j],lJh hj,?_⟩;rw[jVr (lJh hj)] at h;cases h;rfl
theorem kYv{G G':Gp}(h:Sub G G'){p:Addr}(hp:G' p=none):G p=none:=by
 cases e:G p with
 | none=>rfl
 | some o=>rw[h _ _ e] at hp;cases hp
theorem vis_sub{F:List Nat}{es:List (Nat×Nat)}:(∃E,vis F es=F++E)/\(∀e,e∈es->e.1∈vis F es)/\(∀x,x∈vis F es->x∈F\/∃e,e∈es/\e.1=x)/\(F.Nodup->(vis F es).Nodup):=by
 induction es generalizing F with
 | nil=>exact⟨⟨[],by simp[vis]⟩,by simp,λx h=> .inl h,λh=>h⟩
 | cons e es ih=>
  have hv:vis F (e::es)=vis (if F.contains e.1=true then F else F++[e.1]) es:=rfl
  rw[hv]
  by_cases h:F.contains e.1=true
  .rw[lJc h];obtain⟨⟨E,i1⟩,i2,i3,i4⟩:=ih (F:=F);refine⟨⟨E,i1⟩,λd hd=> ?_,λx hx=> ?_,i4⟩
   .rcases (lJk.mp hd) with rfl | hde
    .rw[i1];exact lQj _ (by simpa using h)
    .exact i2 d hde
   .rcases i3 x hx with h | ⟨d,hd,e⟩
    .exact .inl h
    .exact .inr ⟨d,lJ8 _ hd,e⟩
  .rw[lJb h];obtain⟨⟨E,i1⟩,i2,i3,i4⟩:=ih (F:=F++[e.1]);refine⟨⟨e.1::E,by rw[i1];simp⟩,λd hd=> ?_,λx hx=> ?_,λhn=>i4 ?_⟩
   .rcases (lJk.mp hd) with rfl | hde
    .rw[i1];exact lQj _ (by simp)
    .exact i2 d hde
   .rcases i3 x hx with h | ⟨d,hd,e'⟩
    .rcases (lKt.mp h) with h | hs
     .exact .inl h
     .exact .inr ⟨e,lKg ..,(lJ5.mp hs).symm⟩
    .exact .inr ⟨d,lJ8 _ hd,e'⟩
   .rw[lQa];exact⟨hn,by simp,λa ha b hb=>by rw[lJ5] at hb;subst hb;rintro rfl;exact h (by simpa using ha)⟩
structure Bfs (W:Web) (k:Nat) (F:List Nat):Prop where
 nd:F.Nodup
 lt:∀x,x∈F->x<W.length
 near:∀(i x:Nat)(e:Nat×Nat),i<k->F[i]? =some x->e∈row W x->e.1∈F
theorem qZ2{W:Web}{x:Nat}{e:Nat×Nat}(h:e∈row W x):∃i,en W x i=some e:=by
 unfold row at h;cases hW:W[x]? with
 | none=>rw[hW] at h;simp at h
 | some es=>
  rw[hW] at h;obtain⟨i,hi⟩:=lJ4 (show e∈es from h)
  exact⟨i,jV2 hW hi⟩
theorem Bfs.step{W:Web}(f:Fine W){k r:Nat}{F:List Nat}(h:Bfs W k F)(hr:F[k]? =some r):Bfs W (k+1) (vis F (row W r)):=by
 obtain⟨⟨E,e1⟩,e2,e3,e4⟩:=vis_sub (F:=F) (es:=row W r);refine⟨e4 h.nd,λx hx=> ?_,λi x e hi hx he=> ?_⟩
 .rcases e3 x hx with hx | ⟨e,he,rfl⟩
  .exact h.lt x hx
  .obtain⟨i,hi⟩:=qZ2 he;exact f.rng _ _ e.1 e.2 hi
 .have hkl:k<F.length:=(lJe.mp hr).1;have hx':F[i]? =some x:=by rw[e1,lKe (by omega)] at hx;exact hx
  rcases Nat.lt_or_eq_of_le (Nat.le_of_lt_succ hi) with h1 | rfl
  .rw[e1];exact lQj _ (h.near i x e h1 hx' he)
  .rw[hr] at hx';cases hx';exact e2 e he
theorem Bfs.run{W:Web}(f:Fine W):∀(n k:Nat)(F:List Nat),Bfs W k F->W.length<=n+k->k<=F.length->(∃E,bfsN W n k F=F++E)/\Bfs W (bfsN W n k F).length (bfsN W n k F)
 | 0,k,F,h,hl,hk=>by
  have hF:=jKe h.nd h.lt;have:k=F.length:=by omega
  subst this;exact⟨⟨[],by simp[bfsN]⟩,h⟩
 | n+1,k,F,h,hl,hk=>by
  rcases lKd k F.length with hlt | hge
  .have hr:F[k]? =some F[k]:=lJh hlt;rw[kKd hr];obtain⟨⟨E,e1⟩,e2,e3,e4⟩:=vis_sub (F:=F) (es:=row W F[k]);obtain⟨⟨E',h1⟩,h2⟩:=Bfs.run f n (k+1) _ (h.step f hr) (by omega) (by rw[e1,lJ9];omega)
   exact⟨⟨E++E',by rw[h1,e1,lXn]⟩,h2⟩
  .have:k=F.length:=by omega
   subst this;rw[kKe (lJg _)];exact⟨⟨[],by simp⟩,h⟩
theorem kQh{W:Web}(f:Fine W){r:Nat}(hr:r<W.length):(∃E,bfs W r=r::E)/\Bfs W (bfs W r).length (bfs W r):=
 Bfs.run f W.length 0 [r] ⟨by simp,by simpa using hr,λi x e hi=>absurd hi (lK4 _)⟩ (by omega) (by simp)
structure Order (W:Web) (r:Nat) (F:List Nat):Prop where
 nd:F.Nodup
 lt:∀x,x∈F->x<W.length
 all:∀x,x<W.length->x∈F
 first:F[0]? =some r
theorem qU4{W:Web}(f:Fine W)(sym:Sym W)(c:Conn W){r:Nat}(hr:r<W.length):Order W r (bfs W r):=by
 obtain⟨⟨E,e1⟩,h⟩:=kQh f hr
 have cl:∀x i s j,x∈bfs W r->en W x i=some (s,j)->s∈bfs W r:=by
  intro x i s j hx he;obtain⟨k,hk⟩:=lJ4 hx;have hkl:=(lJe.mp hk).1;refine h.near k x (s,j) hkl hk ?_;have he':=he;unfold en at he';cases hW:W[x]? with
  | none=>rw[hW] at he';cases he'
  | some es=>rw[hW] at he';rw[kK5 hW];exact lJm (show es[i]? =_ from he')
 have hrF:r∈bfs W r:=by rw[e1];exact lKg ..
 have h0:0∈bfs W r:=c (λx=>x∈bfs W r->0∈bfs W r) (λh=>h) (λx i s j hx he hs=>hx (cl s j x i hs (sym _ _ _ _ he))) r hr hrF
 exact⟨h.nd,h.lt,λx hx=>c (λx=>x∈bfs W r) h0 (λx i s j h he=>cl x i s j h he) x hx,by rw[e1];rfl⟩
theorem kZx:∀(n:Nat)(F:List Nat),(∀x,x<n->x∈F)->n<=F.length
 | 0,_,_=>lJ0 _
 | n+1,F,h=>by
  have hn:=h n (lXh _);have h1:=kZx n (F.erase n) λx hx=>(List.mem_erase_of_ne (by omega)).mpr (h x (by omega))
  rw[List.length_erase_of_mem hn] at h1;have:=List.length_pos_of_mem hn;omega
theorem uK0{W:Web}(f:Fine W){F:List Nat}{x:Nat}{es:List (Nat×Nat)}(hx:W[x]? =some es)(hF:∀y,y∈F->y<W.length)(j:Nat):∀y,y∈vis F (es.take j)->y<W.length:=by
 intro y hy
 rcases (vis_sub (F:=F) (es:=es.take j)).2.2.1 y hy with h | ⟨e,he,rfl⟩
 .exact hF y h
 .obtain⟨i,hi⟩:=lJ4 (List.mem_of_mem_take he);exact f.rng x i e.1 e.2 (jV2 hx hi)
def lx:List Nat->List Nat->Prop
 | [],_=>False
 | _::_,[]=>False
 | a::u,b::v=>a<b\/(a=b/\lx u v)
def slt(u v:List Nat):Prop:=u.length<v.length\/(u.length=v.length/\lx u v)
theorem kZe:∀{u v w:List Nat},lx u v->lx v w->lx u w
 | [],_,_,h,_=>(show False from h).elim
 | _::_,[],_,h,_=>(show False from h).elim
 | _::_,_::_,[],_,h=>(show False from h).elim
 | a::u,b::v,c::w,h,k=>by
  rcases h with h | ⟨rfl,h⟩<;>rcases k with k | ⟨rfl,k⟩
  .exact .inl (Nat.lt_trans h k)
  .exact .inl h
  .exact .inl k
  .exact .inr ⟨rfl,kZe h k⟩
theorem qZc{x y:List Nat}:∀{u v:List Nat},u.length=v.length->lx u v->lx (u++x) (v++y)
 | [],_,_,h=>(show False from h).elim
 | _::_,[],_,h=>(show False from h).elim
 | a::u,b::v,e,h=>by
  rcases h with h | ⟨rfl,h⟩
  .exact .inl h
  .exact .inr ⟨rfl,qZc (by simpa using e) h⟩
theorem qQu{a b:Nat}(h:a<b):∀u:List Nat,lx (u++[a]) (u++[b])
 | []=> .inl h
 | _::u=> .inr ⟨rfl,qQu h u⟩
theorem qKr{u v w:List Nat}(h:slt u v)(k:slt v w):slt u w:=by
 rcases h with h | ⟨h,h'⟩<;>rcases k with k | ⟨k,k'⟩
 .exact .inl (Nat.lt_trans h k)
 .exact .inl (by omega)
 .exact .inl (by omega)
 .exact .inr ⟨h.trans k,kZe h' k'⟩
theorem kYw{u v:List Nat}{a b:Nat}(h:slt u v):slt (u++[a]) (v++[b]):=by
 rcases h with h | ⟨h,h'⟩
 .exact .inl (by simp;exact h)
 .exact .inr ⟨by simp;exact h,qZc h h'⟩
theorem qVn{u:List Nat}{a b:Nat}(h:a<b):slt (u++[a]) (u++[b]):= .inr ⟨by simp,qQu h u⟩
def sle(u v:List Nat):Prop:=u=v\/slt u v
theorem qKs{u v w:List Nat}(h:sle u v)(k:sle v w):sle u w:=by
 rcases h with rfl | h
 .exact k
 .rcases k with rfl | k
  .exact .inr h
  .exact .inr (qKr h k)
theorem qVo{u v:List Nat}{d:Nat}(h:sle u v):sle (u++[d]) (v++[d]):=by
 rcases h with rfl | h
 .exact .inl rfl
 .exact .inr (kYw h)
def kUx(W:Web):Nat->List Nat->Nat->Prop
 | r,[],x=>r=x
 | r,d::u,x=>∃s j,en W r d=some (s,j)/\kUx W s u x
theorem kK6{W:Web}{x d y j:Nat}(h:en W x d=some (y,j)):∀{u:List Nat}{r:Nat},kUx W r u x->kUx W r (u++[d]) y
 | [],r,e=>by cases (show r=x from e);exact⟨y,j,h,rfl⟩
 | c::u,r,⟨s,k,e,l⟩=>⟨s,k,e,kK6 h l⟩
theorem kK7{W:Web}{d y:Nat}:∀{u:List Nat}{r:Nat},kUx W r (u++[d]) y->∃x j,kUx W r u x/\en W x d=some (y,j)
 | [],r,⟨s,j,e,l⟩=>by cases (show s=y from l);exact⟨r,j,rfl,e⟩
 | c::u,r,⟨s,k,e,l⟩=>by
  obtain⟨x,j,h1,h2⟩:=kK7 l;exact⟨x,j,⟨s,k,e,h1⟩,h2⟩
structure Least (W:Web) (r x:Nat) (w:List Nat):Prop where
 to:kUx W r w x
 le:∀u,kUx W r u x->sle w u
abbrev PE:=Nat×Option (Nat×Nat)×List Nat
structure Tr (W:Web) (r0 a j:Nat) (P:List PE):Prop where
 nd:(P.map Prod.fst).Nodup
 zero:P[0]? =some (r0,none,[])
 to:∀p,p∈P->kUx W r0 p.2.2 p.1
 par:∀p,p∈P->p=(r0,none,[])\/∃(i:Nat)(q:PE)(d:Nat),(i<a\/(i=a/\d<j))/\P[i]? =some q/\p.2.1=some (q.1,d)/\p.2.2=q.2.2++[d]
 inc:∀(i k:Nat)(p q:PE),i<k->P[i]? =some p->P[k]? =some q->slt p.2.2 q.2.2
 cl:∀(i:Nat)(p:PE)(d y k:Nat),(i<a\/(i=a/\d<j))->P[i]? =some p->en W p.1 d=some (y,k)->∃q,q∈P/\q.1=y/\sle q.2.2 (p.2.2++[d])
theorem qVi{W:Web}{r0:Nat}:Tr W r0 0 0 [(r0,none,[])] where
 nd:=by simp
 zero:=rfl
 to:=λp hp=>by rw[lJ5.mp hp];rfl
 par:=λp hp=> .inl (lJ5.mp hp)
 inc:=λi k p q h h1 h2=>by
  have:=(lJe.mp h2).1;simp at this;omega
 cl:=λi p d y k h=>by omega
theorem Tr.old{W:Web}{r0 a j:Nat}{P:List PE}{x:PE}(h:Tr W r0 a j P)(hx:P[a]? =some x):∀p,p∈P->slt p.2.2 (x.2.2++[j]):=by
 intro p hp
 rcases h.par p hp with rfl | ⟨i,q,d,hi,hq,_,e⟩
 .exact .inl (by simp)
 .rw[e]
  rcases hi with hi | ⟨rfl,hd⟩
  .exact kYw (h.inc i a q x hi hq hx)
  .rw[hx] at hq;cases hq;exact qVn hd
theorem Tr.skip{W:Web}{r0 a j y k:Nat}{P:List PE}{x:PE}(h:Tr W r0 a j P)(hx:P[a]? =some x)(he:en W x.1 j=some (y,k))(hy:y∈P.map Prod.fst):Tr W r0 a (j+1) P where
 nd:=h.nd
 zero:=h.zero
 to:=h.to
 par:=λp hp=>by
  rcases h.par p hp with e | ⟨i,q,d,hi,r⟩
  .exact .inl e
  .exact .inr ⟨i,q,d,by omega,r⟩
 inc:=h.inc
 cl:=λi p d z k' hi hp hz=>by
  by_cases hh:i=a/\d=j
  .obtain⟨rfl,rfl⟩:=hh;rw[hx] at hp;cases hp;rw[he] at hz;cases hz;obtain⟨q,hq,rfl⟩:=lJy.mp hy;exact⟨q,hq,rfl,.inr (h.old hx q hq)⟩
  .exact h.cl i p d z k' (by omega) hp hz
theorem Tr.add{W:Web}{r0 a j y k:Nat}{P:List PE}{x:PE}(h:Tr W r0 a j P)(hx:P[a]? =some x)(he:en W x.1 j=some (y,k))(hy:y∉P.map Prod.fst):Tr W r0 a (j+1) (P++[(y,some (x.1,j),x.2.2++[j])]):=by
 have hal:a<P.length:=(lJe.mp hx).1
 have lf:∀{i:Nat}{q:PE},P[i]? =some q->(P++[(y,some (x.1,j),x.2.2++[j])])[i]? =some q:=λ{i q} hq=>by
  rw[lKe (lJe.mp hq).1];exact hq
 have rt:∀{i:Nat}{q:PE},(P++[(y,some (x.1,j),x.2.2++[j])])[i]? =some q->P[i]? =some q\/(i=P.length/\q=(y,some (x.1,j),x.2.2++[j])):=λ{i q} hq=>by
  by_cases hi:i<P.length
  .rw[lKe hi] at hq;exact .inl hq
  .have:=(lJe.mp hq).1;simp at this;have e:i=P.length:=by omega
   subst e;rw[lQk (lJg _)] at hq;simp at hq;exact .inr ⟨rfl,hq.symm⟩
 refine⟨?_,lf h.zero,λp hp=> ?_,λp hp=> ?_,λi m p q him hp hq=> ?_,λi p d z k' hi hp hz=> ?_⟩
 .rw[lQ5,lQa];refine⟨h.nd,by simp,λu hu v hv=> ?_⟩
  have:v=y:=by simpa using hv
  subst this;rintro rfl;exact hy hu
 .rcases (lKt.mp hp) with hp | hp
  .exact h.to p hp
  .rw[lJ5.mp hp];exact kK6 he (h.to x (lJm hx))
 .rcases (lKt.mp hp) with hp | hp
  .rcases h.par p hp with e | ⟨i,q,d,hi,hq,r⟩
   .exact .inl e
   .exact .inr ⟨i,q,d,by omega,lf hq,r⟩
  .rw[lJ5.mp hp];exact .inr ⟨a,x,j,by omega,lf hx,rfl,rfl⟩
 .rcases rt hp with hp | ⟨rfl,rfl⟩<;>rcases rt hq with hq | ⟨rfl,rfl⟩
  .exact h.inc i m p q him hp hq
  .exact h.old hx p (lJm hp)
  .have:=(lJe.mp hq).1;omega
  .omega
 .rcases rt hp with hpo | ⟨rfl,rfl⟩
  .by_cases hh:i=a/\d=j
   .obtain⟨rfl,rfl⟩:=hh;rw[hx] at hpo;cases hpo;rw[he] at hz;cases hz;exact⟨_,lKu _ (List.mem_singleton_self _),rfl,.inl rfl⟩
   .obtain⟨q,h1,h2⟩:=h.cl i p d z k' (by omega) hpo hz
    exact⟨q,lQj _ h1,h2⟩
  .omega
theorem Tr.next{W:Web}{r0 a n:Nat}{P:List PE}{x:PE}(h:Tr W r0 a n P)(hx:P[a]? =some x)(hn:∀d e,en W x.1 d=some e->d<n):Tr W r0 (a+1) 0 P where
 nd:=h.nd
 zero:=h.zero
 to:=h.to
 par:=λp hp=>by
  rcases h.par p hp with e | ⟨i,q,d,hi,r⟩
  .exact .inl e
  .exact .inr ⟨i,q,d,by omega,r⟩
 inc:=h.inc
 cl:=λi p d z k' hi hp hz=>by
  refine h.cl i p d z k' ?_ hp hz
  by_cases hh:i=a
  .subst hh;rw[hx] at hp;cases hp;exact .inr ⟨rfl,hn d _ hz⟩
  .exact .inl (by omega)
theorem Tr.all{W:Web}{r0:Nat}{P:List PE}(h:Tr W r0 P.length 0 P):∀(n:Nat)(u:List Nat)(y:Nat),u.length=n->kUx W r0 u y->∃q,q∈P/\q.1=y/\sle q.2.2 u
 | 0,u,y,hn,hl=>by
  have:u=[]:=lQm.mp hn;subst this;cases (show r0=y from hl)
  exact⟨_,lJm h.zero,rfl,.inl rfl⟩
 | n+1,u,y,hn,hl=>by
  rcases List.eq_nil_or_concat u with rfl | ⟨u',d,rfl⟩
  .simp at hn
  .rw[List.concat_eq_append] at hl hn ⊢;obtain⟨x,j,h1,h2⟩:=kK7 hl;obtain⟨q,hq,rfl,hs⟩:=h.all n u' x (by simpa using hn) h1
   obtain⟨i,hi⟩:=lJ4 hq;obtain⟨q',a1,a2,a3⟩:=h.cl i q d y j (.inl (lJe.mp hi).1) hi h2;exact⟨q',a1,a2,qKs a3 (qVo hs)⟩
theorem kZc{α β:Type}{f:α->β}:∀{P:List α},(P.map f).Nodup->∀{p q:α},p∈P->q∈P->f p=f q->p=q
 | [],_,_,_,h,_,_=>by simp at h
 | a::P,nd,p,q,hp,hq,e=>by
  rw[lJv,lKk] at nd
  rcases (lJk.mp hp) with ep | hp'<;>rcases lJk.mp hq with eq | hq'
  .rw[ep,eq]
  .exact absurd (lJy.mpr ⟨q,hq',by rw[<-e,ep]⟩) nd.1
  .exact absurd (lJy.mpr ⟨p,hp',by rw[e,eq]⟩) nd.1
  .exact kZc nd.2 hp' hq' e
theorem Tr.least{W:Web}{r0:Nat}{P:List PE}(h:Tr W r0 P.length 0 P){p:PE}(hp:p∈P):Least W r0 p.1 p.2.2:=by
 refine⟨h.to p hp,λu hu=> ?_⟩
 obtain⟨q,hq,e,hs⟩:=h.all _ u _ rfl hu;rw[kZc h.nd hq hp e] at hs;exact hs
def encO:Option (Nat×Nat)->T
 | none=> .non
 | some e=>encE e
def jU3(P:List PE):List (L2.Key×T):=P.map λp=>(keyN p.1,encO p.2.1)
theorem kZf{P:List PE}:(jU3 P).map Prod.fst=(P.map Prod.fst).map keyN:=by
 unfold jU3;rw[lKf,lKf];rfl
theorem qXt{x y:Nat}(h:keyN x=keyN y):x=y:=by
 have:((x:Nat):Int)=(y:Nat):=Sum.inl.inj h;omega
theorem kYu{α:Type}{f:α->Nat}{g:α->T}:∀{P:List α},(P.map f).Nodup->∀{p:α},p∈P->valT (P.map λp=>(keyN (f p),g p)) (keyN (f p))=some (g p)
 | [],_,_,h=>by simp at h
 | a::P,nd,p,hp=>by
  rw[lJv,lKk] at nd;rw[lJv];unfold valT;rw[lKm]
  by_cases hh:f a=f p
  .rcases (lJk.mp hp) with rfl | hp
   .simp
   .exact absurd (lJy.mpr ⟨p,hp,hh.symm⟩) nd.1
  .have hp':p∈P:=by
    rcases (lJk.mp hp) with rfl | hp
    .exact absurd rfl hh
    .exact hp
   have:decide (keyN (f a)=keyN (f p))=false:=lJo λe=>hh (qXt e)
   simp only[this];exact kYu nd.2 hp'
theorem qQz{G:Gp}{d:Addr}{kvs:List (L2.Key×T)}{x:Nat}(h:G d=some (.dck kvs)):ixR G (.ref d) (.int (x:Nat))=valT kvs (keyN x):=by
 have h1:seqT G (.ref d)=none:=by simp only[seqT,h,asL]
 have h2:dAt G (.ref d) (.int (x:Nat))=some (valT kvs (keyN x)):=by simp only[dAt,h,jZl];rfl
 unfold ixR;rw[h1,h2]
noncomputable def jK5:Sp3:=λxs G Q=>∃(W:Web)(r0:Nat),xs=[encW W,.int r0]/\Fine W/\r0<W.length/\∀d G' P,G d=none->G' d=some (.dck (jU3 P))->P.map Prod.fst=bfs W r0->Tr W r0 P.length 0 P->Sub G G'->Q (.ref d) G'
def kKh:List Str:=["web","room","comings","level","further","here","door","end"]
noncomputable def jQ9:TS3:=
 (tSeq (tAsg (qKl o1 (tC .non)) M2)
 (tSeq (tAsg (tLst C1) M3)
 (tSeq (jYe (tTru rTru o3) (tSeq (tAsg (tLst tNil) M4)
 (tSeq (tFor (iSeq o3) M5 (tFor (iEnT (jJc (tOp rIxF o0 o5) tNil)) (gTup 2 (jKd M6 (jKd M7 gNil))) (tIfS (jJv (tOp jUd (tOp rIxF o7 tI0) o2)) (tSeq (tAsg (tTup (jJc o5 C6)) (gSub o2 (tOp rIxF o7 tI0) jV0))
 (jQm (tBM "list" jQo o4 (jJc (tOp rIxF o7 tI0) tNil)))) jJ5)))
 (tAsg o4 M3))))
 (tRet o2))))
theorem jYk:RdOk jK5 jQ9 kKh:=by
 intro xs G Q h_;apply xe2 h_;clear h_;intro W r0;refine ae3 ?_;intro fine hr0 kk;show jQ9 _ [some (.tup (W.map encR)),some (.int r0),none,none,none,none,none,none] G
 have hs:=sz;have hl:=fine.len
 exists jQ9,jYe,jJ7,qKl,iSeq,iEnT
 intro d hd;refine⟨keyN r0,rfl,by omega,λl hl0=> ?_⟩
 have hdl:d≠l:=jJf (jJg (G:=G) (a:=d) (o:= .dck [(keyN r0,T.non)])) hl0;refine⟨λm τ G'=>∃(a:Nat)(l:Addr)(v4 v5 v6 v7:Option T)(F:List Nat)(P:List PE),τ=[some (.tup (W.map encR)),some (.int r0),some (.ref d),some (.ref l),v4,v5,v6,v7]/\d≠l/\G l=none/\G' d=some (.dck (jU3 P))/\P.map Prod.fst=F/\Tr W r0 a 0 P/\G' l=some (.lst (jJm (F.drop a)))/\a<=F.length/\Bfs W a F/\bfs W r0=bfsN W (W.length-a) a F/\Sub G G'/\m=W.length-a,?_,?_⟩
 .refine⟨_,0,l,none,none,none,none,[r0],[(r0,none,[])],rfl,hdl,?_,?_,rfl,qVi,jJg,lJ0 _,⟨by simp,by simpa using hr0,λi x e hi=>absurd hi (lK4 _)⟩,rfl,(Sub.new hd).trans (.new hl0),rfl⟩
  .rw[jJl hdl.symm] at hl0;exact hl0
  .rw[jJl hdl];exact jJg
 intro m τ G1 h_;apply xe8 h_;clear h_;intro a l v4 v5 v6 v7 F P;refine ae11 ?_;intro hdl hl0 h1 hk hT h2 haF hB hb hs1 e10_;subst e10_;have hFl:=jKe hB.nd hB.lt
 exists h2
 split
 .rename_i hne
  have haF':a<F.length:=by
   rcases lKd a F.length with z | z
   .exact z
   .rw[List.drop_of_length_le z] at hne;simp[jJm] at hne
  refine⟨λτ' G'=>∃(l':Addr)(v4 v5 v6 v7:Option T)(F':List Nat)(P':List PE),τ'=[some (.tup (W.map encR)),some (.int r0),some (.ref d),some (.ref l'),v4,v5,v6,v7]/\d≠l'/\G l'=none/\G' d=some (.dck (jU3 P'))/\P'.map Prod.fst=F'/\Tr W r0 F.length 0 P'/\G' l'=some (.lst (jJm (F'.drop F.length)))/\F.length<=F'.length/\Bfs W F.length F'/\bfs W r0=bfsN W (W.length-F.length) F.length F'/\Sub G G',?_,by omega,λp hp=> ?_⟩
  .intro τ' G' h_;apply xe7 h_;clear h_;intro l' v4 v5 v6 v7 F' P';refine ae10 ?_;intro i1 i2 i3 i4 iT i5 i6 i7 i8 i9;exact⟨W.length-F.length,by omega,F.length,l',v4,v5,v6,v7,rfl,i1,i2,F',P',i3,i4,iT,i5,i6,i7,i8,i9,rfl⟩
  .have hpd:d≠p:=jJf h1 hp;have hpl:l≠p:=jJf h2 hp;have hp0:=kYv hs1 hp;refine⟨jJm (F.drop a),jJo (by rw[jJl hpl];exact h2),?_⟩
   refine⟨λi τ G'=>∃(v5 v6 v7:Option T)(F':List Nat)(P':List PE),τ=[some (.tup (W.map encR)),some (.int r0),some (.ref d),some (.ref l),some (.ref p),v5,v6,v7]/\G' d=some (.dck (jU3 P'))/\P'.map Prod.fst=F'/\Tr W r0 (a+i) 0 P'/\G' l=some (.lst (jJm (F.drop a)))/\G' p=some (.lst (jJm (F'.drop F.length)))/\(∃E,F'=F++E)/\Bfs W (a+i) F'/\bfs W r0=bfsN W (W.length-(a+i)) (a+i) F'/\Sub G G',?_,?_,?_,?_⟩
   .exact⟨v5,v6,v7,F,P,rfl,by rw[jJl hpd];exact h1,hk,hT,by rw[jJl hpl];exact h2,by rw[lY1];exact jJg,⟨[],by simp⟩,hB,hb,hs1.trans (.new hp)⟩
   .intro i τ G' hi h_;apply xe5 h_;clear h_;intro v5 v6 v7 F' P';refine ae9 ?_;intro j1 jk jT j2 j3 jE jB jb js;exact jJo j2
   .intro i y τ G2 hy h_;apply xe5 h_;clear h_;intro v5 v6 v7 F' P';refine ae9 ?_;intro j1 jk jT j2 j3 q5_ jB jb js;obtain⟨E,jE⟩:=q5_;obtain⟨x,hx,rfl⟩:=jK4 hy;rw[List.getElem?_drop] at hx;have hai:a+i<F.length:=(lJe.mp hx).1;have hx':F'[a+i]? =some x:=by rw[jE,lKe hai];exact hx
    have hxW:=jB.lt x (lJm hx');have hW:W[x]? =some W[x]:=lJh hxW
    generalize W[x]=es at hW
    exists iEnT,jQf hW,encR,jJ7
    refine⟨λj τ G'=>∃(v6 v7:Option T)(F2:List Nat)(P2:List PE),τ=[some (.tup (W.map encR)),some (.int r0),some (.ref d),some (.ref l),some (.ref p),some (.int x),v6,v7]/\G' d=some (.dck (jU3 P2))/\P2.map Prod.fst=F2/\Tr W r0 (a+i) j P2/\G' l=some (.lst (jJm (F.drop a)))/\G' p=some (.lst (jJm (F2.drop F.length)))/\F2=vis F' (es.take j)/\Sub G G',?_,?_,?_,?_⟩
    .exact⟨v6,v7,F',P',rfl,j1,jk,jT,j2,j3,rfl,js⟩
    .intros;trivial
    .intro j y τ G3 hy h_;apply xe4 h_;clear h_;intro v6 v7 F2 P2;refine ae7 ?_;intro q1 qk qT q2 q3 q4 q5;obtain⟨z,hz,rfl⟩:=kUa hy;obtain⟨e,he,rfl⟩:=jK4 hz;have hF2n:F2.Nodup:=by rw[q4];exact vis_sub.2.2.2 jB.nd
     have hF2l:∀y,y∈F2->y<W.length:=by rw[q4];exact uK0 fine hW jB.lt j
     have hF2:=jKe hF2n hF2l;have hkl:(jU3 P2).length=F2.length:=by rw[<-qk];simp[jU3]
     obtain⟨⟨E',e1⟩,_⟩:=vis_sub (F:=F') (es:=es.take j)
     have hFF:F.length<=F2.length:=by
      rw[q4,e1,jE];simp only[lJ9];omega
     have hx2:F2[a+i]? =some x:=by
      rw[q4,e1,lKe (lJe.mp hx').1];exact hx'
     rw[<-qk] at hx2;obtain⟨px,hpx,hpx1⟩:=jK4 hx2;have hee:en W px.1 j=some (e.1,e.2):=by rw[<-hpx1];exact jV2 hW he
     have qk':(jU3 P2).map Prod.fst=F2.map keyN:=by rw[kZf,qk]
     exists encE,jUd,qQ5 q1 qk'
     by_cases hm:e.1∈F2
     .rw[lJb (by simp[hm])]
      exact⟨F2,P2,q1,qk,qT.skip hpx hee (by rw[qk];exact hm),q2,q3,by rw[jZo he,<-q4,lJc (by simpa using hm)],q5⟩
     .rw[lJc (by simp[hm])]
      exists qVu q1 (show (jU3 P2).length<sizeLine by omega)
      have hgp:gup G3 d (.dck (putT (jU3 P2) (keyN e.1) (.tup [.int x,.int j]))) p=some (.lst (jJm (F2.drop F.length))):=by rw[jJl hpd.symm];exact q3
      refine⟨by omega,by rw[jKx hgp];trivial,_,hgp,by simp[jJm];omega,F2++[e.1],P2++[(e.1,some (px.1,j),px.2.2++[j])],?_,?_,?_,?_,?_,?_,?_⟩
      .rw[jJl hpd,jJg,qV7 (by rw[qk',kZg];exact hm),<-hpx1]
       simp only[jU3,lQ5];rfl
      .rw[lQ5,qk];rfl
      .exact qT.add hpx hee (by rw[qk];exact hm)
      .rw[jJl hpl,jJl hdl.symm];exact q2
      .rw[List.drop_append_of_le_length hFF];simp[jJm]
      .rw[jZo he,<-q4,lJb (by simpa using hm)]
      .exact (q5.over hd).over hp0
    .intro τ G3 h_;apply xe4 h_;clear h_;intro v6 v7 F2 P2;refine ae7 ?_;intro q1 qk qT q2 q3 q4 q5;rw[jKm,lJf] at qT;rw[jKm,lJf,lVl] at q4;obtain⟨⟨E',e1⟩,_⟩:=vis_sub (F:=F') (es:=es)
     have hx2:F2[a+i]? =some x:=by
      rw[q4,e1,lKe (lJe.mp hx').1];exact hx'
     rw[<-qk] at hx2;obtain⟨px,hpx,hpx1⟩:=jK4 hx2;refine⟨_,_,_,rfl,F2,P2,q1,qk,qT.next hpx (λd' e he=> ?_),q2,q3,⟨E++E',by rw[q4,e1,jE,lXn]⟩,?_,?_,q5⟩
     .rw[<-hpx1] at he;obtain⟨es',z1,z2⟩:=jKv he;rw[hW] at z1;cases z1;exact (lJe.mp z2).1
     .have:=jB.step fine hx';rw[kK5 hW,<-q4] at this;exact this
     .rw[jb,show W.length-(a+i)=W.length-(a+(i+1))+1 by omega,kKd hx',kK5 hW,<-q4];rfl
   .intro τ G2 h_;apply xe5 h_;clear h_;intro v5 v6 v7 F' P';refine ae9 ?_;intro j1 jk jT j2 j3 q5_ jB jb js;obtain⟨E,jE⟩:=q5_;have hlen:(jJm (F.drop a)).length=F.length-a:=by simp[jJm]
    rw[hlen,show a+(F.length-a)=F.length by omega] at jB jb jT
    exists tSeq
    exact⟨hpd,hp0,F',P',j1,jk,jT,j3,by rw[jE,lJ9];omega,jB,jb,js⟩
 .rename_i hne
  have he:F.length<=a:=by
   have:jJm (F.drop a)=[]:=by simpa using hne
   have:=lJx List.length this;simp[jJm] at this;omega
  have hPl:P.length=a:=by have:=lJx List.length hk;simp at this;omega
  rw[kKe he] at hb;exact kk d G1 P hd h1 (by rw[hk,hb]) (by rw[hPl];exact hT) hs1
theorem qUm{z d:Nat}:encO (some (z,d))= .tup [.int (z:Nat),.int (d:Nat)]:=rfl
theorem qUn:encO none= .non:=rfl
noncomputable def jYf:Sp3:=λxs G Q=>∃(W:Web)(r x:Nat),xs=[encW W,.int r,.int x]/\Fine W/\W.length<=24/\r<W.length/\x∈bfs W r/\∀G' w,Least W r x w->w.length<W.length->Sub G G'->Q (.tup (jJm w)) G'
def qYt:List Str:=["web","one","other","comings","doors","end"]
noncomputable def kJd:TS3:=
 (tSeq (tAsg (jJq jK5 (jJc o0 C1)) M3)
 (tSeq (tAsg (tLst tNil) M4)
 (tSeq (tAsg (tOp rIxF o3 o2) M5)
 (tSeq (jYe (jJv (tOp jZh o5 (tC .non))) (tSeq (jQm (tBM "list" jQo o4 (jJc (tOp rIxF o5 tI1) tNil)))
 (tAsg (tOp rIxF o3 (tOp rIxF o5 tI0)) M5)))
 (tRet (qZr C4))))))
theorem uK5{W:Web}{r0:Nat}{P:List PE}(h:Tr W r0 P.length 0 P):∀(i:Nat)(p:PE),P[i]? =some p->p.2.2.length<=i:=by
 intro i
 induction i using Nat.strongRecOn with
 | ind i ih=>
  intro p hp
  rcases h.par p (lJm hp) with rfl | ⟨k,q,d,_,hq,_,e⟩
  .simp
  .rw[e,lJ9]
   have hki:k<i:=by
    rcases lYu k i with z | z | z
    .exact z
    .subst z;rw[hp] at hq;cases hq;have:=lJx List.length e;simp at this
    .have:=h.inc i k p q z hp hq;rw[e] at this
     rcases this with this | ⟨this,_⟩<;>simp at this
     omega
   have:=ih k hki q hq;simp;omega
theorem kXo:RdOk jYf kJd qYt:=by
 intro xs G Q h_;apply xe3 h_;clear h_;intro W r x;refine ae5 ?_;intro fine h24 hr hx kk;show kJd _ [some (encW W),some (.int r),some (.int x),none,none,none] G
 have hs:=sz
 exists kJd,jYe,qZr
 refine⟨W,r,rfl,fine,hr,λd G1 P hd h1 hF hT s1=> ?_⟩
 have hxF:x∈P.map Prod.fst:=by rw[hF];exact hx
 obtain⟨px,hpx,hpx1⟩:=lJy.mp hxF
 have hPW:P.length<=W.length:=by
  have h1:=lJx List.length hF;have h2:=jKe (kQh fine hr).2.nd (kQh fine hr).2.lt;simp at h1;omega
 have hPl:P.length<=24:=by omega
 have wlW:∀p,p∈P->p.2.2.length<W.length:=λp hp=>by
  obtain⟨i,hi⟩:=lJ4 hp;have:=uK5 hT i p hi;have:=(lJe.mp hi).1;omega
 have wl:∀p,p∈P->p.2.2.length<=24:=λp hp=>by have:=wlW p hp;omega
 refine⟨by omega,λl hl=> ?_⟩
 have hdl:d≠l:=jJf h1 hl;have h1':gup G1 l (.lst []) d=some (.dck (jU3 P)):=by rw[jJl hdl];exact h1
 have hv:∀p,p∈P->valT (jU3 P) (keyN p.1)=some (encO p.2.1):=λp hp=>kYu hT.nd hp
 have hv0:=hv px hpx;rw[hpx1] at hv0;refine⟨encO px.2.1,(qQz h1').trans hv0,?_⟩;refine⟨λm τ G'=>∃(p:PE)(ds:List Nat),τ=[some (encW W),some (.int r),some (.int x),some (.ref d),some (.ref l),some (encO p.2.1)]/\p∈P/\p.2.2++ds.reverse=px.2.2/\G' d=some (.dck (jU3 P))/\G' l=some (.lst (jJm ds))/\Sub G G'/\m=p.2.2.length,?_,?_⟩
 .exact⟨_,px,[],rfl,hpx,by simp,h1',jJg,s1.trans (.new hl),rfl⟩
 intro m τ G2 h_;apply xe2 h_;clear h_;intro p ds;refine ae6 ?_;intro hp hw h2 h3 s2 e5_;subst e5_;have hlG:G l=none:=kYv s1 hl
 exists jZh
 rcases hT.par p hp with rfl | ⟨i,q,c,hi,hq,ho,hpw⟩
 .exists qUn,kKv
  refine⟨jJm ds,by simp only[jU2,h3,asL],?_⟩
  have e1:(jJm ds).reverse=jJm px.2.2:=by rw[<-hw];simp[jJm]
  rw[e1];exact kk G2 px.2.2 (by rw[<-hpx1];exact hT.least hpx) (wlW px hpx) s2
 .have hqm:=lJm hq;have hpl:=wl px hpx
  have hdl2:ds.length<=24:=by
   have:=lJx List.length hw;simp at this;omega
  rw[ho]
  exists qUm,kKv
  refine⟨λτ' G'=>∃(p':PE)(ds:List Nat),τ'=[some (encW W),some (.int r),some (.int x),some (.ref d),some (.ref l),some (encO p'.2.1)]/\p'∈P/\p'.2.2.length<p.2.2.length/\p'.2.2++ds.reverse=px.2.2/\G' d=some (.dck (jU3 P))/\G' l=some (.lst (jJm ds))/\Sub G G',?_,?_⟩
  .intro τ' G' h_;apply xe2 h_;clear h_;intro p' ds';refine ae6 ?_;intro i1 i2 i3 i4 i5 i6;exact⟨_,i2,p',rfl,i1,ds',i3,i4,i5,i6,rfl⟩
  .exists h3
   have h2':gup G2 l (.lst (jJm ds++[.int (c:Nat)])) d=some (.dck (jU3 P)):=by rw[jJl hdl];exact h2
   refine⟨by rw[jKx h3];trivial,by simp[jJm];omega,encO q.2.1,(qQz h2').trans (hv q hqm),q,rfl,hqm,by rw[hpw];simp,ds++[c],?_,h2',by simp[jJm],s2.over hlG⟩
   rw[<-hw,hpw];simp
def abcS:Str:=PySem.Str.ofString "abcdefghijklmnopqrstuvwxyz"
def letS(r:Nat):Str:=⟨#[(abcS.cps[(r*7+3)%26]?).getD 0]⟩
def mulS(r:Nat):Nat:=([1,3,1,8,2]:List Nat).getD (r%5) 0
def mkS(r:Nat):Str:=qKm (letS r) (mulS r)
theorem qQs:((List.range 24).map mkS).Nodup:=by decide +kernel
theorem uUc{r r':Nat}(h:r<24)(h':r'<24)(e:mkS r=mkS r'):r=r':=by
 have:=(lYi (i:=r) (j:=r') (h₀:=by simpa using h) (h₁:=by simpa using h') qQs).mp (by simpa using e)
 exact this
theorem jXi{p q:Nat×Nat}(h:keyE p=keyE q):p=q:=by
 unfold keyE at h;simp only[List.cons.injEq,Sum.inl.injEq,and_true] at h;exact Prod.ext (by exact_mod_cast h.1) (by exact_mod_cast h.2)
structure CS where
 ms:List Nat
 ct:List Nat
 E:Nat×Nat->Option (Nat×Nat)
 pl:Nat
 n:Nat
structure CS.Ok (s:CS):Prop where
 nd:s.ms.Nodup
 lt:∀r,r∈s.ms->r<24
 len:s.ct.length=s.ms.length
 dg:∀c,c∈s.ct->c<12
 pl:s.pl<s.ms.length
 e0:∀p q,s.E p=some q->p.1∈s.ms
 e1:∀p q,s.E p=some q->q.1∈s.ms
def CS.at_(s:CS):Nat:=s.ms.getD s.pl 0
theorem CS.Ok.at_{s:CS}(h:s.Ok):s.ms[s.pl]? =some s.at_:=by
 unfold CS.at_;rw[lK0,lJh h.pl];rfl
theorem jX8{ms:List Nat}(nd:ms.Nodup){i r:Nat}(h:ms[i]? =some r):ms.idxOf r=i:=by
 (obtain⟨hi,e⟩:=lJe.mp h)
 have hm:r∈ms:=lJm h;have h1:ms.idxOf r<ms.length:=lY2 hm;have h2:ms[ms.idxOf r]=r:=List.getElem_idxOf h1;exact (lYi (h₀:=h1) (h₁:=hi) nd).mp (h2.trans e.symm)
theorem jQi{ms:List Nat}{r:Nat}(h:r∈ms):ms[ms.idxOf r]? =some r:=by
 have h1:=lY2 h;rw[lJh h1,List.getElem_idxOf h1]
theorem kUd{ms:List Nat}{r:Nat}(h:r∈ms):ms.idxOf r<ms.length:=lY2 h
theorem kK9{ms:List Nat}{r:Nat}(h:r∉ms):ms.idxOf r=ms.length:=List.idxOf_eq_length h
def addR(ms:List Nat)(r:Nat):List Nat:=if r∈ms then ms else ms++[r]
def addC(ms ct:List Nat)(r k:Nat):List Nat:=if r∈ms then ct else ct++[k]
theorem jZ0{ms:List Nat}{r i x:Nat}(h:ms[i]? =some x):(addR ms r)[i]? =some x:=by
 unfold addR;split
 .exact h
 .rw[lKe (lJe.mp h).1];exact h
theorem addR_mem{ms:List Nat}{r x:Nat}:x∈addR ms r↔x∈ms\/x=r:=by
 unfold addR;split
 .exact⟨.inl,λh=>h.elim id λe=>e▸ ‹_›⟩
 .simp
theorem kUq{ms:List Nat}{r:Nat}(h:ms.Nodup):(addR ms r).Nodup:=by
 unfold addR;split
 .exact h
 .rename_i hr
  exact lQa.mpr ⟨h,by simp,λa ha b hb e=>hr (by rw[lJ5] at hb;rw[<-hb,<-e];exact ha)⟩
theorem kUr{ms:List Nat}{r x:Nat}(nd:ms.Nodup)(h:x∈ms):(addR ms r).idxOf x=ms.idxOf x:=jX8 (kUq nd) (jZ0 (jQi h))
theorem jXk{ms:List Nat}{r:Nat}(nd:ms.Nodup):(addR ms r).idxOf r=ms.idxOf r:=by
 by_cases h:r∈ms
 .exact kUr nd h
 .rw[kK9 h];exact jX8 (kUq nd) (by unfold addR;rw[lJb h];simp)
def tieE(E:Nat×Nat->Option (Nat×Nat))(p q:Nat×Nat):Nat×Nat->Option (Nat×Nat):=λx=>if x=q then some p else if x=p then some q else E x
def goC(s:CS)(d c r k:Nat):CS:=⟨addR s.ms r,addC s.ms s.ct r k,tieE s.E (s.at_,d) (r,c),s.ms.idxOf r,s.n+1⟩
theorem CS.Ok.mem{s:CS}(h:s.Ok):s.at_∈s.ms:=lJm h.at_
theorem CS.Ok.go{s:CS}(h:s.Ok){d c r k:Nat}(hr:r<24)(hk:k<12):(goC s d c r k).Ok where
 nd:=kUq h.nd
 lt:=λx hx=>(addR_mem.mp hx).elim (h.lt x) λe=>e▸hr
 len:=by
  show (addC s.ms s.ct r k).length=(addR s.ms r).length
  unfold addC addR;split
  .exact h.len
  .simp[h.len]
 dg:=λx hx=>by
  unfold goC addC at hx
  dsimp only at hx
  split at hx
  .exact h.dg x hx
  .rcases (lKt.mp hx) with z | z
   .exact h.dg x z
   .rw[lJ5] at z;omega
 pl:=by
  show s.ms.idxOf r<(addR s.ms r).length
  rw[<-jXk h.nd];exact kUd (addR_mem.mpr (.inr rfl))
 e0:=λp q e=>by
  refine addR_mem.mpr ?_;unfold goC tieE at e
  dsimp only at e
  split at e
  .rename_i z;exact .inr (by rw[z])
  .split at e
   .rename_i z;exact .inl (by rw[z];exact h.mem)
   .exact .inl (h.e0 p q e)
 e1:=λp q e=>by
  refine addR_mem.mpr ?_;unfold goC tieE at e
  dsimp only at e
  split at e
  .cases e;exact .inl h.mem
  .split at e
   .cases e;exact .inr rfl
   .exact .inl (h.e1 p q e)
theorem uUn{s:CS}(h:s.Ok){d c r k:Nat}:(goC s d c r k).at_=r:=by
 have h1:(addR s.ms r)[s.ms.idxOf r]? =some r:=by rw[<-jXk h.nd];exact jQi (addR_mem.mpr (.inr rfl))
 show (addR s.ms r).getD (s.ms.idxOf r) 0=r
 rw[lK0,h1];rfl
abbrev Kvs:=List (L2.TKey×T)
def kv1(kvs:Kvs)(a b:Nat×Nat):Kvs:=putT (putT kvs (keyE a) (encE b)) (keyE b) (encE a)
structure LdOk (s:CS) (kvs:Kvs):Prop where
 ks:∀x,x∈kvs->∃i d:Nat,i<s.ms.length/\d<12/\x.1=keyE (i,d)
 val:∀i r d:Nat,s.ms[i]? =some r->valT kvs (keyE (i,d))=(s.E (r,d)).map λe=>encE (s.ms.idxOf e.1,e.2)
 nd:(kvs.map (·.1)).Nodup
theorem qQe{κ:Type}[DecidableEq κ]{kvs:List (κ×T)}{k:κ}{v:T}(h:(kvs.map (·.1)).Nodup):((putT kvs k v).map (·.1)).Nodup:=by
 unfold putT;split
 .rw[lKf]
  have:kvs.map ((·.1)∘λkv=>if kv.1=k then (kv.1,v) else kv)=kvs.map (·.1):=by
   (refine lXz λx _=> ?_)
   simp only[Function.comp];split<;>rfl
  rw[this];exact h
 .rename_i q
  rw[lQ5];refine lQa.mpr ⟨h,by simp,λa ha b hb e=>q ?_⟩
  obtain⟨x,hx,rfl⟩:=lJy.mp ha;simp at hb;exact lX0.mpr ⟨x,hx,by simp[e,hb]⟩
def decK:L2.TKey->Nat
 | [.inl (.inl a),.inl (.inl b)]=>a.toNat * 12+b.toNat
 | _=>0
theorem qUt(i d:Nat):decK (keyE (i,d))=i*12+d:=by simp[decK,keyE]
theorem kU6{κ:Type}[DecidableEq κ]{P:κ->Prop}{kvs:List (κ×T)}{k:κ}{v:T}(h:∀x,x∈kvs->P x.1)(hk:P k):∀x,x∈putT kvs k v->P x.1:=by
 intro x hx;unfold putT at hx;split at hx
 .obtain⟨y,hy,rfl⟩:=lJy.mp hx;split
  .exact h y hy
  .exact h y hy
 .rcases (lKt.mp hx) with z | z
  .exact h x z
  .rw[lJ5] at z;rw[z];exact hk
theorem qVf{κ:Type}[DecidableEq κ]{kvs:List (κ×T)}{k:κ}(h:∀x,x∈kvs->x.1≠k):valT kvs k=none:=by
 unfold valT;rw[List.find?_eq_none.mpr λx hx=>by simpa using h x hx];rfl
theorem LdOk.off{s:CS}{kvs:Kvs}(h:LdOk s kvs){i d:Nat}(hi:s.ms.length<=i):valT kvs (keyE (i,d))=none:=qVf λx hx e=>by
 obtain⟨i',d',h1,_,h3⟩:=h.ks x hx;have:=lJx Prod.fst (jXi (h3.symm.trans e));simp at this;omega
theorem LdOk.small{s:CS}{kvs:Kvs}(o:s.Ok)(h:LdOk s kvs):kvs.length<=288:=by
 have hlm:s.ms.length<=24:=jKe o.nd o.lt
 have h1:(kvs.map λx=>decK x.1).Nodup:=by
  rw[show (kvs.map λx=>decK x.1)=(kvs.map (·.1)).map decK by rw[lKf];rfl]
  refine List.Pairwise.map _ (λa b hab=> ?_) (List.Pairwise.imp_of_mem (S:=λa b=>a≠b/\(∃i d:Nat,d<12/\a=keyE (i,d))/\∃i d:Nat,d<12/\b=keyE (i,d)) (λ{a b} ha hb hab=> ?_) h.nd)
  .obtain⟨ne,⟨i,d,hd,rfl⟩,i',d',hd',rfl⟩:=hab;rw[qUt,qUt];intro e;have e1:i=i':=by omega
   have e2:d=d':=by omega
   exact ne (by rw[e1,e2])
  .obtain⟨x,hx,rfl⟩:=lJy.mp ha;obtain⟨y,hy,rfl⟩:=lJy.mp hb;obtain⟨i,d,_,h2,h3⟩:=h.ks x hx;obtain⟨i',d',_,h2',h3'⟩:=h.ks y hy;exact⟨hab,⟨i,d,h2,h3⟩,i',d',h2',h3'⟩
 have h2:=jKe (n:=288) h1 λz hz=>by
  obtain⟨x,hx,rfl⟩:=lJy.mp hz;obtain⟨i,d,h1,h2,h3⟩:=h.ks x hx;rw[h3,qUt];omega
 rwa [lJf] at h2
theorem LdOk.go{s:CS}{kvs:Kvs}(o:s.Ok)(h:LdOk s kvs){d c r k:Nat}(hr:r<24)(hd:d<12)(hc:c<12):LdOk (goC s d c r k) (kv1 kvs (s.pl,d) (s.ms.idxOf r,c)) where
 ks:=by
  have hl:s.ms.length<=(addR s.ms r).length:=by unfold addR;split<;>simp
  have h2:s.ms.idxOf r<(addR s.ms r).length:=by rw[<-jXk o.nd];exact kUd (addR_mem.mpr (.inr rfl))
  refine kU6 (P:=λk=>∃i d:Nat,i<(addR s.ms r).length/\d<12/\k=keyE (i,d)) (kU6 (P:=λk=>∃i d:Nat,i<(addR s.ms r).length/\d<12/\k=keyE (i,d)) (λx hx=> ?_) ⟨_,_,lJw o.pl hl,hd,rfl⟩) ⟨_,_,h2,hc,rfl⟩
  obtain⟨i,d,a,b,e⟩:=h.ks x hx;exact⟨i,d,lJw a hl,b,e⟩
 val:=λi r' d' hi=>by
  have nd':=kUq (r:=r) o.nd;have hi':(addR s.ms r).idxOf r'=i:=jX8 nd' hi;have hat:(addR s.ms r).idxOf s.at_=s.pl:=jX8 nd' (jZ0 o.at_);have hrr:(addR s.ms r).idxOf r=s.ms.idxOf r:=jXk o.nd;show valT (putT (putT kvs (keyE (s.pl,d)) (encE (s.ms.idxOf r,c))) (keyE (s.ms.idxOf r,c)) (encE (s.pl,d))) (keyE (i,d'))=(tieE s.E (s.at_,d) (r,c) (r',d')).map λe=>encE ((addR s.ms r).idxOf e.1,e.2)
  rw[kQj,kQj];have mi:(addR s.ms r)[i]? =some r':=hi
  have inj:∀{x:Nat},x∈addR s.ms r->(addR s.ms r).idxOf x=i->x=r':=λ{x} hx e=>by
   have:=jQi hx;rw[e,mi] at this;exact (lJn this).symm
  unfold tieE
  by_cases q1:(r',d')=(r,c)
  .rw[lJc q1];cases q1;rw[lJc (by rw[<-hi',hrr])]
   simp[hat]
  .rw[lJb q1,lJb (λz=>q1 ?_)]
   .by_cases q2:(r',d')=(s.at_,d)
    .rw[lJc q2];cases q2;rw[lJc (by rw[<-hi',hat])]
     simp[hrr]
    .rw[lJb q2,lJb (λz=>q2 ?_)]
     .by_cases hm:r'∈s.ms
      .have e1:s.ms.idxOf r'=i:=by rw[<-kUr o.nd hm];exact hi'
       rw[h.val i r' d' (by rw[<-e1];exact jQi hm)]
       cases e:s.E (r',d') with
       | none=>rfl
       | some q=>simp only[lQv];rw[kUr o.nd (o.e1 _ _ e)]
      .have:s.E (r',d')=none:=by
        cases e:s.E (r',d') with
        | none=>rfl
        | some q=>exact absurd (o.e0 _ _ e) hm
       rw[this];refine h.off ?_
       rcases lKd i s.ms.length with z | z
       .have:=jZ0 (r:=r) (lJh z);rw[mi] at this;exact absurd (lJn this▸lV8 z) hm
       .exact z
     .have z':=jXi z;have z1:s.pl=i:=lJx Prod.fst z';have z2:d=d':=lJx Prod.snd z';rw[<-z2,inj (addR_mem.mpr (.inl o.mem)) (hat.trans z1)]
   .have z':=jXi z;have z1:s.ms.idxOf r=i:=lJx Prod.fst z';have z2:c=d':=lJx Prod.snd z';rw[<-z2,inj (addR_mem.mpr (.inr rfl)) (hrr.trans z1)]
 nd:=qQe (qQe h.nd)
def fgE(E:Nat×Nat->Option (Nat×Nat))(p:Nat×Nat):Nat×Nat->Option (Nat×Nat):=match E p with
 | none=>E
 | some q=>λx=>if x=q then none else if x=p then none else E x
def fgC(s:CS)(p:Nat×Nat):CS:={s with E:=fgE s.E p}
theorem jZ2{κ:Type}[DecidableEq κ]{kvs:List (κ×T)}{k k':κ}:valT (kUl kvs k) k'=if k'=k then none else valT kvs k':=by
 unfold valT kUl
 induction kvs with
 | nil=>simp
 | cons x xs ih=>
  rw[lK5]
  by_cases e:x.1=k
  .rw[lJb (by simpa using e),ih]
   by_cases z:k'=k
   .rw[lJc z,lJc z]
   .rw[lJb z,lJb z,lKm,lJo (λq=>z (q.symm.trans e))]
  .rw[lJc (by simpa using e)]
   by_cases q:x.1=k'
   .rw[lKm,lKa q,lJb (λz=>e (q.trans z)),lKm,lKa q]
   .rw[lKm,lJo q,ih,lKm,lJo q]
theorem kYg{κ:Type}[DecidableEq κ]{kvs:List (κ×T)}{k:κ}(h:(kvs.map (·.1)).Nodup):((kUl kvs k).map (·.1)).Nodup:=List.Nodup.sublist (List.Sublist.map _ lYx) h
theorem kUk{κ:Type}[DecidableEq κ]{kvs:List (κ×T)}{k:κ}{x:κ×T}(h:x∈kUl kvs k):x∈kvs:=(lQi.mp h).1
theorem LdOk.fg{s:CS}{kvs kvs':Kvs}(o:s.Ok)(h:LdOk s kvs){i r d:Nat}{q:Nat×Nat}(hi:s.ms[i]? =some r)(he:s.E (r,d)=some q)(hs:∀x,x∈kvs'->x∈kvs)(hl:(kvs'.map (·.1)).Nodup)
  (hv:∀k,valT kvs' k=if k=keyE (s.ms.idxOf q.1,q.2) then none else if k=keyE (i,d) then none else valT kvs k):LdOk (fgC s (r,d)) kvs' where
 ks:=λx hx=>h.ks x (hs x hx)
 nd:=hl
 val:=λi' r' d' hi'=>by
  have hi':s.ms[i']? =some r':=hi';show valT kvs' _=(fgE s.E (r,d) (r',d')).map λe=>encE (s.ms.idxOf e.1,e.2)
  have e1:=jX8 o.nd hi;have e2:=jX8 o.nd hi';rw[hv];unfold fgE;rw[he]
  dsimp only
  by_cases z:(r',d')=q
  .rw[lJc z,lJc (by rw[<-z,e2])];rfl
  .rw[lJb z,lJb (λy=>z ?_)]
   .by_cases z2:(r',d')=(r,d)
    .rw[lJc z2];cases z2;rw[e1] at e2;rw[lJc (by rw[e2])];rfl
    .rw[lJb z2,lJb (λy=>z2 ?_)]
     .exact h.val i' r' d' hi'
     .have y':=jXi y;have y1:i'=i:=lJx Prod.fst y';have y2:d'=d:=lJx Prod.snd y';rw[y1,hi] at hi';cases hi';rw[y2]
   .have y':=jXi y;have y1:i'=s.ms.idxOf q.1:=lJx Prod.fst y';have y2:d'=q.2:=lJx Prod.snd y';have:=jQi (o.e1 _ _ he);rw[<-y1,hi'] at this;rw[lJn this,y2]
def jJp:Sp3:=λxs G Q=>∃r:Nat,xs=[.int (r:Nat)]/\r<24/\∀G',Sub G G'->Q (.str (mkS r)) G'
def qYx:List Str:=["_law_room","_law_letter"]
noncomputable def kJh:TS3:=
 (tSeq (tAsg (tOp rIxS (tC (.str (PySem.Str.ofString "abcdefghijklmnopqrstuvwxyz"))) (tOp rMod (tOp jKz (tOp jV1 o0 (tC (.int 7))) (tC (.int 3))) (tC (.int 26)))) M1)
 (tRet (tOp qZ6 o1 (tOp rIxF (tLst (jJc tI1 (jJc (tC (.int 3)) (jJc tI1 (jJc (tC (.int 8)) (jJc tI2 tNil)))))) (tOp rMod o0 (tC (.int 5)))))))
theorem kXs:RdOk jJp kJh qYx:=by
 intro xs G Q h_;apply xe1 h_;clear h_;intro r;refine ae2 ?_;intro hr kk;show kJh _ [some (.int (r:Nat)),none] G
 have hs:=sz
 exists kJh,rIxS,qZ6
 have hx:(r*7+3)%26<abcS.cps.size:=lJw (lQ6 _ (by decide)) (by decide +kernel)
 have hm:L2.atI [T.int 1,T.int 3,T.int 1,T.int 8,T.int 2] ((r:Int)%5)=some (.int (mulS r:Nat)):=by
  have:(r:Int)%5=((r%5:Nat):Int):=by omega
  rw[this,atN];unfold mulS;have h5:r%5<5:=lQ6 _ (by decide)
  generalize r%5=x at h5
  match x,h5 with
  | 0,_=>rfl
  | 1,_=>rfl
  | 2,_=>rfl
  | 3,_=>rfl
  | 4,_=>rfl
 have hm1:1<=mulS r/\mulS r<=100:=by
  unfold mulS;have h5:r%5<5:=lQ6 _ (by decide)
  generalize r%5=x at h5
  match x,h5 with
  | 0,_=>exact⟨by decide,by decide⟩
  | 1,_=>exact⟨by decide,by decide⟩
  | 2,_=>exact⟨by decide,by decide⟩
  | 3,_=>exact⟨by decide,by decide⟩
  | 4,_=>exact⟨by decide,by decide⟩
 refine⟨.inl (by omega),by decide,abcS,rfl,(r*7+3)%26,by omega,by omega,abcS.cps[(r*7+3)%26],lYs hx,by omega,λp hp=>⟨by decide,_,hm,_,rfl,mulS r,rfl,hm1.1,hm1.2,rfl,?_⟩⟩
 have e:(⟨#[abcS.cps[(r*7+3)%26]]⟩:Str)=letS r:=by unfold letS;rw[lYs hx];rfl
 rw[e];exact kk _ (.new hp)
def chF(b c d:Addr)(pl:Nat):List (Str×T):=[("marks",.ref b),("counts",.ref c),("leads",.ref d),("place",.int (pl:Nat))]
def chG(b c d:Addr)(pl:Nat):GO:= .ins "Chart" (chF b c d pl)
theorem kVt{m:Str}:∀{fs:List (Str×T)},(∀g,g∈fs.map (·.1)->¬ g=m)->fldT m fs=none
 | [],_=>rfl
 | (g,x)::r,h=>by
  rw[fldT,lJb (h g (by simp))]
  exact kVt λg' hg=>h g' (by rw[lJv];exact lJ8 _ hg)
theorem jQw{G:Gp}{a b c d:Addr}{pl:Nat}{m:Str}(h:G a=some (chG b c d pl))(hm:∀g,g∈(["marks","counts","leads","place"]:List Str)->¬ g=m:=by decide +kernel):obR "Chart" m G (.ref a)=true:=by
 simp only[obR,h,chG,kVt (fs:=chF b c d pl) hm,Option.isNone_none,decide_true,Bool.and_true]
theorem q1:(("marks":Str)="counts")=False:=lVt (by decide +kernel)
theorem q2:(("marks":Str)="leads")=False:=lVt (by decide +kernel)
theorem q3:(("marks":Str)="place")=False:=lVt (by decide +kernel)
theorem q4:(("counts":Str)="leads")=False:=lVt (by decide +kernel)
theorem q5:(("counts":Str)="place")=False:=lVt (by decide +kernel)
theorem q6:(("leads":Str)="place")=False:=lVt (by decide +kernel)
section
variable {G:Gp}{a b c d:Addr}{pl:Nat}
theorem fl{f:Str}{v:T}(h:G a=some (chG b c d pl))(hf:fldT f (chF b c d pl)=some v):fldR "Chart" f G (.ref a)=some v:=by
 simp only[fldR,h,chG,lJ7,hf]
theorem fMk(h:G a=some (chG b c d pl)):fldR "Chart" "marks" G (.ref a)=some (.ref b):=fl h (by simp only[chF,fldT,lJ7])
theorem fCt(h:G a=some (chG b c d pl)):fldR "Chart" "counts" G (.ref a)=some (.ref c):=fl h (by simp only[chF,fldT,lJ7,q1,lJt])
theorem fLd(h:G a=some (chG b c d pl)):fldR "Chart" "leads" G (.ref a)=some (.ref d):=fl h (by simp only[chF,fldT,lJ7,q2,q4,lJt])
theorem fPl(h:G a=some (chG b c d pl)):fldR "Chart" "place" G (.ref a)=some (.int (pl:Nat)):=fl h (by simp only[chF,fldT,lJ7,q3,q5,q6,lJt])
theorem sf{f:Str}{v:T}{fs:List (Str×T)}(h:G a=some (chG b c d pl))(hf:jYl f v (chF b c d pl)=fs):jZ8 "Chart" f G (.ref a) v=some (gup G a (.ins "Chart" fs)):=by
 simp only[jZ8,h,chG];rw[lJc ⟨trivial,by simp[chF]⟩,hf]
theorem pLd{e:Addr}(h:G a=some (chG b c d pl)):jZ8 "Chart" "leads" G (.ref a) (.ref e)=some (gup G a (chG b c e pl)):=sf h (by simp only[chF,jYl,lJ7,q2,q4,lJt])
theorem pPl{r:Nat}(h:G a=some (chG b c d pl)):jZ8 "Chart" "place" G (.ref a) (.int (r:Nat))=some (gup G a (chG b c d r)):=sf h (by simp only[chF,jYl,lJ7,q3,q5,q6,lJt])
theorem setN{f:Str}{v:T}{fs fs':List (Str×T)}(h:G a=some (.ins "Chart" fs))(hl:fs.length<1000)(hp:jYl f v fs=fs'):jZ8 "Chart" f G (.ref a) v=some (gup G a (.ins "Chart" fs')):=by
 simp only[jZ8,h];rw[lJc ⟨trivial,hl⟩,hp]
end
def mksT(ms:List Nat):List T:=ms.map λr=>T.str (mkS r)
structure ChAt (G:Gp) (a b c d:Addr) (s:CS) (kvs:Kvs):Prop where
 obj:G a=some (chG b c d s.pl)
 mks:G b=some (.lst (mksT s.ms))
 ct:G c=some (.lst (jJm s.ct))
 ld:G d=some (.dct kvs)
 ok:LdOk s kvs
 ne:b≠c
theorem ChAt.sub{G G':Gp}{a b c d:Addr}{s:CS}{kvs:Kvs}(h:ChAt G a b c d s kvs)(k:∀x o,G x=some o->x=a\/x=b\/x=c\/x=d->G' x=some o):ChAt G' a b c d s kvs:=
 ⟨k _ _ h.obj (.inl rfl),k _ _ h.mks (.inr (.inl rfl)),k _ _ h.ct (.inr (.inr (.inl rfl))),k _ _ h.ld (.inr (.inr (.inr rfl))),h.ok,h.ne⟩
def beg(r k:Nat):CS:=⟨[r],[k],λ_=>none,0,0⟩
noncomputable def jVh:Sp3:=λxs G Q=>∃(a:Addr)(r k:Nat),xs=[.ref a,.str (mkS r),.int (k:Nat)]/\G a=some (.ins "Chart" [])/\∀b c d G',ChAt G' a b c d (beg r k) []->G b=none->G c=none->G d=none->(∀x,x≠a->x≠b->x≠c->x≠d->G' x=G x)->Q .non G'
def kXb:List Str:=["self","mark","doors"]
noncomputable def jVn:TS3:=
 (tSeq (kQq "Chart" "marks" o0 (tLst C1))
 (tSeq (kQq "Chart" "counts" o0 (tLst C2))
 (tSeq (kQq "Chart" "leads" o0 jZ5)
 (kQq "Chart" "place" o0 tI0))))
theorem kJb:RdOk jVh jVn kXb:=by
 intro xs G Q h_;apply xe3 h_;clear h_;intro a r k;refine ae2 ?_;intro h0 kk;show jVn _ [some (.ref a),some (.str (mkS r)),some (.int (k:Nat))] G
 exists jVn,kQq,jZ5
 have hs:=sz;refine⟨by omega,λb hb=> ?_⟩
 have hab:=jJf h0 hb;refine⟨_,setN (fs:=[]) (fs':=[("marks",.ref b)]) (by rw[jJl hab];exact h0) (by decide) rfl,by omega,λc hc=> ?_⟩
 obtain⟨hca,hc1⟩:=jJ4 hc;obtain⟨hcb,hc0⟩:=jJ4 hc1;refine⟨_,setN (fs:=[("marks",.ref b)]) (fs':=[("marks",.ref b),("counts",.ref c)]) (by rw[jJl hca.symm,jJg]) (show 1<1000 by decide) (by simp only[jYl,q1,lJt]),.inl λd hd=> ?_⟩
 obtain⟨hda,hd1⟩:=jJ4 hd;obtain⟨hdc,hd2⟩:=jJ4 hd1;obtain⟨_,hd3⟩:=jJ4 hd2;obtain⟨hdb,hd0⟩:=jJ4 hd3;refine⟨_,setN (fs:=[("marks",.ref b),("counts",.ref c)]) (fs':=[("marks",.ref b),("counts",.ref c),("leads",.ref d)]) (by rw[jJl hda.symm,jJg]) (show 2<1000 by decide) (by simp only[jYl,q2,q4,lJt]),_,setN jJg (fs':=chF b c d 0) (show 3<1000 by decide) (by simp only[jYl,q3,q5,q6,lJt,chF];rfl),?_⟩
 have hba:=hab.symm;refine kk b c d _ ⟨jJg,?_,?_,?_,⟨λx hx=>absurd hx lJ2,λi r' d' hi=>rfl,by simp⟩,hcb.symm⟩ hb hc0 hd0 λx h1 h2 h3 h4=> ?_
 .rw[jJl hba,jJl hba,jJl hdb.symm,jJl hba,jJl hcb.symm,jJl hba,jJg];rfl
 .rw[jJl hca,jJl hca,jJl hdc.symm,jJl hca,jJg];rfl
 .rw[jJl hda,jJl hda,jJg]
 .rw[jJl h1,jJl h1,jJl h4,jJl h1,jJl h3,jJl h1,jJl h2]
theorem kX4:∀ms:List Nat,(mksT ms).all jVd=true
 | []=>rfl
 | _::l=>kX4 l
theorem qYc{r r':Nat}(h:r<24)(h':r'<24):eqT (.str (mkS r)) (.str (mkS r'))=decide (r=r'):=by
 rw[show eqT (.str (mkS r)) (.str (mkS r'))=(mkS r == mkS r') from rfl]
 by_cases e:r=r'
 .subst e;simp
 .rw[lJo e];exact beq_eq_false_iff_ne.mpr λz=>e (uUc h h' z)
theorem qQ3{G:Gp}{b:Addr}{ms:List Nat}{r:Nat}(h:G b=some (.lst (mksT ms)))(hm:∀x,x∈ms->x<24)(hr:r<24):inR G (.str (mkS r)) (.ref b)=some (decide (r∈ms)):=by
 have e:inR G (.str (mkS r)) (.ref b)=some (inT (.str (mkS r)) (mksT ms)):=by
  simp only[inR,seqT,h,asL,kX4,jVd,and_self,lJ7]
 rw[e]
 congr 1
 clear e h
 induction ms with
 | nil=>rfl
 | cons x ms ih=>
  have h1:=ih λy hy=>hm y (lJ8 _ hy)
  have h3:=qYc (hm x (lKg ..)) hr;unfold inT mksT at h1 ⊢;rw[lJv,lK3,h1];rw[h3]
  by_cases q:x=r
  .simp[q]
  .have q':¬ r=x:=λz=>q z.symm
   simp[q,q']
theorem kYb{G:Gp}{b:Addr}{ms:List Nat}{r:Nat}{Q:VK3}(h:G b=some (.lst (mksT ms)))(nd:ms.Nodup)(lt:∀x,x∈ms->x<24)(hm:r∈ms)(kk:Q (.int (ms.idxOf r:Nat)) G):kJk (.ref b) [.str (mkS r)] G Q:=by
 have hr:=lt r hm;refine⟨b,_,_,.str (mkS r),ms.idxOf r,rfl,rfl,h,rfl,kX4 _,by rw[mksT,lJr,jQi hm];rfl,by rw[qYc hr hr];simp,λm t hl ht=> ?_,kk⟩
 rw[mksT,lJr] at ht;obtain⟨x,hx,rfl⟩:=lVj.mp ht;rw[qYc (lt x (lJm hx)) hr];refine lJo λz=> ?_
 subst z;have:=jX8 nd hx;omega
def jQs:Sp3:=λxs G Q=>∃(a b c d:Addr)(s:CS)(kvs:Kvs)(r:Nat),xs=[.ref a,.str (mkS r)]/\ChAt G a b c d s kvs/\s.Ok/\r<24/\Q (.int (s.ms.idxOf r:Nat)) G
def jY6:List Str:=["self","mark"]
noncomputable def jQu:TS3:=
 (tRet (tIf (jJv (tOp kU5 o1 (tFld "Chart" "marks" o0))) (tBM "list" kJk (tFld "Chart" "marks" o0) C1) (tCB rLen (jJc (tFld "Chart" "marks" o0) tNil))))
theorem jXq:RdOk jQs jQu jY6:=by
 intro xs G Q h_;apply xe7 h_;clear h_;intro a b c d s kvs r;refine ae4 ?_;intro h o hr kk;show jQu _ [some (.ref a),some (.str (mkS r))] G
 exists jQu,tFld,fMk h.obj,kU5,qQ3 h.mks o.lt hr,jKx h.mks
 split
 .rename_i hm
  exact kYb h.mks o.nd o.lt hm kk
 .rename_i hm
  refine⟨_,jJo h.mks,?_⟩;rw[mksT,lJf,<-kK9 hm];exact kk
def jKt:Sp3:=λxs G Q=>∃(a b c d:Addr)(s:CS)(kvs:Kvs),xs=[.ref a]/\ChAt G a b c d s kvs/\s.Ok/\Q (.str (mkS s.at_)) G
def kXc:List Str:=["self"]
noncomputable def jVo:TS3:=
 (tRet (tOp rIxF (tFld "Chart" "marks" o0) (tFld "Chart" "place" o0)))
theorem uUb{ms:List Nat}{i r:Nat}(h:ms[i]? =some r):L2.atI (mksT ms) (i:Int)=some (.str (mkS r)):=by
 rw[atN,mksT,lJr,h];rfl
theorem kJc:RdOk jKt jVo kXc:=by
 intro xs G Q h_;apply xe6 h_;clear h_;intro a b c d s kvs;refine ae3 ?_;intro h o kk;show jVo _ [some (.ref a)] G
 exists jVo,tFld,fMk h.obj,fPl h.obj,jKp h.mks,uUb o.at_
 exact kk
theorem lsT{G:Gp}{p:Addr}{xs:List T}(h:G p=some (.lst xs)):jU2 G (.ref p)=some xs:=by simp only[jU2,h];rfl
def rmT(s:CS):T:= .tup (zipT (mksT s.ms) (jJm s.ct))
def jUw:Sp3:=λxs G Q=>∃(a b c d:Addr)(s:CS)(kvs:Kvs),xs=[.ref a]/\ChAt G a b c d s kvs/\s.Ok/\Q (rmT s) G
def kUw:List Str:=["self"]
noncomputable def jU0:TS3:=
 (tRet (qZq (jJc (tFld "Chart" "marks" o0) (jJc (tFld "Chart" "counts" o0) tNil))))
theorem jZg:RdOk jUw jU0 kUw:=by
 intro xs G Q h_;apply xe6 h_;clear h_;intro a b c d s kvs;refine ae3 ?_;intro h o kk;show jU0 _ [some (.ref a)] G
 exists jU0,qZq,tFld,fMk h.obj,fCt h.obj
 refine⟨_,lsT h.mks,_,lsT h.ct,?_,kk⟩;rw[mksT,jJm,lJf,lJf,o.len]
theorem kX9{ct:List Nat}{i k:Nat}(h:ct[i]? =some k):L2.atI (jJm ct) (i:Int)=some (.int (k:Nat)):=by
 rw[atN,jJm,lJr,h];rfl
theorem uU0{G:Gp}{d:Addr}{kvs:Kvs}{p:Nat×Nat}(h:G d=some (.dct kvs)):dAt G (.ref d) (encE p)=some (valT kvs (keyE p)):=by
 simp only[dAt,h,encE];rfl
noncomputable def dueX(s:CS)(d c r k:Nat):Option Str:=
 if (s.ct[s.ms.idxOf r]?).getD k≠k then some "Clash:doors" else if (s.E (s.at_,d)).getD (r,c)≠(r,c) then some "Clash:end" else if (s.E (r,c)).getD (s.at_,d)≠(s.at_,d) then some "Clash:taken" else none
theorem qQ6{ms:List Nat}{x r:Nat}(hx:x∈ms)(e:ms.idxOf x=ms.idxOf r):x=r:=by
 have h1:=jQi hx
 by_cases hr:r∈ms
 .have h2:=jQi hr;rw[<-e,h1] at h2;exact lJn h2
 .have:=kUd hx;rw[e,kK9 hr] at this;omega
noncomputable def jKr:SpX:=λxs G Q R=>∃(a b c d:Addr)(s:CS)(kvs:Kvs)(dr cm r k:Nat),xs=[.ref a,encE (s.pl,dr),encE (s.ms.idxOf r,cm),.int (k:Nat)]/\ChAt G a b c d s kvs/\s.Ok/\(dueX s dr cm r k=none->Q .non G)/\(∀cn,dueX s dr cm r k=some cn->R cn G)
theorem jVs:qVb jKr:=by
 rintro xs G Q Q' R R' hq hr ⟨a,b,c,d,s,kvs,dr,cm,r,k,e,h1,h2,h3,h4⟩;exact⟨a,b,c,d,s,kvs,dr,cm,r,k,e,h1,h2,λz=>hq _ _ (h3 z),λcn z=>hr _ _ (h4 cn z)⟩
def jXr:List Str:=["self","start","end","doors"]
noncomputable def jQc(R:XK3):TS3:=
 (tSeq (tIfS (tAnd (jJv (tOp rLt (tOp rIxF o2 tI0) (tCB rLen (jJc (tFld "Chart" "counts" o0) tNil)))) (jJv (tOp rNeA (tOp rIxF (tFld "Chart" "counts" o0) (tOp rIxF o2 tI0)) o3))) (jYv R "Clash:doors") jJ5)
 (tSeq (tIfS (jJv (tOp rNeA (tBM "dict" qV5 (tFld "Chart" "leads" o0) (jJc o1 C2)) o2)) (jYv R "Clash:end") jJ5)
 (tIfS (jJv (tOp rNeA (tBM "dict" qV5 (tFld "Chart" "leads" o0) (jJc o2 C1)) o1)) (jYv R "Clash:taken") jJ5)))
theorem jVk:∀xs G Q R,jKr xs G Q R->jQc R {nx:=λ_ G'=>Q .non G',rt:=Q} (jUq jXr xs) G:=by
 intro xs G Q R h_;apply xe10 h_;clear h_;intro a b c d s kvs dr cm r k;refine ae4 ?_;intro h o kk kR;show jQc _ _ [some (.ref a),some (encE (s.pl,dr)),some (encE (s.ms.idxOf r,cm)),some (.int (k:Nat))] G
 have e0:ixR G (encE (s.ms.idxOf r,cm)) (.int 0)=some (.int (s.ms.idxOf r:Nat)):=rfl;have hp:s.ms.idxOf s.at_=s.pl:=jX8 o.nd o.at_
 have g1:eqG G ((valT kvs (keyE (s.pl,dr))).getD (encE (s.ms.idxOf r,cm))) (encE (s.ms.idxOf r,cm))=some (decide ((s.E (s.at_,dr)).getD (r,cm)=(r,cm))):=by
  rw[h.ok.val _ _ _ o.at_];cases e:s.E (s.at_,dr) with
  | none=>simp only[lXr,lXl];rw[jY5];simp
  | some q=>
   simp only[lQv,lX2];rw[jY5];congr 1;rw[decide_eq_decide];exact⟨λz=>Prod.ext (qQ6 (o.e1 _ _ e) (lX3 z).1) (lX3 z).2,λz=>by rw[z]⟩
 have g2:eqG G ((valT kvs (keyE (s.ms.idxOf r,cm))).getD (encE (s.pl,dr))) (encE (s.pl,dr))=some (decide ((s.E (r,cm)).getD (s.at_,dr)=(s.at_,dr))):=by
  have hv:valT kvs (keyE (s.ms.idxOf r,cm))=(s.E (r,cm)).map λq=>encE (s.ms.idxOf q.1,q.2):=by
   by_cases hm:r∈s.ms
   .exact h.ok.val _ _ _ (jQi hm)
   .rw[h.ok.off (by rw[kK9 hm];exact lJg _)]
    cases e:s.E (r,cm) with
    | none=>rfl
    | some q=>exact absurd (o.e0 _ _ e) hm
  rw[hv];cases e:s.E (r,cm) with
  | none=>simp only[lXr,lXl];rw[jY5];simp
  | some q=>
   simp only[lQv,lX2];rw[jY5];congr 1;rw[decide_eq_decide];exact⟨λz=>Prod.ext (qQ6 (o.e1 _ _ e) ((lX3 z).1.trans hp.symm)) (lX3 z).2,λz=>by rw[z,hp]⟩
 have td:tyT G "dict" (.ref d):=by simp[tyT,h.ld]
 have last:(s.ct[s.ms.idxOf r]?).getD k=k->∃x,encE (s.pl,dr)=T.tup x/\∃x_1,dAt G (T.ref d) (T.tup x)=some x_1/\∃b,eqG G (x_1.getD (encE (s.ms.idxOf r,cm))) (encE (s.ms.idxOf r,cm))=some b/\if b=false then R "Clash:end" G else tyT G "dict" (T.ref d)/\∃x,encE (s.ms.idxOf r,cm)=T.tup x/\∃x_2,dAt G (T.ref d) (T.tup x)=some x_2/\∃b,eqG G (x_2.getD (encE (s.pl,dr))) (encE (s.pl,dr))=some b/\if b=false then R "Clash:taken" G else Q T.non G:=by
  intro hd;refine⟨_,rfl,_,uU0 (p:=(s.pl,dr)) h.ld,_,g1,?_⟩
  by_cases z1:(s.E (s.at_,dr)).getD (r,cm)=(r,cm)
  .rw[lKa z1,lJb (by simp)]
   refine⟨td,_,rfl,_,uU0 (p:=(s.ms.idxOf r,cm)) h.ld,_,g2,?_⟩
   by_cases z2:(s.E (r,cm)).getD (s.at_,dr)=(s.at_,dr)
   .rw[lKa z2,lJb (by simp)]
    exact kk (by unfold dueX;rw[lJb (lQg hd),lJb (lQg z1),lJb (lQg z2)])
   .rw[lJo z2,lJc rfl];exact kR _ (by unfold dueX;rw[lJb (lQg hd),lJb (lQg z1),lJc z2])
  .rw[lJo z1,lJc rfl];exact kR _ (by unfold dueX;rw[lJb (lQg hd),lJc z1])
 exists jQc,tFld,jYv,fCt h.obj,fLd h.obj,qV5,rNeA,e0,jJo h.ct,jKp h.ct
 split
 .rename_i hl
  have hl':s.ms.idxOf r<s.ct.length:=by rw[jJm,lJf] at hl;exact_mod_cast hl
  have hg:=lJh hl';have hgd:(s.ct[s.ms.idxOf r]?).getD k=s.ct[s.ms.idxOf r]:=by rw[hg];rfl
  refine⟨_,kX9 hg,_,jXj,?_⟩
  by_cases z:s.ct[s.ms.idxOf r]=k
  .rw[lKa z,lJb (by simp)]
   exact⟨td,last (hgd.trans z)⟩
  .rw[lJo z,lJc rfl];exact kR _ (by unfold dueX;rw[lJc (by rw[hgd];exact z)])
 .rename_i hl
  have hl':¬ s.ms.idxOf r<s.ct.length:=by rw[jJm,lJf] at hl;exact_mod_cast hl
  exact⟨td,last (by rw[lJz (lQ4.mp hl')];rfl)⟩
noncomputable def kQr:Sp3:=λxs G Q=>∃(p:Addr)(kvs:Kvs)(a b:Nat×Nat),xs=[.ref p,encE a,encE b]/\G p=some (.dct kvs)/\(∀x,x∈kvs->kV9 x.1)/\kvs.length<=1000/\∀q G',G q=none->G' q=some (.dct (kv1 kvs a b))->Sub G G'->Q (.ref q) G'
def uU6:List Str:=["leads","start","end","further"]
noncomputable def kXu:TS3:=
 (tSeq (tAsg (tCB qQb C0) M3)
 (tSeq (tAsg o2 (gSub o3 o1 jV0))
 (tSeq (tAsg o1 (gSub o3 o2 jV0))
 (tRet o3))))
theorem qKy:RdOk kQr kXu uU6:=by
 intro xs G Q h_;apply xe4 h_;clear h_;intro p kvs a b;refine ae4 ?_;intro hp hk hl kk;show kXu _ [some (.ref p),some (encE a),some (encE b),none] G
 have hs:=sz
 exists kXu,qQb
 refine⟨kvs,hp,hk,λq hq=> ?_⟩
 have h1:=kY5 kvs (keyE a) (encE b)
 exists tSeq
 refine⟨_,kQw jJg (ks:=keyE a) rfl (by omega),?_⟩
 exists tSeq
 refine⟨_,kQw jJg (ks:=keyE b) rfl (by omega),?_⟩
 exists tSeq
 exact kk q _ hq jJg (.new hq)
def Kp(S:List Addr)(G G':Gp):Prop:=∀x o,x∉S->G x=some o->G' x=some o
theorem Kp.refl(S:List Addr)(G:Gp):Kp S G G:=λ_ _ _ h=>h
theorem Kp.trans{S:List Addr}{G G1 G2:Gp}(h:Kp S G G1)(h':Kp S G1 G2):Kp S G G2:=λx o hx e=>h' x o hx (h x o hx e)
theorem Kp.sub{S:List Addr}{G G':Gp}(h:Sub G G'):Kp S G G':=λx o _ e=>h x o e
theorem Kp.gup{S:List Addr}{a:Addr}{G:Gp}{o:GO}(h:a∈S):Kp S G (gup G a o):=λx u hx e=>by rw[jJl (by rintro rfl;exact hx h)];exact e
theorem ChAt.ab{G:Gp}{a b c d:Addr}{s:CS}{kvs:Kvs}(h:ChAt G a b c d s kvs):a≠b:=by rintro rfl;have:=h.obj.symm.trans h.mks;cases this
theorem ChAt.ac{G:Gp}{a b c d:Addr}{s:CS}{kvs:Kvs}(h:ChAt G a b c d s kvs):a≠c:=by rintro rfl;have:=h.obj.symm.trans h.ct;cases this
theorem ChAt.ad{G:Gp}{a b c d:Addr}{s:CS}{kvs:Kvs}(h:ChAt G a b c d s kvs):a≠d:=by rintro rfl;have:=h.obj.symm.trans h.ld;cases this
theorem ChAt.bd{G:Gp}{a b c d:Addr}{s:CS}{kvs:Kvs}(h:ChAt G a b c d s kvs):b≠d:=by rintro rfl;have:=h.mks.symm.trans h.ld;cases this
theorem ChAt.cd{G:Gp}{a b c d:Addr}{s:CS}{kvs:Kvs}(h:ChAt G a b c d s kvs):c≠d:=by rintro rfl;have:=h.ct.symm.trans h.ld;cases this
noncomputable def jKa:SpX:=λxs G Q R=>∃(a b c d:Addr)(s:CS)(kvs:Kvs)(dr cm r k k0:Nat),xs=[.ref a,.int (dr:Nat),.int (cm:Nat),.str (mkS r),.int (k:Nat)]/\ChAt G a b c d s kvs/\s.Ok/\r<24/\k<12/\cm<k/\s.ct[s.pl]? =some k0/\dr<k0/\
 (∀cn,dueX s dr cm r k=some cn->R cn G)/\(dueX s dr cm r k=none->∀d' kvs' G',G d'=none->ChAt G' a b c d' (goC s dr cm r k) kvs'->Kp [a,b,c] G G'->Q .non G')
theorem kJq:qVb jKa:=by
 rintro xs G Q Q' R R' hq hr ⟨a,b,c,d,s,kvs,dr,cm,r,k,k0,e,h1,h2,h3,h4,h5,h6,h7,h8,h9⟩;exact⟨a,b,c,d,s,kvs,dr,cm,r,k,k0,e,h1,h2,h3,h4,h5,h6,h7,λcn z=>hr _ _ (h8 cn z),λz d' kvs' G' y1 y2 y3=>hq _ _ (h9 z d' kvs' G' y1 y2 y3)⟩
def kXa:List Str:=["self","door","came","mark","doors","start","end"]
noncomputable def jVm(R:XK3):TS3:=
 (tSeq (tIfS (tOr (tNot (jJv (kK2 rLeF rLt tI0 o1 (tOp rIxF (tFld "Chart" "counts" o0) (tFld "Chart" "place" o0))))) (tNot (jJv (kK2 rLeF rLt tI0 o2 o4)))) jY9 jJ5)
 (tSeq (tAsg (tTup (jJc (tFld "Chart" "place" o0) C1)) M5)
 (tSeq (tAsg (tTup (jJc (jJ1 "Chart" "number_of" jQs o0 C3) C2)) M6)
 (tSeq (jQm (jV4 "Chart" "refuse_clash" jKr R o0 (jJc o5 (jJc o6 C4))))
 (tSeq (tIfS (jJv (tOp jUd o3 (tFld "Chart" "marks" o0))) (tSeq (jQm (tBM "list" jQo (tFld "Chart" "marks" o0) C3))
 (jQm (tBM "list" jQo (tFld "Chart" "counts" o0) C4))) jJ5)
 (tSeq (kQq "Chart" "leads" o0 (jJq kQr (jJc (tFld "Chart" "leads" o0) (jJc o5 C6))))
 (kQq "Chart" "place" o0 (tOp rIxF o6 tI0))))))))
theorem kJa:∀xs G Q R,jKa xs G Q R->jVm R {nx:=λ_ G'=>Q .non G',rt:=Q} (jUq kXa xs) G:=by
 intro xs G Q R h_;apply xe11 h_;clear h_;intro a b c d s kvs dr cm r k k0;refine ae9 ?_;intro h o hr hk hcm hk0 hdr kR kk0;show jVm _ _ [some (.ref a),some (.int (dr:Nat)),some (.int (cm:Nat)),some (.str (mkS r)),some (.int (k:Nat)),none,none] G
 have hs:=sz;have hlm:s.ms.length<=24:=jKe o.nd o.lt
 exists jVm,tFld,kK2,rLeF,jYv,kQq,jJ1,jV4,fCt h.obj,fPl h.obj,jKp h.ct,kX9 hk0
 rw[lJc (by omega),lJb (by simp;omega),lJc (by omega),lJb (by simp;omega)]
 refine⟨by omega,jQw h.obj,a,b,c,d,s,kvs,r,rfl,h,o,hr,by omega,jQw h.obj,a,b,c,d,s,kvs,dr,cm,r,k,rfl,h,o,λhd=> ?_,kR⟩
 have kk:=kk0 hd;refine⟨_,fMk h.obj,_,qQ3 h.mks o.lt hr,_,rfl,?_⟩
 have tail:∀G1:Gp,G1 a=some (chG b c d s.pl)->G1 b=some (.lst (mksT (addR s.ms r)))->G1 c=some (.lst (jJm (addC s.ms s.ct r k)))->G1 d=some (.dct kvs)->Kp [a,b,c] G G1->∃t,fldR "Chart" "leads" G1 (.ref a)=some t/\
   kQr [t,T.tup [T.int (s.pl:Nat),T.int (dr:Nat)],T.tup [T.int (s.ms.idxOf r:Nat),T.int (cm:Nat)]] G1 λy G2=>∃G3,jZ8 "Chart" "leads" G2 (T.ref a) y=some G3/\∃G4,jZ8 "Chart" "place" G3 (T.ref a) (.int (s.ms.idxOf r:Nat))=some G4/\Q T.non G4:=by
  intro G1 g1 g2 g3 g4 kp;have hl:=h.ok.small o;have hlm:s.ms.length<=24:=jKe o.nd o.lt;refine⟨_,fLd g1,d,kvs,(s.pl,dr),(s.ms.idxOf r,cm),rfl,g4,λx hx=> ?_,by omega,λq G2 hq e2 s2=>⟨_,pLd (s2 _ _ g1),_,pPl jJg,?_⟩⟩
  .obtain⟨i,e,h1,h2,h3⟩:=h.ok.ks x hx;exact⟨i,e,by omega,h2,h3⟩
  have qa:q≠a:=by rintro rfl;rw[g1] at hq;cases hq
  have qn:G q=none:=by
   cases e:G q with
   | none=>rfl
   | some u=>
    by_cases z:q∈[a,b,c]
    .simp only[lJk,lJ2,lKs] at z
     rcases z with z | z | z
     .rw[z,g1] at hq;cases hq
     .rw[z,g2] at hq;cases hq
     .rw[z,g3] at hq;cases hq
    .rw[kp _ _ z e] at hq;cases hq
  refine kk q (kv1 kvs (s.pl,dr) (s.ms.idxOf r,cm)) _ qn ⟨?_,?_,?_,?_,h.ok.go o hr (by have:=o.dg k0 (lJm hk0);omega) (by omega),h.ne⟩ ?_
  .rw[jJg];rfl
  .rw[jYa,jJl h.ab.symm];exact s2 _ _ g2
  .rw[jYa,jJl h.ac.symm];exact s2 _ _ g3
  .rw[jYa,jJl qa];exact e2
  .rw[jYa];exact (kp.trans (.sub s2)).trans (.gup (by simp))
 by_cases hm:r∈s.ms
 .rw[lJb (by simp[hm])]
  exact tail G h.obj (by unfold addR;rw[lJc hm];exact h.mks) (by unfold addC;rw[lJc hm];exact h.ct) h.ld (.refl _ _)
 .rw[lJc (by simp[hm])]
  have e1:mksT s.ms++[T.str (mkS r)]=mksT (addR s.ms r):=by unfold addR;rw[lJb hm];simp[mksT]
  have e2:jJm s.ct++[T.int (k:Nat)]=jJm (addC s.ms s.ct r k):=by unfold addC;rw[lJb hm];simp[jJm]
  have ga:gup G b (GO.lst (mksT (addR s.ms r))) a=some (chG b c d s.pl):=by rw[jJl h.ab];exact h.obj
  have gc:gup G b (GO.lst (mksT (addR s.ms r))) c=some (.lst (jJm s.ct)):=by rw[jJl h.ne.symm];exact h.ct
  refine⟨_,fMk h.obj,of_eq_true (jKx h.mks),_,rfl,_,h.mks,by rw[mksT,lJf];omega,?_⟩
  rw[e1];refine⟨_,fCt ga,of_eq_true (jKx gc),_,rfl,_,gc,by rw[jJm,lJf,o.len];omega,?_⟩
  rw[e2];refine tail _ ?_ ?_ jJg ?_ ((Kp.gup (by simp)).trans (.gup (by simp)))
  .rw[jJl h.ac];exact ga
  .rw[jJl h.ne,jJg]
  .rw[jJl h.cd.symm,jJl h.bd.symm];exact h.ld
def endT(s:CS):Option (Nat×Nat)->T
 | none=> .non
 | some e=>encE (s.ms.idxOf e.1,e.2)
def rmI(s:CS)(i:Nat):Nat:=s.ms.getD i 0
def ctI(s:CS)(i:Nat):Nat:=s.ct.getD i 0
def rowT(s:CS)(i:Nat):List T:=(List.range (ctI s i)).map λd=>endT s (s.E (rmI s i,d))
def skL(s:CS)(n:Nat):List T:=(List.range n).map λi=> .tup (rowT s i)
def skT(s:CS):T:= .tup (skL s s.ms.length)
theorem kKl{s:CS}{i:Nat}(h:i<s.ms.length):s.ms[i]? =some (rmI s i):=by
 unfold rmI
 (rw[lK0,lJh h];rfl)
theorem qYk{s:CS}(o:s.Ok){i:Nat}(h:i<s.ms.length):s.ct[i]? =some (ctI s i):=by
 unfold ctI;rw[lK0,lJh (by rw[o.len];exact h)];rfl
theorem qUv{s:CS}(o:s.Ok){i:Nat}(h:i<s.ms.length):ctI s i<12:=o.dg _ (lJm (qYk o h))
theorem LdOk.get{s:CS}{kvs:Kvs}(h:LdOk s kvs){i d:Nat}(hi:i<s.ms.length):(valT kvs (keyE (i,d))).getD .non=endT s (s.E (rmI s i,d)):=by
 rw[h.val i _ d (kKl hi)];cases s.E (rmI s i,d)<;>rfl
theorem jVi{n i e:Nat}(h:(List.range n)[i]? =some e):i<n/\i=e:=by
 obtain⟨q1,q2⟩:=lJe.mp h;simp at q1 q2;exact⟨q1,q2⟩
noncomputable def jXy:Sp3:=λxs G Q=>∃(c d:Addr)(s:CS)(kvs:Kvs),xs=[.ref c,.ref d]/\G c=some (.lst (jJm s.ct))/\G d=some (.dct kvs)/\s.Ok/\LdOk s kvs/\∀G',Sub G G'->Q (skT s) G'
def qJ2:List Str:=["counts","leads","rooms","room","doors","door"]
noncomputable def jX2:TS3:=
 (tSeq (tAsg (tLst tNil) M2)
 (tSeq (tFor (kJ0 C0) (gTup 2 (jKd M3 (jKd M4 gNil))) (jQm (tBM "list" jQo o2 (jJc (tCB jK3 (jJc (jQx [fF,fF,fF,fF,fF,tT] (jK9 C4) M5 jXx (tBM "dict" qZ7 o1 (jJc (tTup (jJc o3 C5)) tNil))) tNil)) tNil))))
 (tRet (tCB jK3 C2))))
theorem kQ1:RdOk jXy jX2 qJ2:=by
 intro xs G Q h_;apply xe4 h_;clear h_;intro c d s kvs;refine ae5 ?_;intro hc hd o ld kk;show jX2 _ [some (.ref c),some (.ref d),none,none,none,none] G
 have hs:=sz;have hlm:s.ms.length<=24:=jKe o.nd o.lt
 exists jX2,jJ7,kJ0
 refine⟨lJ0 _,λq hq=> ?_⟩
 have hcq:=jJf hc hq;have hdq:=jJf hd hq;refine⟨_,lsT (by rw[jJl hcq];exact hc),?_⟩
 let J1:Nat->St3->Gp->Prop:=λi τ G'=>∃(v3 v4:Option T),τ=[some (.ref c),some (.ref d),some (.ref q),v3,v4,none]/\G' q=some (.lst (skL s i))/\Sub G G'
 refine⟨J1,?_,?_,?_,?_⟩
 .exact xi2 _ _ rfl ⟨jJg,.new hq⟩
 .intro i τ G1 _ h_;apply xe2 h_;clear h_;intro v3 v4;refine ae2 ?_;intro h2 h3;exact lsT (h3 _ _ hc)
 .intro i y τ G1 hy h_;apply xe2 h_;clear h_;intro v3 v4;refine ae2 ?_;intro h2 h3;obtain⟨z,hz,rfl⟩:=kUa hy;obtain⟨k,hk,rfl⟩:=jK4 hz;have hi:i<s.ms.length:=by have:=(lJe.mp hk).1;rw[o.len] at this;exact this
  have ek:k=ctI s i:=by rw[qYk o hi] at hk;exact (lJn hk).symm
  subst ek;have hk1:=qUv o hi
  exists jK9,jKx h2
  refine⟨by omega,by omega,?_⟩
  rw[show ((ctI s i:Nat):Int).toNat=ctI s i by omega,jQt]
  refine jQ2 (λd=>endT s (s.E (rmI s i,d))) (by simp;omega) (λ_ _=>trivial) ?_ ?_
  .intro j x hx G2 K K0 s2 hK;obtain⟨hj,rfl⟩:=jVi hx;have hd2:=s2 _ _ (h3 _ _ hd)
   exists qZ7
   refine⟨by simp[tyT,hd2],by omega,valT kvs (keyE (i,j)),?_,?_⟩
   .simp only[dAt,hd2];rfl
   .rw[ld.get hi];exact hK G2 (.refl _)
  .intro D G2 hD hD2 s2;refine⟨_,jJo hD2,?_⟩;have hq2:=s2 _ _ h2
   exists hq2
   refine⟨by simp[skL];omega,xi2 _ _ rfl ⟨?_,(h3.trans s2).over hq⟩⟩
   rw[jJg];simp[skL,lKn,rowT]
 .intro τ G1 h_;apply xe2 h_;clear h_;intro v3 v4;refine ae2 ?_;intro h2 h3
  exists tSeq
  have e:(numT (jJm s.ct)).length=s.ms.length:=by simp[numT,jJm,o.len]
  rw[e] at h2;exact⟨_,jJo h2,kk G1 h3⟩
def jJu:Sp3:=λxs G Q=>∃(a b c d:Addr)(s:CS)(kvs:Kvs),xs=[.ref a]/\ChAt G a b c d s kvs/\s.Ok/\∀G',Sub G G'->Q (skT s) G'
def kK0:List Str:=["self"]
noncomputable def jUl:TS3:=
 (tRet (jJq jXy (jJc (tFld "Chart" "counts" o0) (jJc (tFld "Chart" "leads" o0) tNil))))
theorem jYy:RdOk jJu jUl kK0:=by
 intro xs G Q h_;apply xe6 h_;clear h_;intro a b c d s kvs;refine ae3 ?_;intro h o kk;show jUl _ [some (.ref a)] G
 exists jUl,tFld,fCt h.obj,fLd h.obj
 exact⟨c,d,s,kvs,rfl,h.ct,h.ld,o,h.ok,kk⟩
def opR(s:CS)(i:Nat):List T:=(List.range (ctI s i)).filterMap λd=>if (s.E (rmI s i,d)).isNone=true then some (encE (i,d)) else none
def opL(s:CS)(n:Nat):List T:=(List.range n).flatMap (opR s)
theorem kY8(s:CS)(n:Nat):opL s (n+1)=opL s n++opR s n:=by simp[opL,lKn]
theorem kXy{s:CS}(o:s.Ok):∀{n:Nat},n<=s.ms.length->(opL s n).length<=12*n
 | 0,_=>by simp[opL]
 | n+1,h=>by
  rw[kY8,lJ9];have h1:=kXy o (n:=n) (by omega)
  have h2:(opR s n).length<=ctI s n:=by have:=lXs (λd=>if (s.E (rmI s n,d)).isNone=true then some (encE (n,d)) else none) (List.range (ctI s n));rw[lQc] at this;exact this
  have h3:=qUv o (i:=n) (by omega)
  omega
theorem qKw{s:CS}{i d:Nat}(h:d<ctI s i):(rowT s i)[d]? =some (endT s (s.E (rmI s i,d))):=by
 unfold rowT;rw[lJr,lQd h];rfl
noncomputable def jK2:Sp3:=λxs G Q=>∃(a b c d:Addr)(s:CS)(kvs:Kvs),xs=[.ref a]/\ChAt G a b c d s kvs/\s.Ok/\∀p G',G p=none->G' p=some (.lst (opL s s.ms.length))->Sub G G'->Q (.ref p) G'
def jYu:List Str:=["self","told","room","ends","door","end"]
noncomputable def jQn:TS3:=
 (tSeq (tAsg (tLst tNil) M1)
 (tSeq (tFor (iEnT (jJc (jJ1 "Chart" "sketch" jJu o0 tNil) tNil)) (gTup 2 (jKd M2 (jKd M3 gNil))) (jQm (tBM "list" qQa o1 (jJc (jQx [fF,fF,fF,fF,tT,tT] (iEnT C3) (gTup 2 (jKd M4 (jKd M5 gNil))) (jJv (tOp rIsN o5 (tC .non))) (tTup (jJc o2 C4))) tNil))))
 (tRet o1)))
theorem jV9:RdOk jK2 jQn jYu:=by
 intro xs G Q h_;apply xe6 h_;clear h_;intro a b c d s kvs;refine ae3 ?_;intro h o kk;show jQn _ [some (.ref a),none,none,none,none,none] G
 have hs:=sz;have hlm:s.ms.length<=24:=jKe o.nd o.lt
 exists jQn,jJ7,iEnT,jJ1
 refine⟨lJ0 _,λq hq=> ?_⟩
 have h':ChAt (gup G q (.lst [])) a b c d s kvs:=h.sub λx u e _=>by rw[jJl (jJf e hq)];exact e
 refine⟨jQw h'.obj,a,b,c,d,s,kvs,rfl,h',o,λG0 s0=> ?_⟩
 have hq0:G0 q=some (.lst []):=s0 _ _ jJg;have sg:Sub G G0:=(Sub.new hq).trans s0;refine⟨_,rfl,?_⟩
 let J1:Nat->St3->Gp->Prop:=λi τ G'=>∃(v2 v3:Option T),τ=[some (.ref a),some (.ref q),v2,v3,none,none]/\G' q=some (.lst (opL s i))/\Sub G G'
 refine⟨J1,?_,?_,?_,?_⟩
 .exact xi2 _ _ rfl ⟨hq0,sg⟩
 .intros;trivial
 .intro i y τ G1 hy h_;apply xe2 h_;clear h_;intro v2 v3;refine ae2 ?_;intro h2 h3;obtain⟨z,hz,rfl⟩:=kUa hy;obtain⟨i',hi',rfl⟩:=jK4 hz;obtain⟨hi,rfl⟩:=jVi hi';have hk1:=qUv o hi
  exists iEnT,jKx h2
  rw[show numT (rowT s i)=(List.range (ctI s i)).map (λj:Nat=>T.tup [.int j,(rowT s i).getD j .non]) by rw[numT,rowT,lJf,lQc]]
  refine jUt (λd=>if (s.E (rmI s i,d)).isNone=true then some (encE (i,d)) else none) (by simp;omega) (λ_ _=>trivial) ?_ ?_
  .intro j x hx G2 K K0 s2 hK hK0;obtain⟨hj,rfl⟩:=jVi hx;rw[lK0,qKw hj,lX2];cases e:s.E (rmI s i,j) with
   | none=>exists endT;exact⟨by omega,hK _ _ (by rw[e];rfl) (.refl _)⟩
   | some q=>exists endT,encE;exact hK0 (by rw[e];rfl) _ (.refl _)
  .intro D G2 hD hD2 s2;have hl:=kXy o (n:=i) (by omega)
   have hr:(opR s i).length<=ctI s i:=by have:=lXs (λd=>if (s.E (rmI s i,d)).isNone=true then some (encE (i,d)) else none) (List.range (ctI s i));rw[lQc] at this;exact this
   refine⟨q,D,_,_,rfl,rfl,s2 _ _ h2,hD2,by show (opL s i).length+(opR s i).length<=_;omega,xi2 _ _ rfl ⟨?_,(h3.trans s2).over hq⟩⟩
   rw[jJg,kY8];rfl
 .intro τ G1 h_;apply xe2 h_;clear h_;intro v2 v3;refine ae2 ?_;intro h2 h3
  exists tSeq
  have e:(numT (skL s s.ms.length)).length=s.ms.length:=by simp[numT,skL]
  rw[e] at h2;exact kk q G1 hq h2 h3
def wcE(s:CS)(i d:Nat):Nat×Nat:=match s.E (rmI s i,d) with
 | none=>(i,d)
 | some e=>(s.ms.idxOf e.1,e.2)
def wcR(s:CS)(i:Nat):List (Nat×Nat):=(List.range (ctI s i)).map (wcE s i)
def Wc(s:CS):Web:=(List.range s.ms.length).map (wcR s)
theorem jQh(s:CS):(Wc s).length=s.ms.length:=by simp[Wc]
theorem qZl{s:CS}{i:Nat}(h:i<s.ms.length):(Wc s)[i]? =some (wcR s i):=by
 unfold Wc;rw[lJr,lQd h];rfl
theorem qY2{s:CS}{i d:Nat}(h:d<ctI s i):(wcR s i)[d]? =some (wcE s i d):=by
 unfold wcR;rw[lJr,lQd h];rfl
theorem qZk{s:CS}{i d:Nat}(hi:i<s.ms.length)(hd:d<ctI s i):en (Wc s) i d=some (wcE s i d):=by
 unfold en;rw[qZl hi];exact qY2 hd
theorem jZ1{s:CS}{i d:Nat}{e:Nat×Nat}(h:en (Wc s) i d=some e):i<s.ms.length/\d<ctI s i/\e=wcE s i d:=by
 have hi:i<s.ms.length:=by rw[<-jQh s];exact jUf h
 unfold en at h;rw[qZl hi] at h;have hd:d<ctI s i:=by have:=(lJe.mp (show (wcR s i)[d]? =some e from h)).1;simpa[wcR] using this
 have h':(wcR s i)[d]? =some e:=h;rw[qY2 hd] at h';exact⟨hi,hd,(lJn h').symm⟩
theorem jV3{s:CS}(o:s.Ok):Fine (Wc s):=by
 have hlm:s.ms.length<=24:=jKe o.nd o.lt;refine⟨by rw[jQh];omega,λr es h=> ?_,λr i x j h=> ?_⟩
 .have hi:r<s.ms.length:=by rw[<-jQh s];exact (lJe.mp h).1
  rw[qZl hi] at h;cases h;have:=qUv o hi;simp[wcR];omega
 .obtain⟨hi,hd,e⟩:=jZ1 h;rw[jQh];unfold wcE at e;split at e
  .cases e;exact hi
  .rename_i q hq
   cases e;exact kUd (o.e1 _ _ hq)
def kQs:Sp3:=λxs G Q=>∃s:CS,xs=[skT s]/\s.Ok/\∀G',Sub G G'->Q (encW (Wc s)) G'
def uU7:List Str:=["sketch","rooms","room","ends","door","end"]
noncomputable def kXv:TS3:=
 (tSeq (tAsg (tLst tNil) M1)
 (tSeq (tFor (iEnT C0) (gTup 2 (jKd M2 (jKd M3 gNil))) (jQm (tBM "list" jQo o1 (jJc (tCB jK3 (jJc (jQx [fF,fF,fF,fF,tT,tT] (iEnT C3) (gTup 2 (jKd M4 (jKd M5 gNil))) jXx (tIf (jJv (tOp rIsN o5 (tC .non))) (tTup (jJc o2 C4)) o5)) tNil)) tNil))))
 (tRet (tCB jK3 C1))))
theorem qKz:RdOk kQs kXv uU7:=by
 intro xs G Q h_;apply xe1 h_;clear h_;intro s;refine ae2 ?_;intro o kk;show kXv _ [some (skT s),none,none,none,none,none] G
 have hs:=sz;have hlm:s.ms.length<=24:=jKe o.nd o.lt
 exists kXv,jJ7,iEnT
 refine⟨lJ0 _,λq hq=>⟨_,rfl,?_⟩⟩
 let J1:Nat->St3->Gp->Prop:=λi τ G'=>∃(v2 v3:Option T),τ=[some (skT s),some (.ref q),v2,v3,none,none]/\G' q=some (.lst ((List.range i).map λi=>encR (wcR s i)))/\Sub G G'
 refine⟨J1,?_,?_,?_,?_⟩
 .exact xi2 _ _ rfl ⟨jJg,.new hq⟩
 .intros;trivial
 .intro i y τ G1 hy h_;apply xe2 h_;clear h_;intro v2 v3;refine ae2 ?_;intro h2 h3;obtain⟨z,hz,rfl⟩:=kUa hy;obtain⟨i',hi',rfl⟩:=jK4 hz;obtain⟨hi,rfl⟩:=jVi hi';have hk1:=qUv o hi
  exists iEnT,jKx h2
  rw[show numT (rowT s i)=(List.range (ctI s i)).map (λj:Nat=>T.tup [.int j,(rowT s i).getD j .non]) by rw[numT,rowT,lJf,lQc]]
  refine jQ2 (λd=>encE (wcE s i d)) (by simp;omega) (λ_ _=>trivial) ?_ ?_
  .intro j x hx G2 K K0 s2 hK;obtain⟨hj,rfl⟩:=jVi hx;rw[lK0,qKw hj,lX2];have hK':=hK G2 (.refl _);cases e:s.E (rmI s i,j) with
   | none=>
    have ew:wcE s i j=(i,j):=by unfold wcE;rw[e]
    rw[ew] at hK'
    exists endT;exact⟨by omega,hK'⟩
   | some q=>
    have ew:wcE s i j=(s.ms.idxOf q.1,q.2):=by unfold wcE;rw[e]
    rw[ew] at hK'
    exists endT,encE;exact hK'
  .intro D G2 hD hD2 s2;refine⟨_,jJo hD2,?_⟩;have hq2:=s2 _ _ h2
   exists hq2
   refine⟨by simp;omega,xi2 _ _ rfl ⟨?_,(h3.trans s2).over hq⟩⟩
   rw[jJg];simp[lKn,encR,wcR]
 .intro τ G1 h_;apply xe2 h_;clear h_;intro v2 v3;refine ae2 ?_;intro h2 h3
  exists tSeq
  have e:(numT (skL s s.ms.length)).length=s.ms.length:=by simp[numT,skL]
  rw[e] at h2;refine⟨_,jJo h2,?_⟩;have e2:T.tup ((List.range s.ms.length).map λi=>encR (wcR s i))=encW (Wc s):=by simp[encW,Wc]
  rw[e2];exact kk G1 h3
def jKs:Sp3:=λxs G Q=>∃(a b c d:Addr)(s:CS)(kvs:Kvs)(r:Nat),xs=[.ref a,.str (mkS r)]/\ChAt G a b c d s kvs/\s.Ok/\r∈s.ms/\Q (.int (s.ms.idxOf r:Nat)) G
def jXs:List Str:=["self","mark"]
noncomputable def jQd:TS3:=
 (tSeq (tIfS (jJv (tOp jUd o1 (tFld "Chart" "marks" o0))) jY9 jJ5)
 (tRet (tBM "list" kJk (tFld "Chart" "marks" o0) C1)))
theorem jVl:RdOk jKs jQd jXs:=by
 intro xs G Q h_;apply xe7 h_;clear h_;intro a b c d s kvs r;refine ae4 ?_;intro h o hm kk;show jQd _ [some (.ref a),some (.str (mkS r))] G
 exists jQd,tFld,jY9,fMk h.obj,jUd,qQ3 h.mks o.lt (o.lt r hm),jKx h.mks
 rw[lJb (by simp[hm])]
 exact kYb h.mks o.nd o.lt hm kk
def optW:Option (List Nat)->T
 | none=> .non
 | some v=> .tup (jJm v)
def uXg(s:CS)(x:Nat):Option (List Nat)->Prop
 | none=>x∉bfs (Wc s) s.pl
 | some w=>x∈bfs (Wc s) s.pl/\Least (Wc s) s.pl x w/\w.length<s.ms.length
noncomputable def jKk:Sp3:=λxs G Q=>∃(a b c d:Addr)(s:CS)(kvs:Kvs)(r:Nat),xs=[.ref a,.str (mkS r)]/\ChAt G a b c d s kvs/\s.Ok/\r∈s.ms/\∀w G',uXg s (s.ms.idxOf r) w->Sub G G'->Q (optW w) G'
def kKz:List Str:=["self","mark","room","web"]
noncomputable def jUk:TS3:=
 (tSeq (tAsg (jJ1 "Chart" "known_number" jKs o0 C1) M2)
 (tSeq (tAsg (jJq kQs (jJc (jJ1 "Chart" "sketch" jJu o0 tNil) tNil)) M3)
 (tRet (tIf (jJv (tOp kU5 o2 (jJq jK5 (jJc o3 (jJc (tFld "Chart" "place" o0) tNil))))) (jJq jYf (jJc o3 (jJc (tFld "Chart" "place" o0) C2))) (tC .non)))))
theorem jYx:RdOk jKk jUk kKz:=by
 intro xs G Q h_;apply xe7 h_;clear h_;intro a b c d s kvs r;refine ae4 ?_;intro h o hm kk;show jUk _ [some (.ref a),some (.str (mkS r)),none,none] G
 have hlm:s.ms.length<=24:=jKe o.nd o.lt
 exists jUk,jJ1,tFld
 refine⟨jQw h.obj,a,b,c,d,s,kvs,r,rfl,h,o,hm,jQw h.obj,a,b,c,d,s,kvs,rfl,h,o,λG1 s1=>⟨s,rfl,o,λG2 s2=> ?_⟩⟩
 have h2:ChAt G2 a b c d s kvs:=h.sub λx u z _=>s2 _ _ (s1 x u z)
 refine⟨_,fPl h2.obj,Wc s,s.pl,rfl,jV3 o,by rw[jQh];exact o.pl,λdd G3 P hd h3 hF hT s3=> ?_⟩
 have hk:(jU3 P).map Prod.fst=(bfs (Wc s) s.pl).map keyN:=by rw[kZf,hF]
 have s4:=(s1.trans s2).trans s3;have h4:ChAt G3 a b c d s kvs:=h.sub λx u z _=>s4 x u z
 exists kU5,qQ5 h3 hk
 by_cases hx:s.ms.idxOf r∈bfs (Wc s) s.pl
 .rw[lJc hx];exact⟨_,fPl h4.obj,Wc s,s.pl,s.ms.idxOf r,rfl,jV3 o,by rw[jQh];exact hlm,by rw[jQh];exact o.pl,hx,λG5 w hw hl s5=>kk (some w) G5 ⟨hx,hw,by rw[jQh] at hl;exact hl⟩ (s4.trans s5)⟩
 .rw[lJb hx];exact kk none G3 hx s4
theorem kYc{p:Nat->Bool}{g:Nat->T}:∀{n:Nat},(List.range n).filterMap (λd=>if p d=true then some (g d) else none)=[]->∀d,d<n->p d=false
 | 0,_,d,hd=>absurd hd (lK4 _)
 | n+1,h,d,hd=>by
  rw[lKn,lK9,List.append_eq_nil_iff] at h
  rcases lKd d n with z | z
  .exact kYc h.1 d z
  .have:d=n:=by omega
   subst this;have:=h.2;cases q:p d with
   | false=>rfl
   | true=>simp[q] at this
theorem qUe{p:Nat->Bool}{g:Nat->T}{t:T}{ts:List T}:∀{n:Nat},(List.range n).filterMap (λd=>if p d=true then some (g d) else none)=t::ts->∃d,d<n/\p d=true/\t=g d/\∀d',d'<d->p d'=false
 | 0,h=>by simp at h
 | n+1,h=>by
  rw[lKn,lK9] at h;cases e:(List.range n).filterMap (λd=>if p d=true then some (g d) else none) with
  | cons u us=>
   rw[e,List.cons_append] at h;cases h;obtain⟨d,h1,h2,h3,h4⟩:=qUe e;exact⟨d,by omega,h2,h3,h4⟩
  | nil=>
   rw[e,List.nil_append] at h;have q:=kYc e;cases hp:p n with
   | false=>simp[hp] at h
   | true=>
    simp[hp] at h;exact⟨n,by omega,hp,h.1.symm,q⟩
def opD(s:CS)(x:Nat):List T:=(List.range (ctI s x)).filterMap λd=>if (s.E (rmI s x,d)).isNone=true then some (T.int (d:Nat)) else none
def opRp(s:CS)(i:Nat):List (Nat×Nat):=(List.range (ctI s i)).filterMap λd=>if (s.E (rmI s i,d)).isNone=true then some (i,d) else none
def opP(s:CS)(n:Nat):List (Nat×Nat):=(List.range n).flatMap (opRp s)
theorem uQz(s:CS)(i:Nat):opR s i=(opRp s i).map encE:=by
 unfold opR opRp;rw[List.map_filterMap]
 congr 1
 funext d
 split<;>rfl
theorem kY9(s:CS)(n:Nat):opL s n=(opP s n).map encE:=by
 unfold opL opP;rw[List.map_flatMap]
 congr 1
 funext i
 exact uQz s i
theorem qQi(s:CS)(x:Nat):∀n:Nat,(opP s n).filterMap (λe=>if e.1=x then some (T.int (e.2:Nat)) else none)=if x<n then opD s x else []
 | 0=>by simp[opP]
 | n+1=>by
  have e:opP s (n+1)=opP s n++opRp s n:=by simp[opP,lKn]
  rw[e,lK9,qQi s x n]
  have e2:(opRp s n).filterMap (λe=>if e.1=x then some (T.int (e.2:Nat)) else none)=if n=x then opD s x else []:=by
   unfold opRp;rw[List.filterMap_filterMap]
   by_cases q:n=x
   .subst q;rw[lJc rfl];unfold opD
    congr 1
    funext d
    split<;>simp
   .rw[lJb q];refine List.filterMap_eq_nil_iff.mpr λd _=> ?_
    split<;>simp[q]
  rw[e2]
  by_cases q:n=x
  .subst q;simp
  .rw[lJb q,lKx]
   by_cases z:x<n
   .rw[lJc z,lJc (by omega)]
   .rw[lJb z,lJb (by omega)]
def clo(s:CS)(x:Nat):Prop:=∀d,d<ctI s x->(s.E (rmI s x,d)).isSome=true
noncomputable def jYd(s:CS):Option (List Nat)->Prop
 | none=>∀x,x∈bfs (Wc s) s.pl->clo s x
 | some v=>∃(k x:Nat)(w:List Nat)(d:Nat),v=w++[d]/\(bfs (Wc s) s.pl)[k]? =some x/\(∀(j y:Nat),j<k->(bfs (Wc s) s.pl)[j]? =some y->clo s y)/\Least (Wc s) s.pl x w/\w.length<s.ms.length/\d<ctI s x/\s.E (rmI s x,d)=none/\∀d',d'<d->(s.E (rmI s x,d')).isSome=true
theorem qYq{G:Gp}{u:List Nat}{j:Nat}{Q:VK3}(h:u.length+1<=sizeLine)(q:Q (.tup (jJm (u++[j]))) G):qZ8 (.tup (jJm u)) (.tup [.int (j:Nat)]) G Q:=by
 cases u with
 | nil=>exact .inr ⟨[.int j],rfl,rfl,q⟩
 | cons c u=>
  refine .inl ⟨.val (.tup (jJm (c::u++[j]))),?_,q⟩;have:u.length+1+1<=sizeLine:=h;simp[L3.addR,jJm,this]
def jKy:Sp3:=λxs G Q=>∃(a b c d:Addr)(s:CS)(kvs:Kvs),xs=[.ref a]/\ChAt G a b c d s kvs/\s.Ok/\∀w G',jYd s w->Sub G G'->Q (optW w) G'
def jZn:List Str:=["self","web","ends","room","doors","end"]
noncomputable def jQz:TS3:=
 (tSeq (tAsg (jJq kQs (jJc (jJ1 "Chart" "sketch" jJu o0 tNil) tNil)) M1)
 (tSeq (tAsg (jJ1 "Chart" "open_doors" jK2 o0 tNil) M2)
 (tSeq (tFor (iSeq (tCB qK7 (jJc (jJq jK5 (jJc o1 (jJc (tFld "Chart" "place" o0) tNil))) tNil))) M3 (tSeq (tAsg (jQx [fF,fF,fF,fF,fF,tT] (iSeq o2) M5 (jJv (tOp rEqA (tOp rIxF o5 tI0) o3)) (tOp rIxF o5 tI1)) M4)
 (tIfS (tTru rTru o4) (tRet (tOp qZ8 (jJq jYf (jJc o1 (jJc (tFld "Chart" "place" o0) C3))) (tTup (jJc (tOp rIxF o4 tI0) tNil)))) jJ5)))
 (tRet (tC .non)))))
theorem jX1:RdOk jKy jQz jZn:=by
 intro xs G Q h_;apply xe6 h_;clear h_;intro a b c d s kvs;refine ae3 ?_;intro h o kk;show jQz _ [some (.ref a),none,none,none,none,none] G
 have hs:=sz;have hlm:s.ms.length<=24:=jKe o.nd o.lt
 exists jQz,jJ1,tFld,jJ7,iSeq
 refine⟨jQw h.obj,a,b,c,d,s,kvs,rfl,h,o,λG1 s1=>⟨s,rfl,o,λG2 s2=> ?_⟩⟩
 have h2:ChAt G2 a b c d s kvs:=h.sub λx u z _=>s2 _ _ (s1 x u z)
 refine⟨jQw h2.obj,a,b,c,d,s,kvs,rfl,h2,o,λp G3 hp hp3 s3=> ?_⟩
 have h3:ChAt G3 a b c d s kvs:=h2.sub λx u z _=>s3 x u z
 refine⟨_,fPl h3.obj,Wc s,s.pl,rfl,jV3 o,by rw[jQh];exact o.pl,λdd G4 P hd h4 hF hT s4=> ?_⟩
 dsimp only
 exists qK7
 have hk:(jU3 P).map (λkv=>kT kv.1)=jJm (bfs (Wc s) s.pl):=by
  rw[<-hF];unfold jU3 jJm;rw[lKf,lKf];rfl
 have s5:=((s1.trans s2).trans s3).trans s4;refine⟨_,h4,λq hq=> ?_⟩
 rw[hk]
 let J1:Nat->St3->Gp->Prop:=λi τ G'=>∃(v3 v4:Option T),τ=[some (.ref a),some (encW (Wc s)),some (.ref p),v3,v4,none]/\(∀(j y:Nat),j<i->(bfs (Wc s) s.pl)[j]? =some y->clo s y)/\Sub (gup G4 q (.lst (jJm (bfs (Wc s) s.pl)))) G'
 refine⟨J1,?_,?_,?_,?_⟩
 .exact xi2 _ _ rfl ⟨λj y hj=>absurd hj (lK4 _),.refl _⟩
 .intro i τ G5 _ h_;apply xe2 h_;clear h_;intro v3 v4;refine ae2 ?_;intro hc s6;exact jJo (s6 _ _ jJg)
 .intro i y τ G5 hy h_;apply xe2 h_;clear h_;intro v3 v4;refine ae2 ?_;intro hc s6;obtain⟨x,hx,rfl⟩:=jK4 hy;have hxl:x<s.ms.length:=by rw[<-jQh s];exact (kQh (jV3 o) (by rw[jQh];exact o.pl)).2.lt x (lJm hx)
  have s7:Sub G4 G5:=(Sub.new hq).trans s6;have hp5:G5 p=some (.lst (opL s s.ms.length)):=s7 _ _ (s4 _ _ hp3)
  exists iSeq,rEqA
  refine⟨_,jJo hp5,?_⟩;rw[kY9];have hlo:=kXy o (lJg _);rw[kY9,lJf] at hlo;refine jUt (λe=>if e.1=x then some (T.int (e.2:Nat)) else none) (by omega) (λG' s'=>jJo (s' _ _ (by rw[hp5,kY9]))) ?_ ?_
  .intro j e he G6 K K0 s8 hK hK0
   exists rEqA,encE,jXj
   by_cases q:e.1=x
   .rw[lJc q];exact hK _ _ (by rw[lJc q]) (.refl _)
   .rw[lJb q];exact hK0 (by rw[lJb q]) _ (.refl _)
  .intro D G6 hD hD6 s8;rw[qQi,lJc hxl] at hD6;have s9:=(s5.trans s7).trans s8;have h6:ChAt G6 a b c d s kvs:=h.sub λx u z _=>s9 x u z
   cases e:opD s x with
   | nil=>
    rw[e] at hD6
    exists hD6,List.isEmpty_nil
    refine xi2 _ _ rfl ⟨λj y hj hy'=> ?_,s6.trans s8⟩
    rcases lKd j i with z | z
    .exact hc j y z hy'
    .have:j=i:=by omega
     subst this;rw[hx] at hy';cases hy';intro dd hdd;have:=kYc e dd hdd;cases z:s.E (rmI s x,dd) with
     | none=>rw[z] at this;cases this
     | some _=>rfl
   | cons t ts=>
    rw[e] at hD6;obtain⟨dd,g1,g2,rfl,g4⟩:=qUe e
    have hat0:L2.atI (T.int (dd:Nat)::ts) 0=some (.int (dd:Nat)):=by
     show L2.atI (T.int (dd:Nat)::ts) ((0:Nat):Int)=_
     rw[atN];rfl
    exists hD6,tFld,fPl h6.obj,List.isEmpty_cons
    refine⟨Wc s,s.pl,x,rfl,jV3 o,by rw[jQh];exact hlm,by rw[jQh];exact o.pl,lJm hx,λG7 w hw hl s10=> ?_⟩
    rw[jQh] at hl;have hD7:=s10 _ _ hD6
    exists jKp hD7,hat0
    refine⟨by omega,qYq (by omega) ?_⟩
    have nn:s.E (rmI s x,dd)=none:=by
     cases z:s.E (rmI s x,dd) with
     | none=>rfl
     | some _=>rw[z] at g2;cases g2
    refine kk (some (w++[dd])) G7 ⟨i,x,w,dd,rfl,hx,hc,hw,hl,g1,nn,λd' hd'=> ?_⟩ (s9.trans s10)
    have:=g4 d' hd';cases z:s.E (rmI s x,d') with
    | none=>rw[z] at this;cases this
    | some _=>rfl
 .intro τ G5 h_;apply xe2 h_;clear h_;intro v3 v4;refine ae2 ?_;intro hc s6
  exists tSeq
  refine kk none G5 (λx hx=> ?_) ((s5.trans (.new hq)).trans s6)
  (obtain⟨j,hj⟩:=lJ4 hx)
  have:=(lJe.mp hj).1;exact hc j x (by simpa[jJm] using this) hj
def jK7:Sp3:=λxs G Q=>∃(a b c d:Addr)(s:CS)(kvs:Kvs),xs=[.ref a]/\ChAt G a b c d s kvs/\s.Ok/\opL s s.ms.length=[]/\∀G',Sub G G'->Q (skT s) G'
def kUv:List Str:=["self"]
noncomputable def jUz:TS3:=
 (tSeq (tIfS (tTru rTru (jJ1 "Chart" "open_doors" jK2 o0 tNil)) jY9 jJ5)
 (tRet (jJ1 "Chart" "sketch" jJu o0 tNil)))
theorem jZf:RdOk jK7 jUz kUv:=by
 intro xs G Q h_;apply xe6 h_;clear h_;intro a b c d s kvs;refine ae4 ?_;intro h o hop kk;show jUz _ [some (.ref a)] G
 exists jUz,jJ1,jY9
 refine⟨jQw h.obj,a,b,c,d,s,kvs,rfl,h,o,λp G1 hp hp1 s1=> ?_⟩
 rw[hop] at hp1;have h1:ChAt G1 a b c d s kvs:=h.sub λx u z _=>s1 x u z
 exists hp1,List.isEmpty_nil
 exact⟨jQw h1.obj,a,b,c,d,s,kvs,rfl,h1,o,λG2 s2=>kk G2 (s1.trans s2)⟩
theorem uJ2{G:Gp}{d:Addr}{kvs:Kvs}{ys:List T}{k:L2.TKey}(h:G d=some (.dct kvs))(hk:jVy ys=some k):inR G (.tup ys) (.ref d)=some (valT kvs k).isSome:=by
 simp only[inR,seqT,h,asL,dAt,hk]
noncomputable def jJ3:Sp3:=λxs G Q=>∃(a b c d:Addr)(s:CS)(kvs:Kvs)(r n:Nat),xs=[.ref a,.str (mkS r),.int (n:Nat)]/\ChAt G a b c d s kvs/\s.Ok/\r∈s.ms/\n<ctI s (s.ms.idxOf r)/\∀kvs' G',ChAt G' a b c d (fgC s (r,n)) kvs'->Kp [d] G G'->Q .non G'
def kK1:List Str:=["self","mark","door","start","end"]
noncomputable def jUm:TS3:=
 (tSeq (tAsg (tTup (jJc (jJ1 "Chart" "known_number" jKs o0 C1) C2)) M3)
 (tSeq (tIfS (tNot (jJv (kK2 rLeF rLt tI0 o2 (tOp rIxF (tFld "Chart" "counts" o0) (tOp rIxF o3 tI0))))) jY9 jJ5)
 (tIfS (jJv (tOp kU5 o3 (tFld "Chart" "leads" o0))) (tSeq (tAsg (tBM "dict" qV4 (tFld "Chart" "leads" o0) C3) M4)
 (jQm (tBM "dict" qV4 (tFld "Chart" "leads" o0) (jJc o4 (jJc (tC .non) tNil))))) jJ5)))
theorem jYz:RdOk jJ3 jUm kK1:=by
 intro xs G Q h_;apply xe8 h_;clear h_;intro a b c d s kvs r n;refine ae5 ?_;intro h o hm hdl kk;show jUm _ [some (.ref a),some (.str (mkS r)),some (.int (n:Nat)),none,none] G
 have hs:=sz;have hix:=kUd hm;have hct:=qYk o hix
 exists jUm,jJ1,tFld
 refine⟨jQw h.obj,a,b,c,d,s,kvs,r,rfl,h,o,hm,?_⟩
 exists tFld,kK2,rLeF,jY9,fCt h.obj,fLd h.obj,jKp h.ct,kX9 hct
 refine⟨by omega,?_⟩
 rw[lJc (by omega),lJb (by simp;omega)]
 have rm:=jQi hm;have kv:=h.ok.val _ r n rm;have k1:jVy [T.int (s.ms.idxOf r:Nat),T.int (n:Nat)]=some (keyE (s.ms.idxOf r,n)):=rfl
 have at1:∀kvs':Kvs,LdOk (fgC s (r,n)) kvs'->ChAt (gup G d (.dct kvs')) a b c d (fgC s (r,n)) kvs':=λkvs' z=>
  ⟨by rw[jJl h.ad];exact h.obj,by rw[jJl h.bd];exact h.mks,by rw[jJl h.cd];exact h.ct,jJg,z,h.ne⟩
 have td:∀kvs':Kvs,tyT (gup G d (.dct kvs')) "dict" (.ref d):=λkvs'=> .inr ⟨rfl,.inr ⟨_,jJg⟩⟩
 exists kU5,uJ2 h.ld k1,qV4,tFld,fLd h.obj
 cases he:s.E (r,n) with
 | none=>
  rw[kv,he]
  exists Option.map_none,Option.isSome_none
  refine kk kvs G ?_ (.refl _ _);have:fgC s (r,n)=s:=by unfold fgC fgE;rw[he]
  rw[this];exact h
 | some q=>
  rw[he] at kv;rw[kv]
  exists Option.map_some,Option.isSome_some
  refine⟨.inr ⟨rfl,.inr ⟨_,h.ld⟩⟩,kvs,h.ld,_,_,k1,.inl ⟨rfl,_,kv,_,fLd (by rw[jJl h.ad];exact h.obj),td _,d,rfl,_,jJg,_,keyE (s.ms.idxOf q.1,q.2),rfl,.inr ⟨rfl,λv hv=> ?_,λhn=> ?_⟩⟩⟩
  .rw[jYa];exact kk _ _ (at1 _ (h.ok.fg o rm he (λx hx=>kUk (kUk hx)) (kYg (kYg h.ok.nd)) (λk=>by rw[jZ2,jZ2]))) (.gup (by simp))
  .refine kk _ _ (at1 _ (h.ok.fg o rm he (λx hx=>kUk hx) (kYg h.ok.nd) (λk=> ?_))) (.gup (by simp))
   by_cases z:k=keyE (s.ms.idxOf q.1,q.2)
   .rw[lJc z,z];exact hn
   .rw[lJb z,jZ2]
structure Gx (W:Web) (s:CS) (r:Nat):Prop where
 ok:s.Ok
 at_:s.at_=r
 ws:∀(i x:Nat),s.ms[i]? =some x->∃es,W[x]? =some es/\s.ct[i]? =some es.length
 wX:∀p q,s.E p=some q->p≠q->en W p.1 p.2=some q
 sy:∀p q,s.E p=some q->s.E q=some p
structure Grown (W:Web) (s:CS) (r:Nat):Prop extends Gx W s r where
 wE:∀p q,s.E p=some q->en W p.1 p.2=some q
section
variable {W:Web}{s:CS}{r:Nat}
theorem Gx.pl(g:Gx W s r):s.ms[s.pl]? =some r:=by rw[g.ok.at_,g.at_]
theorem Gx.mem(g:Gx W s r):r∈s.ms:=lJm g.pl
theorem Gx.row(g:Gx W s r){i:Nat}(hi:i<s.ms.length):∃es,W[rmI s i]? =some es/\ctI s i=es.length:=by
 obtain⟨es,h1,h2⟩:=g.ws i _ (kKl hi);rw[qYk g.ok hi] at h2;exact⟨es,h1,lJn h2⟩
theorem Gx.rpl(g:Gx W s r):rmI s s.pl=r:=by
 have:=kKl g.ok.pl;rw[g.pl] at this;exact (lJn this).symm
theorem Gx.len(g:Gx W s r):s.ms.length<=24:=jKe g.ok.nd g.ok.lt
theorem Gx.dr(g:Gx W s r){i d:Nat}{e:Nat×Nat}(hi:i<s.ms.length)(he:en W (rmI s i) d=some e):d<ctI s i:=by
 obtain⟨es,h1,h2⟩:=g.row hi;obtain⟨es',z1,z2⟩:=jKv he;rw[h1] at z1;cases z1;rw[h2];exact (lJe.mp z2).1
theorem Grown.sym(g:Grown W s r):Sym (Wc s):=by
 intro i d j k h;obtain⟨hi,hd,e⟩:=jZ1 h;unfold wcE at e;split at e
 .cases e;exact h
 .rename_i q hq
  cases e;have hm:=g.ok.e1 _ _ hq;have hj:=kUd hm;have hb:=g.sy _ _ hq
  have er:rmI s (s.ms.idxOf q.1)=q.1:=by
   have:=kKl hj;rw[jQi hm] at this;exact (lJn this).symm
  have hd':q.2<ctI s (s.ms.idxOf q.1):=g.dr hj (by rw[er];exact g.wE _ _ hb)
  rw[qZk hj hd']
  congr 1
  unfold wcE;rw[er,hb];show (s.ms.idxOf (rmI s i),d)=(i,d)
  rw[jX8 g.ok.nd (kKl hi)]
theorem Grown.order(g:Grown W s r)(cn:Conn (Wc s)):Order (Wc s) s.pl (bfs (Wc s) s.pl):=qU4 (jV3 g.ok) g.sym cn (by rw[jQh];exact g.ok.pl)
theorem Grown.all(g:Grown W s r)(cn:Conn (Wc s)){x:Nat}(h:x<s.ms.length):x∈bfs (Wc s) s.pl:=(g.order cn).all x (by rw[jQh];exact h)
end
section
variable {W:Web}{s:CS}{r dr r' cc:Nat}{es':List (Nat×Nat)}
theorem kZj(w:AnyWeb W)(g:Grown W s r)(h:en W r dr=some (r',cc))(k:Nat){p q:Nat×Nat}(e:s.E p=some q):(goC s dr cc r' k).E p=some q:=by
 show tieE s.E (s.at_,dr) (r',cc) p=some q
 unfold tieE;have hw:=g.wE _ _ e
 by_cases q1:p=(r',cc)
 .rw[lJc q1];subst q1;have:=w.sym _ _ _ _ h;rw[g.at_];exact (this.symm.trans hw)
 .rw[lJb q1]
  by_cases q2:p=(s.at_,dr)
  .rw[lJc q2];subst q2;rw[g.at_] at hw;exact h.symm.trans hw
  .rw[lJb q2];exact e
theorem uJ4(g:Gx W s r)(k:Nat){i:Nat}(hi:i<s.ms.length):rmI (goC s dr cc r' k) i=rmI s i:=by
 have h1:(goC s dr cc r' k).ms[i]? =some (rmI s i):=jZ0 (kKl hi);unfold rmI at h1 ⊢;rw[lK0,h1,lK0];simp
theorem uUm(g:Gx W s r)(k:Nat){i:Nat}(hi:i<s.ms.length):ctI (goC s dr cc r' k) i=ctI s i:=by
 show (addC s.ms s.ct r' k).getD i 0=s.ct.getD i 0
 unfold addC;split
 .rfl
 .rw[lK0,lKe (by rw[g.ok.len];exact hi),lK0]
theorem uJ5(s:CS)(dr cc r' k:Nat):s.ms.length<=(goC s dr cc r' k).ms.length:=by
 show s.ms.length<=(addR s.ms r').length
 unfold addR;split<;>simp
theorem uUl(w:AnyWeb W)(g:Grown W s r)(he:en W r dr=some (r',cc))(k:Nat){p q:Nat×Nat}(z:(goC s dr cc r' k).E p=some q):en W p.1 p.2=some q:=by
 have z:tieE s.E (s.at_,dr) (r',cc) p=some q:=z;unfold tieE at z;split at z
 .rename_i e1;cases z;subst e1;rw[g.at_];exact w.sym _ _ _ _ he
 .split at z
  .rename_i e1;cases z;subst e1;rw[g.at_];exact he
  .exact g.wE p q z
theorem Grown.go(w:AnyWeb W)(g:Grown W s r)(he:en W r dr=some (r',cc))(hes:W[r']? =some es'):Grown W (goC s dr cc r' es'.length) r' where
 ok:=g.ok.go (by have:=(lJe.mp hes).1;have:=w.len;omega) (by have:=w.deg _ _ hes;omega)
 at_:=uUn g.ok
 ws:=λi x hx=>by
  have hx:(addR s.ms r')[i]? =some x:=hx;show ∃es,W[x]? =some es/\(addC s.ms s.ct r' es'.length)[i]? =some es.length
  by_cases hm:r'∈s.ms
  .unfold addR at hx;rw[lJc hm] at hx;unfold addC;rw[lJc hm];exact g.ws i x hx
  .unfold addR at hx;rw[lJb hm] at hx;unfold addC;rw[lJb hm];have hl:=g.ok.len
   rcases lKd i s.ms.length with z | z
   .rw[lKe z] at hx;rw[lKe (by omega)]
    exact g.ws i x hx
   .rw[lQk z] at hx;rw[lQk (by omega),hl]
    have:i-s.ms.length=0:=by have:=(lJe.mp hx).1;simp at this;omega
    rw[this] at hx ⊢;simp at hx;subst hx;exact⟨es',hes,rfl⟩
 wX:=λp q z _=>uUl w g he es'.length z
 wE:=λp q z=>uUl w g he es'.length z
 sy:=λp q z=>by
  have z:tieE s.E (s.at_,dr) (r',cc) p=some q:=z;show tieE s.E (s.at_,dr) (r',cc) q=some p
  unfold tieE at z;split at z
  .rename_i e1
   cases z;unfold tieE
   by_cases q2:(s.at_,dr)=(r',cc)
   .rw[lJc q2,q2,e1]
   .rw[lJb q2,lJc rfl,e1]
  .split at z
   .rename_i e1
    cases z;unfold tieE;rw[lJc rfl,e1]
   .exact kZj w g he es'.length (g.sy _ _ z)
theorem uKh(w:AnyWeb W)(g:Grown W s r)(cn:Conn (Wc s))(he:en W r dr=some (r',cc)):Conn (Wc (goC s dr cc r' es'.length)):=by
 intro S h0 cl
 have old:∀i,i<s.ms.length->S i:=by
  have:=cn S h0 (λi d j k hS h=> ?_)
  .intro i hi;exact this i (by rw[jQh];exact hi)
  obtain⟨hi,hd,e⟩:=jZ1 h;unfold wcE at e;split at e
  .cases e;exact hS
  .rename_i q hq
   cases e;refine cl i d _ q.2 hS ?_;rw[qZk (lJw hi (uJ5 ..)) (by rw[uUm g.toGx _ hi];exact hd)]
   congr 1
   unfold wcE;rw[uJ4 g.toGx _ hi,kZj w g he _ hq];show (((addR s.ms r').idxOf q.1,q.2):Nat×Nat)=(s.ms.idxOf q.1,q.2)
   rw[kUr g.ok.nd (g.ok.e1 _ _ hq)]
 intro i hi;rw[jQh] at hi
 rcases lKd i s.ms.length with z | z
 .exact old i z
 .have hm:r'∉s.ms:=λq=>by
   have:(addR s.ms r').length=s.ms.length:=by unfold addR;rw[lJc q]
   have hi:i<(addR s.ms r').length:=hi;omega
  have hl:(addR s.ms r').length=s.ms.length+1:=by unfold addR;rw[lJb hm];simp
  have hi:i<(addR s.ms r').length:=hi;have ei:i=s.ms.length:=by omega
  have hE:(goC s dr cc r' es'.length).E (r,dr)=some (r',cc):=by
   show tieE s.E (s.at_,dr) (r',cc) (r,dr)=some (r',cc)
   unfold tieE;rw[lJb (λq=>hm (by have:=lJx Prod.fst q;simp at this;rw[<-this];exact g.mem)),lJc (by rw[g.at_])]
  refine cl s.pl dr i cc (old _ g.ok.pl) ?_;rw[qZk (lJw g.ok.pl (uJ5 ..)) (by rw[uUm g.toGx _ g.ok.pl];exact g.dr g.ok.pl (by rw[g.rpl];exact he))]
  congr 1
  unfold wcE;rw[uJ4 g.toGx _ g.ok.pl,g.rpl,hE];show (((addR s.ms r').idxOf r',cc):Nat×Nat)=(i,cc)
  rw[jXk g.ok.nd,kK9 hm,ei]
theorem Grown.may{es:List (Nat×Nat)}(w:AnyWeb W)(g:Grown W s r)(hr:W[r]? =some es)(he:en W r dr=some (r',cc))(hes:W[r']? =some es'):
  s.ct[s.pl]? =some es.length/\(∀k',s.ct[s.ms.idxOf r']? =some k'->k'=es'.length)/\(∀e,s.E (s.at_,dr)=some e->e=(r',cc))/\(∀e,s.E (r',cc)=some e->e=(s.at_,dr)):=by
 refine⟨?_,λk' hk=> ?_,λe z=> ?_,λe z=> ?_⟩
 .obtain⟨es1,h1,h2⟩:=g.ws _ _ g.ok.at_;rw[g.at_,hr] at h1;cases h1;exact h2
 .by_cases hm:r'∈s.ms
  .obtain⟨es1,h1,h2⟩:=g.ws _ _ (jQi hm);rw[hes] at h1;cases h1;rw[hk] at h2;exact lJn h2
  .rw[kK9 hm,<-g.ok.len,lJz (lJg _)] at hk;cases hk
 .have:=g.wE _ _ z;rw[g.at_] at this;exact lJn (this.symm.trans he)
 .have:=g.wE _ _ z;rw[g.at_];exact lJn (this.symm.trans (w.sym _ _ _ _ he))
theorem kZk(g:Gx W s r)(e:s.E (r,dr)=some (r',cc))(k:Nat):(goC s dr cc r' k).ms=s.ms/\(goC s dr cc r' k).ct=s.ct/\(goC s dr cc r' k).E=s.E/\(goC s dr cc r' k).pl=s.ms.idxOf r':=by
 have hm:r'∈s.ms:=g.ok.e1 _ _ e;refine⟨?_,?_,?_,rfl⟩
 .show addR s.ms r'=s.ms
  unfold addR;rw[lJc hm]
 .show addC s.ms s.ct r' k=s.ct
  unfold addC;rw[lJc hm]
 .show tieE s.E (s.at_,dr) (r',cc)=s.E
  funext p
  unfold tieE;rw[g.at_];split
  .rename_i q;rw[q];exact (g.sy _ _ e).symm
  .split
   .rename_i q;rw[q];exact e.symm
   .rfl
end
theorem qVp{d:Nat}{u v:List Nat}(h:sle (d::u) (d::v)):sle u v:=by
 rcases h with h | h | ⟨h1,h2⟩
 .cases h;exact .inl rfl
 .exact .inr (.inl (by simpa using h))
 .refine .inr (.inr ⟨by simpa using h1,?_⟩)
  rcases h2 with h2 | ⟨_,h2⟩
  .exact absurd h2 (lQ0 _)
  .exact h2
theorem qZx{u v:List Nat}(h:sle u v):u.length<=v.length:=by
 rcases h with h | h | ⟨h,_⟩
 .rw[h];exact lJg _
 .exact lVw h
 .exact lXg h
theorem Least.step{W:Web}{r x d:Nat}{u:List Nat}(h:Least W r x (d::u)):∃y j,en W r d=some (y,j)/\y≠r/\Least W y x u:=by
 obtain⟨y,j,e,l⟩:=h.to;refine⟨y,j,e,λz=> ?_,l,λv hv=>qVp (h.le (d::v) ⟨y,j,e,hv⟩)⟩
 subst z;have:=qZx (h.le u l);rw[lKj] at this;omega
theorem qJp{s:CS}{i d:Nat}{u:List Nat}{x:Nat}(h:Least (Wc s) i x (d::u)):i<s.ms.length/\d<ctI s i/\∃e,s.E (rmI s i,d)=some e/\Least (Wc s) (s.ms.idxOf e.1) x u:=by
 obtain⟨y,j,e,ne,l⟩:=h.step;obtain⟨hi,hd,e'⟩:=jZ1 e;refine⟨hi,hd,?_⟩;unfold wcE at e';split at e'
 .cases e';exact absurd rfl ne
 .rename_i q hq
  cases e';exact⟨q,hq,l⟩
def allE:List (Nat×Nat):=(List.range 24).flatMap λr=>(List.range 6).map λd=>(r,d)
def kn(s:CS):Nat:=allE.countP λp=>(s.E p).isSome
theorem uJs(s:CS):kn s<=144:=lKb List.countP_le_length (by decide)
theorem qXn{r d:Nat}(hr:r<24)(hd:d<6):(r,d)∈allE:=lQx.mpr ⟨r,lJ3.mpr hr,lJy.mpr ⟨d,lJ3.mpr hd,rfl⟩⟩
theorem kZy{α:Type}{p q:α->Bool}:∀{l:List α}{a:α},(∀x,p x=true->q x=true)->a∈l->p a=false->q a=true->l.countP p<l.countP q
 | [],_,_,h,_,_=>absurd h lJ2
 | x::l,a,i,h,hp,hq=>by
  have le:l.countP p<=l.countP q:=List.countP_mono_left λx _=>i x
  rw[lXq,lXq]
  rcases (lJk.mp h) with rfl | h
  .rw[hp,hq];simp;omega
  .have ih:=kZy i h hp hq;cases z:p x with
   | false=>split<;>simp<;>omega
   | true=>rw[i x z];simp;omega
def CA(W:Web)(G:Gp)(a b c:Addr)(r:Nat)(s:CS):Prop:=∃d kvs,ChAt G a b c d s kvs/\Grown W s r
theorem CA.sub{W:Web}{G G':Gp}{a b c:Addr}{r:Nat}{s:CS}(h:CA W G a b c r s)(k:Sub G G'):CA W G' a b c r s:=
 let ⟨d,kvs,h1,h2⟩:=h;⟨d,kvs,h1.sub λx u z _=>k x u z,h2⟩
def CX(W:Web)(G:Gp)(a b c:Addr)(r:Nat)(s:CS):Prop:=∃d kvs,ChAt G a b c d s kvs/\Gx W s r
theorem CX.sub{W:Web}{G G':Gp}{a b c:Addr}{r:Nat}{s:CS}(h:CX W G a b c r s)(k:Sub G G'):CX W G' a b c r s:=
 let ⟨d,kvs,h1,h2⟩:=h;⟨d,kvs,h1.sub λx u z _=>k x u z,h2⟩
theorem kUj{s:CS}{dr cm r k:Nat}(h1:∀k',s.ct[s.ms.idxOf r]? =some k'->k'=k)(h2:∀e,s.E (s.at_,dr)=some e->e=(r,cm))(h3:∀e,s.E (r,cm)=some e->e=(s.at_,dr)):dueX s dr cm r k=none:=by
 unfold dueX;rw[lJb,lJb,lJb]
 .refine lQg ?_;cases e:s.E (r,cm) with
  | none=>rfl
  | some q=>rw[h3 q e];rfl
 .refine lQg ?_;cases e:s.E (s.at_,dr) with
  | none=>rfl
  | some q=>rw[h2 q e];rfl
 .refine lQg ?_;cases e:s.ct[s.ms.idxOf r]? with
  | none=>rfl
  | some q=>rw[h1 q e];rfl
theorem qZj{W:Web}{G:Gp}{a b c:Addr}{r dr r' cc:Nat}{s:CS}{es':List (Nat×Nat)}{K:VK3}(w:AnyWeb W)(h:CA W G a b c r s)(he:en W r dr=some (r',cc))(hes:W[r']? =some es')
  (k:∀G',CA W G' a b c r' (goC s dr cc r' es'.length)->Kp [a,b,c] G G'->K .non G'):jKa [.ref a,.int (dr:Nat),.int (cc:Nat),.str (mkS r'),.int (es'.length:Nat)] G K RNo:=by
 obtain⟨d,kvs,ch,g⟩:=h;obtain⟨es,hr,hd⟩:=jKv he;obtain⟨es2,hr2,hd2⟩:=jKv (w.sym _ _ _ _ he);rw[hes] at hr2;cases hr2;obtain⟨m1,m2,m3,m4⟩:=g.may w hr he hes;have hl:=w.len;have h1:=(lJe.mp hes).1;have h2:=w.deg _ _ hes;have dn:=kUj m2 m3 m4;exact⟨a,b,c,d,s,kvs,dr,cc,r',es'.length,es.length,rfl,ch,g.ok,by omega,by omega,(lJe.mp hd2).1,m1,(lJe.mp hd).1,(λcn z=>by rw[dn] at z;cases z),λ_ d' kvs' G' _ ch' kp=>k G' ⟨d',kvs',ch',g.go w he hes⟩ kp⟩
structure Ext (W:Web) (s t:CS):Prop where
 sub:∀p q,s.E p=some q->t.E p=some q
 cn:Conn (Wc s)->Conn (Wc t)
 same:(∀x,x<W.length->x∈s.ms)->t.ms=s.ms/\t.ct=s.ct
theorem Ext.refl(W:Web)(s:CS):Ext W s s:=⟨λ_ _ h=>h,id,λ_=>⟨rfl,rfl⟩⟩
theorem Ext.go{W:Web}{s t:CS}{r dr r' cc:Nat}{es':List (Nat×Nat)}(x:Ext W s t)(w:AnyWeb W)(g:Grown W t r)(he:en W r dr=some (r',cc))(hes:W[r']? =some es'):Ext W s (goC t dr cc r' es'.length) where
 sub:=λp q h=>kZj w g he _ (x.sub p q h)
 cn:=λh=>uKh w g (x.cn h) he
 same:=λh=>by
  obtain⟨h1,h2⟩:=x.same h;have hm:r'∈t.ms:=by rw[h1];exact h r' (lJe.mp hes).1
  refine⟨?_,?_⟩
  .show addR t.ms r'=_
   unfold addR;rw[lJc hm];exact h1
  .show addC t.ms t.ct r' _=_
   unfold addC;rw[lJc hm];exact h2
structure Ended (s t:CS) (x d:Nat):Prop where
 kn:kn s<kn t
 sm:(t.E (rmI s x,d)).isSome=true
 rm:rmI t x=rmI s x
 lt:x<t.ms.length
inductive WalkI (s:CS) (x:Nat) (w:List Nat) (d j:Nat) (t:CS):Prop where
 | on (hj:j<=w.length) (h1:t.ms=s.ms) (h2:t.ct=s.ct) (h3:t.E=s.E) (l:Least (Wc s) t.pl x (w.drop j))
 | off (hj:j=w.length+1) (h:Ended s t x d)
theorem qJ9{W:Web}{s t:CS}{x:Nat}{w:List Nat}{d j r dd:Nat}(aw:AnyWeb W)(g:Grown W t r)(hx:x<s.ms.length)(hd:d<ctI s x)(hn:s.E (rmI s x,d)=none)(h:WalkI s x w d j t)(hv:(w++[d])[j]? =some dd):
  ∃r' cc es',en W r dd=some (r',cc)/\W[r']? =some es'/\WalkI s x w d (j+1) (goC t dd cc r' es'.length)/\(j=w.length->t.pl=x/\dd=d):=by
 obtain⟨hj,h1,h2,h3,l⟩:j<=w.length/\t.ms=s.ms/\t.ct=s.ct/\t.E=s.E/\Least (Wc s) t.pl x (w.drop j):=by
  rcases h with ⟨hj,h1,h2,h3,l⟩ | ⟨hj,_⟩
  .exact⟨hj,h1,h2,h3,l⟩
  .have:=(lJe.mp hv).1;simp at this;omega
 have rmE:∀i,rmI t i=rmI s i:=λi=>by unfold rmI;rw[h1]
 have ctE:∀i,ctI t i=ctI s i:=λi=>by unfold ctI;rw[h2]
 rcases lKd j w.length with z | z
 .rw[lKe z] at hv
  have hdr:w.drop j=dd::w.drop (j+1):=by
   rw[List.drop_eq_getElem_cons z]
   congr 1
   rw[lJh z] at hv;exact lJn hv
  rw[hdr] at l;obtain⟨hi,hdl,e,he,l'⟩:=qJp l;rw[<-rmE,g.rpl,<-h3] at he;have hw:=g.wE _ _ he;have hm:=g.ok.e1 _ _ he;obtain⟨es',q1,_⟩:=g.ws _ _ (jQi hm);obtain⟨k1,k2,k3,k4⟩:=kZk g.toGx (r':=e.1) (cc:=e.2) he es'.length;refine⟨e.1,e.2,es',hw,q1,.on z (k1.trans h1) (k2.trans h2) (k3.trans h3) ?_,λq=>by omega⟩
  rw[k4,h1];exact l'
 .have ej:j=w.length:=by omega
  subst ej;rw[lQk (lJg _)] at hv;simp at hv;subst hv;rw[lY1] at l;have hpl:t.pl=x:=l.to;have hr:r=rmI s x:=by rw[<-g.rpl,hpl,rmE]
  obtain⟨es,e1,e2⟩:=g.row (i:=x) (by rw[h1];exact hx)
  rw[rmE] at e1;rw[ctE] at e2;have hdl:d<es.length:=by rw[<-e2];exact hd
  obtain⟨⟨r',cc⟩,hed⟩:∃e,es[d]? =some e:=⟨_,lJh hdl⟩
  have hen:en W r d=some (r',cc):=by rw[hr];exact jV2 e1 hed
  obtain⟨es',q1⟩:∃es',W[r']? =some es':=⟨_,lJh (jUf (aw.sym _ _ _ _ hen))⟩
  refine⟨r',cc,es',hen,q1,.off rfl ⟨?_,?_,?_,?_⟩,λ_=>⟨hpl,rfl⟩⟩
  .have hr24:rmI s x<24:=by rw[<-hr];exact g.ok.lt _ g.mem
   have h6:=aw.deg _ _ e1;refine kZy (a:=(rmI s x,d)) (λp hp=> ?_) (qXn hr24 (by omega)) (by rw[hn];rfl) ?_
   .cases q:s.E p with
    | none=>rw[q] at hp;cases hp
    | some e=>rw[<-h3] at q;rw[kZj aw g hen _ q];rfl
   .have:(goC t d cc r' es'.length).E (r,d)=some (r',cc):=by
     show tieE t.E (t.at_,d) (r',cc) (r,d)=_
     unfold tieE;rw[g.at_]
     by_cases q:(r,d)=(r',cc)
     .rw[lJc q];rw[q]
     .rw[lJb q,lJc rfl]
    rw[<-hr,this];rfl
  .have:(goC t d cc r' es'.length).E (r,d)=some (r',cc):=by
    show tieE t.E (t.at_,d) (r',cc) (r,d)=_
    unfold tieE;rw[g.at_]
    by_cases q:(r,d)=(r',cc)
    .rw[lJc q];rw[q]
    .rw[lJb q,lJc rfl]
   rw[<-hr,this];rfl
  .rw[uJ4 g.toGx _ (by rw[h1];exact hx),rmE]
  .have:=uJ5 t d cc r' es'.length;rw[h1] at this;omega
noncomputable def jQb:Sp3:=λxs G Q=>∃(W:Web)(a b c:Addr)(r:Nat)(s:CS),xs=[encW W,.int (r:Nat),.ref a]/\AnyWeb W/\CA W G a b c r s/\∀(r' k:Nat)(t:CS) G',CA W G' a b c r' t->jYd t none->Ext W s t->(t=s\/kn s<kn t)->Kp [a,b,c] G G'->Q (.tup [.int (r':Nat),.int (k:Nat)]) G'
def kYr:List Str:=["_law_web_here","_law_room","_law_chart","_law_many","_law_way","_law_door","_law_came"]
noncomputable def jXd:TS3:=
 (tSeq (tAsg tI0 M3)
 (tSeq (tAsg (jJ1 "Chart" "next_way" jKy o2 tNil) M4)
 (tSeq (jYe (jJv (tOp jZh o4 (tC .non))) (tSeq (tFor (iSeq o4) M5 (tSeq (tAsg (tOp rIxF (tOp rIxF o0 o1) o5) (gTup 2 (jKd M1 (jKd M6 gNil))))
 (tSeq (jQm (jV4 "Chart" "went" jKa RNo o2 (jJc o5 (jJc o6 (jJc (jJq jJp C1) (jJc (tCB rLen (jJc (tOp rIxF o0 o1) tNil)) tNil))))))
 (tAsg (tOp jKz o3 tI1) M3))))
 (tSeq (tAsg (jJ1 "Chart" "next_way" jKy o2 tNil) M4)
 (tIfS (jJv (tOp rGt o3 (tC (.int 4000)))) (tRet (tC .non)) jJ5))))
 (tRet (tTup (jJc o1 C3))))))
theorem kKp:RdOk jQb jXd kYr:=by
 intro xs G Q h_;apply xe6 h_;clear h_;intro W a b c r s;refine ae3 ?_;intro aw ca kk;show jXd _ [some (encW W),some (.int (r:Nat)),some (.ref a),none,none,none,none] G
 have hs:=sz
 have next:∀{G1:Gp}{r1:Nat}{s1:CS}{K:VK3},CA W G1 a b c r1 s1->(∀w G2,jYd s1 w->Sub G1 G2->K (optW w) G2)->obR "Chart" "next_way" G1 (.ref a)=true/\jKy [.ref a] G1 K:=by
  rintro G1 r1 s1 K ⟨d,kvs,ch,g⟩ hK;exact⟨jQw ch.obj,a,b,c,d,s1,kvs,rfl,ch,g.ok,hK⟩
 exists jXd,jJ1,jYe,jJ7,iSeq,encW
 refine next ca λw0 G1 nw0 s1=> ?_
 refine⟨λm τ G'=>∃(r:Nat)(t:CS)(w:Option (List Nat))(many:Nat)(v5 v6:Option T),τ=[some (.tup (W.map encR)),some (.int (r:Nat)),some (.ref a),some (.int (many:Nat)),some (optW w),v5,v6]/\CA W G' a b c r t/\jYd t w/\many<=24*kn t/\Kp [a,b,c] G G'/\m=144-kn t/\Ext W s t/\(t=s\/kn s<kn t),⟨_,r,s,w0,0,_,_,rfl,ca.sub s1,nw0,lJ0 _,.sub s1,rfl,.refl _ _,.inl rfl⟩,?_⟩
 intro m τ G2 h_;apply xe6 h_;clear h_;intro r s' w many v5 v6;refine ae7 ?_;intro ca nw hm kp e4_ ext prog;subst e4_;cases w with
 | none=>
  exists optW
  exact⟨by omega,kk r many s' G2 ca nw ext prog kp⟩
 | some v=>
  obtain⟨k,x,w,d,rfl,hk,hbef,hl,hwl,hd,hn,hleast⟩:=nw;obtain⟨d0,kvs0,ch0,g0⟩:=id ca;have hxl:x<s'.ms.length:=by rw[<-jQh s'];exact (kQh (jV3 g0.ok) (by rw[jQh];exact g0.ok.pl)).2.lt x (lJm hk)
  have h24:=g0.len;have hkn:=uJs s'
  exists optW
  let N1:St3->Gp->Prop:=λτ' G'=>∃(r:Nat)(t:CS)(w:Option (List Nat))(many:Nat)(v5 v6:Option T),τ'=[some (.tup (W.map encR)),some (.int (r:Nat)),some (.ref a),some (.int (many:Nat)),some (optW w),v5,v6]/\CA W G' a b c r t/\jYd t w/\many<=24*kn t/\Kp [a,b,c] G G'/\kn s'<kn t/\Ext W s t
  refine⟨N1,?_,?_⟩
  .rintro τ' G' ⟨r',t,w',many',v5',v6',e1,e2,e3,e4,e5,e6,e7⟩;have:=uJs t;exact⟨144-kn t,by omega,r',t,w',many',v5',v6',e1,e2,e3,e4,e5,rfl,e7,.inr (prog.elim (λh=>by rw[<-h];exact e6) λh=>by omega)⟩
  let J:Nat->St3->Gp->Prop:=λj τ G'=>∃(rj:Nat)(t:CS)(v5 v6:Option T),τ=[some (.tup (W.map encR)),some (.int (rj:Nat)),some (.ref a),some (.int ((many+j:Nat):Nat)),some (.tup (jJm (w++[d]))),v5,v6]/\CA W G' a b c rj t/\Kp [a,b,c] G G'/\WalkI s' x w d j t/\Ext W s t
  refine⟨J,?_,?_,?_,?_⟩
  .exact⟨r,s',_,_,rfl,ca,kp,.on (lJ0 _) rfl rfl rfl hl,ext⟩
  .intros;trivial
  .intro j y τ G3 hy h_;apply xe4 h_;clear h_;intro rj t v5 v6;refine ae4 ?_;intro caj kpj wi extj;obtain⟨dd,hdd,rfl⟩:=jK4 hy;obtain⟨dj,kvsj,chj,gj⟩:=id caj;obtain⟨r',cc,es',he,hes',wi',_⟩:=qJ9 aw gj hxl hd hn wi hdd;obtain⟨es,hes,hed⟩:=jKv he;have hr'l:=(lJe.mp hes').1;have hwl2:=aw.len
   exists jQf hes,encR,kUf hed,encE,jJ1,jV4
   refine⟨jQw chj.obj,r',rfl,by omega,λG4 s4=> ?_⟩
   exists jQf hes',encR,List.length_map
   refine qZj aw (caj.sub s4) he hes' λG5 ca5 kp5=> ?_
   exists tSeq
   exact⟨r',_,_,_,rfl,ca5,(kpj.trans (.sub s4)).trans kp5,wi',extj.go aw gj he hes'⟩
  .intro τ G3 h_;apply xe4 h_;clear h_;intro rj t v5 v6;refine ae4 ?_;intro caj kpj wi extj;have hlen:(jJm (w++[d])).length=w.length+1:=by simp[jJm]
   rw[hlen] at wi ⊢
   have en:Ended s' t x d:=by
    rcases wi with ⟨hj,_⟩ | ⟨_,h⟩
    .omega
    .exact h
   have hkt:=uJs t;have hke:=en.kn
   exists jJ1
   refine next caj λw' G4 nw' s4=> ?_
   rw[lJb (by omega)]
   exact⟨rj,t,w',many+(w.length+1),_,_,rfl,caj.sub s4,nw',by omega,kpj.trans (.sub s4),hke,extj⟩
theorem uJn{s:CS}{n i d:Nat}:(i,d)∈opP s n↔i<n/\d<ctI s i/\s.E (rmI s i,d)=none:=by
 unfold opP;rw[lQx]
 constructor
 .rintro⟨i',hi,h⟩;unfold opRp at h;obtain⟨d',hd,e⟩:=lQs.mp h;split at e
  .rename_i z
   cases e;refine⟨lJ3.mp hi,lJ3.mp hd,?_⟩;cases q:s.E (rmI s i,d) with
   | none=>rfl
   | some _=>rw[q] at z;cases z
  .cases e
 .rintro⟨h1,h2,h3⟩;refine⟨i,lJ3.mpr h1,?_⟩;unfold opRp;exact lQs.mpr ⟨d,lJ3.mpr h2,by rw[h3];rfl⟩
theorem qJ8{s:CS}(ok:s.Ok):zipT (mksT s.ms) (jJm s.ct)=(s.ms.zip s.ct).map λp=>T.tup [.str (mkS p.1),.int (p.2:Nat)]:=by
 unfold zipT mksT jJm;rw[List.zip_map,lKf];rfl
section
variable {W:Web}{t:CS}{r:Nat}
theorem qUz(g:Grown W t r)(cn:Conn (Wc t))(h:jYd t none){x:Nat}(hx:x<t.ms.length):clo t x:=h x (g.all cn hx)
theorem qY8(g:Grown W t r)(cn:Conn (Wc t))(h:jYd t none):opL t t.ms.length=[]:=by
 rw[kY9]
 have:opP t t.ms.length=[]:=List.eq_nil_iff_forall_not_mem.mpr λe he=>by
  obtain⟨h1,h2,h3⟩:=(uJn (i:=e.1) (d:=e.2)).mp he;have:=qUz g cn h h1 e.2 h2;rw[h3] at this;cases this
 rw[this];rfl
theorem E_is(g:Grown W t r)(cn:Conn (Wc t))(h:jYd t none){i d:Nat}{e:Nat×Nat}(hi:i<t.ms.length)(he:en W (rmI t i) d=some e):t.E (rmI t i,d)=some e:=by
 have hd:=g.dr hi he;have:=qUz g cn h hi d hd;cases q:t.E (rmI t i,d) with
 | none=>rw[q] at this;cases this
 | some e'=>rw[<-he];exact (g.wE _ _ q).symm▸rfl
theorem qJi(g:Grown W t r){x:Nat}(h:x∈t.ms):x<W.length:=by
 obtain⟨es,h1,_⟩:=g.ws _ _ (jQi h);exact (lJe.mp h1).1
theorem full(aw:AnyWeb W)(g:Grown W t r)(cn:Conn (Wc t))(h:jYd t none){x:Nat}(hx:x<W.length):x∈t.ms:=by
 have cl:∀x i y j,x∈t.ms->en W x i=some (y,j)->y∈t.ms:=by
  intro x i y j hm he;have hi:=kUd hm
  have er:rmI t (t.ms.idxOf x)=x:=by
   have:=kKl hi;rw[jQi hm] at this;exact (lJn this).symm
  have:=E_is g cn h hi (by rw[er];exact he)
  exact g.ok.e1 _ _ this
 have h0:0∈t.ms:=aw.conn (λx=>x∈t.ms->0∈t.ms) (λh=>h) (λx i y j hx he hs=>hx (cl y j x i hs (aw.sym _ _ _ _ he))) r (qJi g g.mem) g.mem
 exact aw.conn (λx=>x∈t.ms) h0 (λx i y j h he=>cl x i y j h he) x hx
theorem qZp(aw:AnyWeb W)(g:Grown W t r)(cn:Conn (Wc t))(h:jYd t none):Turn W.length t.ms:=
 ⟨Nat.le_antisymm (jKe g.ok.nd λx hx=>qJi g hx) (kZx _ _ λx hx=>full aw g cn h hx),g.ok.nd,λx hx=>qJi g hx⟩
theorem qZ3(g:Grown W t r)(cn:Conn (Wc t))(h:jYd t none){i:Nat}(hi:i<t.ms.length){es:List (Nat×Nat)}(hes:W[rmI t i]? =some es):rowT t i=es.map λe=>encE (t.ms.idxOf e.1,e.2):=by
 obtain⟨es',h1,h2⟩:=g.row hi;rw[hes] at h1;cases h1;unfold rowT;rw[h2];apply lQh;intro d;rw[lJr,lJr]
 by_cases hd:d<es.length
 .rw[lQd hd,lJh hd];simp only[lQv];rw[E_is g cn h hi (jV2 hes (lJh hd))];rfl
 .rw[lJz (by simpa using hd),lJz (by simpa using hd)];rfl
theorem uVe(g:Grown W t r)(cn:Conn (Wc t))(h:jYd t none):(t.ms.map λx=>T.tup ((row W x).map λe=>encE (t.ms.idxOf e.1,e.2)))=skL t t.ms.length:=by
 apply lQh;intro i;unfold skL;rw[lJr,lJr]
 by_cases hi:i<t.ms.length
 .rw[lQd hi,kKl hi];simp only[lQv];obtain⟨es,h1,h2⟩:=g.row hi;rw[qZ3 g cn h hi h1,kK5 h1]
 .rw[lJz (by omega),lJz (by simpa using hi)];rfl
end
theorem qX0{G:Gp}{b:Addr}{ms:List Nat}{r:Nat}{Q:VK3}(h:G b=some (.lst (jJm ms)))(nd:ms.Nodup)(hm:r∈ms)(kk:Q (.int (ms.idxOf r:Nat)) G):kJk (.ref b) [.int (r:Nat)] G Q:=by
 have eqI:∀x y:Nat,eqT (.int (x:Nat)) (.int (y:Nat))=decide (x=y):=λx y=>by
  rw[show eqT (.int (x:Nat)) (.int (y:Nat))=decide ((x:Int)=y) from rfl]
  by_cases q:x=y
  .simp[q]
  .rw[lJo q,lJo (by omega)]
 refine⟨b,_,_,.int (r:Nat),ms.idxOf r,rfl,rfl,h,rfl,kJ4,by rw[jJm,lJr,jQi hm];rfl,by rw[eqI];simp,λm t hl ht=> ?_,kk⟩
 rw[jJm,lJr] at ht;obtain⟨x,hx,rfl⟩:=lVj.mp ht;rw[eqI];refine lJo λz=> ?_
 subst z;have:=jX8 nd hx;omega
theorem qKp{n:Nat}{m:List Nat}(t:Turn n m):kKk (m.map λx:Nat=>(x:Int))=(List.range n).map λx:Nat=>(x:Int):=by
 refine jYw ((jXl _).trans ?_) (kQu _) ?_
 .refine List.Perm.map _ ?_;refine (List.perm_ext_iff_of_nodup t.nd lV9).mpr λx=>⟨λh=>lJ3.mpr (t.lt x h),λh=>kJp t.nd t.lt t.len x (lJ3.mp h)⟩
 .rw[List.pairwise_map];exact List.pairwise_lt_range.imp λh=>by omega
theorem uQf{n r:Nat}(h:r<n):(List.range n).idxOf r=r:=jX8 lV9 (lQd h)
theorem qYe{G:Gp}{p q:Addr}{L:List Nat}(hp:G p=some (.lst (jJm L)))(hq:G q=some (.lst (jJm L))):eqG G (.ref p) (.ref q)=some true:=by
 have a:∀L:List Nat,jQv (jJm L)=true/\PyData.canLayAll0 (tds (jJm L))=true/\PyData.depthAll (tds (jJm L))<=0/\eqTs (jJm L) (jJm L)=true:=by
  intro L
  induction L with
  | nil=>exact⟨rfl,by simp[jJm,tds,PyData.canLayAll0],by simp[jJm,tds,PyData.depthAll],rfl⟩
  | cons x L ih=>
   obtain⟨a1,a2,a3,a4⟩:=ih;refine⟨?_,?_,?_,?_⟩
   .show (tree (.int (x:Nat))&&jQv (jJm L))=true;rw[a1];rfl
   .show PyData.canLayAll0 (td (.int (x:Nat))::tds (jJm L))=true;rw[PyData.canLayAll0,a2];rfl
   .show PyData.depthAll (td (.int (x:Nat))::tds (jJm L))<=0;rw[PyData.depthAll,td,PyData.depth];omega
   .show (eqT (.int (x:Nat)) (.int (x:Nat))&&eqTs (jJm L) (jJm L))=true;rw[a4];simp[eqT]
 obtain⟨a1,a2,a3,a4⟩:=a L
 have e:kJ5 (jJm L)=true:=by
  unfold kJ5;rw[a1,a2,lKa (show (PyData.list (tds (jJm L))).depth<=50 by rw[PyData.depth];omega)];rfl
 simp only[eqG,hp,hq];rw[lJc ⟨e,e⟩,a4]
def jUu:Sp3:=λxs G Q=>∃(W:Web)(a b c:Addr)(r:Nat)(t:CS),xs=[encW W,.ref a]/\AnyWeb W/\CA W G a b c r t/\Conn (Wc t)/\jYd t none/\∀G',Sub G G'->Q (skT t) G'
def kUt:List Str:=["_law_web_here","_law_chart","_law_order","_law_mark_here","_law_doors","_law_room","_law_other","_law_door"]
noncomputable def jUx:TS3:=
 (tSeq (tAsg (jQx [fF,fF,fF,tT,tT,fF,fF,fF] (iSeq (jJ1 "Chart" "rooms" jUw o1 tNil)) (gTup 2 (jKd M3 (jKd M4 gNil))) jXx (tBM "list" kJk (jQx [fF,fF,fF,fF,fF,tT,fF,fF] (jK9 (jJc (tCB rLen C0) tNil)) M5 jXx (jJq jJp C5)) C3)) M2)
 (tSeq (tIfS (jJv (tOp rNeA (tCB qK5 C2) (jUh (jJc (tCB rLen C0) tNil)))) (tRet (tC .non)) jJ5)
 (tRet (tCB jK3 (jJc (jQx [fF,fF,fF,fF,fF,tT,fF,fF] (iSeq o2) M5 jXx (tCB jK3 (jJc (jQx [fF,fF,fF,fF,fF,fF,tT,tT] (iSeq (tOp rIxF o0 o5)) (gTup 2 (jKd M6 (jKd M7 gNil))) jXx (tTup (jJc (tBM "list" kJk o2 C6) C7))) tNil))) tNil)))))
theorem jZd:RdOk jUu jUx kUt:=by
 intro xs G Q h_;apply xe6 h_;clear h_;intro W a b c r t;refine ae5 ?_;intro aw q1_ cn nw kk;obtain⟨d,kvs,ch,g⟩:=q1_;show jUx _ [some (encW W),some (.ref a),none,none,none,none,none,none] G
 have hs:=sz;have hlm:=g.len;have hlen:=aw.len;have tn:=qZp aw g cn nw
 exists jUx,jJ1,iSeq,encW
 refine⟨jQw ch.obj,a,b,c,d,t,kvs,rfl,ch,g.ok,?_⟩;unfold rmT
 exists tSeq
 rw[qJ8 g.ok];refine jQ2 (λp=>T.int (p.1:Nat)) (by rw[List.length_zip];omega) (λ_ _=>trivial) ?_ ?_
 .intro i p hp G1 K K0 s1 hK;have hm:p.1∈t.ms:=(lXj (lJm hp)).1;have hpl:=qJi g hm
  exists jK9,List.length_map
  refine⟨by omega,by omega,?_⟩
  rw[show ((W.length:Nat):Int).toNat=W.length by omega,jQt]
  refine jQ2 (λr=>T.str (mkS r)) (by simp;omega) (λ_ _=>trivial) ?_ ?_
  .intro j x hx G2 K2 K02 s2 hK2;obtain⟨hj,rfl⟩:=jVi hx
   exists tSeq
   exact⟨j,rfl,by omega,λG3 s3=>hK2 G3 s3⟩
  .intro D G2 hD hD2 s2
   exists jKx hD2
   refine kYb (ms:=List.range W.length) hD2 lV9 (λx hx=>by have:=lJ3.mp hx;omega) (lJ3.mpr hpl) ?_
   rw[uQf hpl];exact hK G2 s2
 .intro D G1 hD hD1 s1
  have e1:((t.ms.zip t.ct).map λp=>T.int (p.1:Nat))=jJm t.ms:=by
   unfold jJm;rw[show (λp:Nat×Nat=>T.int (p.1:Nat))=(λr:Nat=>T.int (r:Nat))∘Prod.fst from rfl,<-lKf,List.map_fst_zip (by rw[g.ok.len];exact lJg _)]
  rw[e1] at hD1
  exists qK5,jUh,rNeA,List.length_map
  have e2:(t.ms.map λx:Nat=>(x:Int)).map T.int=jJm t.ms:=by rw[lKf];rfl
  refine⟨t.ms.map λx:Nat=>(x:Int),by rw[e2];exact lsT hD1,by rw[lJf];omega,λp hp=>⟨by omega,by omega,λq hq=> ?_⟩⟩
  have e3:(kKk (t.ms.map λx:Nat=>(x:Int))).map T.int=jJm (List.range W.length):=by rw[qKp tn,lKf];rfl
  have e4:rngT 0 ((W.length:Nat):Int).toNat=jJm (List.range W.length):=by rw[show ((W.length:Nat):Int).toNat=W.length by omega,jQt];rfl
  rw[e3] at hq ⊢;rw[e4];obtain⟨hqp,hq1⟩:=jJ4 hq;have s2:Sub G1 (gup (gup G1 p (.lst (jJm (List.range W.length)))) q (.lst (jJm (List.range W.length)))):=(Sub.new hp).over hq1;refine⟨true,qYe (by rw[jJl hqp.symm,jJg]) jJg,?_⟩
  rw[lJb (by simp)]
  generalize gup (gup G1 p (.lst (jJm (List.range W.length)))) q (.lst (jJm (List.range W.length)))=G2 at s2 ⊢
  have hD2:=s2 _ _ hD1;refine⟨_,jJo hD2,?_⟩;refine jQ2 (es:=t.ms) (enc:=λx:Nat=>T.int (x:Nat)) (λx=>T.tup ((row W x).map λe=>encE (t.ms.idxOf e.1,e.2))) (by omega) (λG' s'=>jJo (s' _ _ hD2)) ?_ ?_
  .intro i x hx G3 K K0 s3 hK;have hxm:=lJm hx;have hxl:=qJi g hxm;obtain⟨es,hes⟩:∃es,W[x]? =some es:=⟨_,lJh hxl⟩
   have hel:=aw.deg _ _ hes;have hD3:=s3 _ _ hD2;have hK':=hK;rw[kK5 hes] at hK'
   exists iSeq,jQf hes,encR
   refine jQ2 (es:=es) (enc:=encE) (λe=>encE (t.ms.idxOf e.1,e.2)) (by omega) (λ_ _=>trivial) ?_ ?_
   .intro j e he G4 K2 K02 s4 hK2;have hD4:=s4 _ _ hD3;have hem:e.1∈t.ms:=full aw g cn nw (jUf (aw.sym _ _ _ _ (show en W x j=some (e.1,e.2) from jV2 hes he)))
    exists encE,jKx hD4
    exact qX0 hD4 g.ok.nd hem ⟨by omega,hK2 G4 (.refl _)⟩
   .intro D4 G4 hD4 hD5 s4;refine⟨_,jJo hD5,hK' G4 s4⟩
  .intro D3 G3 hD3 hD4 s3;rw[uVe g cn nw] at hD4;exact⟨_,jJo hD4,kk G3 ((s1.trans s2).trans s3)⟩
theorem qQt:((List.range 24).all λr=>(td (.str (mkS r))).canLay0)=true:=by decide +kernel
theorem uUq{G:Gp}{r:Nat}(h:r<24):eqG G (.str (mkS r)) (.str (mkS r))=some true:=by
 have e:eqOk (.str (mkS r))=true:=by
  unfold eqOk;rw[show tree (.str (mkS r))=true from rfl,lQn.mp qQt r (lJ3.mpr h),lKa (by simp[td,PyData.depth])];rfl
 show (if eqOk (.str (mkS r))=true/\eqOk (.str (mkS r))=true then some (eqT (.str (mkS r)) (.str (mkS r))) else none)=_
 rw[lJc ⟨e,e⟩];simp[eqT]
structure OkD (d:Nat) (x:T):Prop where
 tr:tree x=true
 lay:(td x).canLay0=true
 dep:(td x).depth<=d
 eq:eqT x x=true
theorem uJg{d:Nat}{i:Int}:OkD d (.int i):=⟨rfl,rfl,by simp[td,PyData.depth],by simp[eqT]⟩
theorem uJf{d:Nat}:OkD d .non:=⟨rfl,rfl,by simp[td,PyData.depth],by simp[eqT]⟩
theorem kX2{d:Nat}:∀xs:List T,(∀x,x∈xs->OkD d x)->jQv xs=true/\PyData.canLayAll0 (tds xs)=true/\PyData.depthAll (tds xs)<=d/\eqTs xs xs=true
 | [],_=>⟨rfl,by simp[tds,PyData.canLayAll0],by simp[tds,PyData.depthAll],rfl⟩
 | x::xs,h=>by
  obtain⟨a1,a2,a3,a4⟩:=kX2 xs λy hy=>h y (lJ8 _ hy)
  obtain⟨b1,b2,b3,b4⟩:=h x (lKg ..);refine⟨?_,?_,?_,?_⟩
  .show (tree x&&jQv xs)=true;rw[a1,b1];rfl
  .rw[tds,PyData.canLayAll0,a2,b2];rfl
  .rw[tds,PyData.depthAll];omega
  .show (eqT x x&&eqTs xs xs)=true;rw[a4,b4];rfl
theorem kQ9{d:Nat}{xs:List T}(h:∀x,x∈xs->OkD d x):OkD (d+1) (.tup xs):=by
 obtain⟨a1,a2,a3,a4⟩:=kX2 xs h;exact⟨a1,by rw[td,PyData.canLay0];exact a2,by rw[td,PyData.depth];omega,a4⟩
theorem kZr{G:Gp}{x:T}{d:Nat}(h:OkD d x)(hd:d<=50)(hr:∀p,x≠ .ref p):eqG G x x=some true:=by
 have e:eqOk x=true:=by
  unfold eqOk;rw[h.tr,h.lay,lKa (show (td x).depth<=50 by have:=h.dep;omega)];rfl
 have:eqG G x x=if eqOk x=true/\eqOk x=true then some (eqT x x) else none:=by
  cases x with
  | ref p=>exact absurd rfl (hr p)
  | _=>rfl
 rw[this,lJc ⟨e,e⟩,h.eq]
theorem uQ2{e:Nat×Nat}:OkD 1 (encE e):=kQ9 λx hx=>by
 simp only[lJ2,lJk,lKs] at hx
 rcases hx with rfl | rfl<;>exact uJg
theorem uJh(s:CS)(x:Option (Nat×Nat)):OkD 1 (endT s x):=by
 cases x with
 | none=>exact uJf
 | some e=>exact uQ2
theorem uQ1(s:CS):OkD 3 (skT s):=kQ9 λx hx=>by
 obtain⟨i,_,rfl⟩:=lJy.mp hx;refine kQ9 λx hx=> ?_
 obtain⟨d,_,rfl⟩:=lJy.mp hx;exact uJh s _
structure Wr (W:Web) (s:CS) (p q:Nat×Nat):Prop where
 aw:AnyWeb W
 fm:∀x,x<W.length->x∈s.ms
 fe:∀x y,en W x.1 x.2=some y->s.E x=some y
 he:en W p.1 p.2=some q
 ne:p≠q
theorem Gx.of{W:Web}{s t:CS}{r0 r:Nat}(g:Gx W s r0)(h1:t.ms=s.ms)(h2:t.ct=s.ct)(hp:t.ms[t.pl]? =some r)(hE:∀x y,t.E x=some y->s.E x=some y\/(x=y/\x.1∈s.ms))(sy:∀x y,t.E x=some y->t.E y=some x):Gx W t r where
 ok:=⟨by rw[h1];exact g.ok.nd,by rw[h1];exact g.ok.lt,by rw[h1,h2];exact g.ok.len,by rw[h2];exact g.ok.dg,(lJe.mp hp).1,λx y e=>by
  rw[h1]
  rcases hE x y e with z | z
  .exact g.ok.e0 _ _ z
  .exact z.2,λx y e=>by
  rw[h1]
  rcases hE x y e with z | z
  .exact g.ok.e1 _ _ z
  .rw[<-z.1];exact z.2⟩
 at_:=by unfold CS.at_;rw[lK0,hp];rfl
 ws:=by rw[h1,h2];exact g.ws
 wX:=λx y e ne=>by
  rcases hE x y e with z | z
  .exact g.wX _ _ z ne
  .exact absurd z.1 ne
 sy:=sy
def e3(s:CS)(p q:Nat×Nat):Nat×Nat->Option (Nat×Nat):=λx=>if x=p then some p else if x=q then none else s.E x
def e5(s:CS)(p q:Nat×Nat):Nat×Nat->Option (Nat×Nat):=λx=>if x=p then none else if x=q then none else s.E x
section
variable {W:Web}{s:CS}{p q:Nat×Nat}{r:Nat}
theorem Wr.hq(w:Wr W s p q):en W q.1 q.2=some p:=w.aw.sym _ _ q.1 q.2 w.he
theorem Wr.ep(w:Wr W s p q):s.E p=some q:=w.fe p q w.he
theorem Wr.eq(w:Wr W s p q):s.E q=some p:=w.fe q p w.hq
theorem Wr.mp(w:Wr W s p q):p.1∈s.ms:=w.fm _ (jUf w.he)
theorem Wr.mq(w:Wr W s p q):q.1∈s.ms:=w.fm _ (jUf w.hq)
theorem fg_q(w:Wr W s p q):fgE s.E q=e5 s p q:=by
 funext x
 unfold fgE e5;rw[w.eq]
theorem fg_p(w:Wr W s p q){E:Nat×Nat->Option (Nat×Nat)}(h:E=e3 s p q):fgE E p=e5 s p q:=by
 subst h
 funext x
 have:e3 s p q p=some p:=lJc rfl;unfold fgE;rw[this];unfold e3 e5
 dsimp only
 by_cases z:x=p
 .rw[lJc z,lJc z]
 .rw[lJb z,lJb z,lJb z,lJb z]
theorem qUp{x y:Nat×Nat}(h:e5 s p q x=some y):s.E x=some y/\x≠p/\x≠q:=by
 unfold e5 at h;split at h
 .cases h
 .split at h
  .cases h
  .exact⟨h,‹_›,‹_›⟩
theorem uUw(w:Wr W s p q)(g:Gx W s r){x y:Nat×Nat}(h:e5 s p q x=some y):e5 s p q y=some x:=by
 obtain⟨h1,h2,h3⟩:=qUp h;have h4:=g.sy _ _ h1;unfold e5;rw[lJb,lJb]
 .exact h4
 .intro z;subst z;rw[w.eq] at h4;exact h2 (lJn h4).symm
 .intro z;subst z;rw[w.ep] at h4;exact h3 (lJn h4).symm
theorem uUx{x y:Nat×Nat}(h:e3 s p q x=some y):(x=p/\y=p)\/(e5 s p q x=some y):=by
 unfold e3 at h;unfold e5;split at h
 .cases h;exact .inl ⟨‹_›,rfl⟩
 .rw[lJb ‹_›];exact .inr h
theorem uV9{x y:Nat×Nat}(h:e5 s p q x=some y):e3 s p q x=some y:=by
 obtain⟨h1,h2,h3⟩:=qUp h;unfold e3;rw[lJb h2,lJb h3];exact h1
theorem gx3(w:Wr W s p q)(g:Gx W s r){t:CS}{r':Nat}(h1:t.ms=s.ms)(h2:t.ct=s.ct)(h3:t.E=e3 s p q)(hp:t.ms[t.pl]? =some r'):Gx W t r':=
 g.of h1 h2 hp (λx y e=>by
  rw[h3] at e
  rcases uUx e with ⟨z1,z2⟩ | z
  .exact .inr ⟨z1.trans z2.symm,by rw[z1];exact w.mp⟩
  .exact .inl (qUp z).1) λx y e=>by
  rw[h3] at e ⊢
  rcases uUx e with ⟨z1,z2⟩ | z
  .rw[z1,z2];exact lJc rfl
  .exact uV9 (uUw w g z)
theorem gr5(w:Wr W s p q)(g:Grown W s r){t:CS}{r':Nat}(h1:t.ms=s.ms)(h2:t.ct=s.ct)(h3:t.E=e5 s p q)(hp:t.ms[t.pl]? =some r'):Grown W t r' where
 toGx:=g.toGx.of h1 h2 hp (λx y e=>by rw[h3] at e;exact .inl (qUp e).1) λx y e=>by rw[h3] at e ⊢; exact uUw w g.toGx e
 wE:=λx y e=>by rw[h3] at e;exact g.wE _ _ (qUp e).1
theorem uU1(g:Gx W s r){x:Nat}{es:List (Nat×Nat)}(hm:x∈s.ms)(hes:W[x]? =some es):s.ct[s.ms.idxOf x]? =some es.length:=by
 obtain⟨es',h1,h2⟩:=g.ws _ _ (jQi hm);rw[hes] at h1;cases h1;exact h2
theorem e6(w:Wr W s p q)(g:Grown W s r){t u:CS}{rt ru:Nat}(h1:t.ms=s.ms)(h2:t.ct=s.ct)(h3:t.E=e5 s p q)(gt:Grown W t rt)(gu:Grown W u ru)(nw:jYd u none)(ext:Ext W t u)(pr:u=t\/kn t<kn u)(hr:rt=p.1\/rt=q.1):u.ms=s.ms/\u.ct=s.ct/\u.E=s.E:=by
 obtain⟨e1,e2⟩:=ext.same (by rw[h1];exact w.fm)
 refine⟨e1.trans h1,e2.trans h2,?_⟩
 have some_:∃x,(x=p\/x=q)/\(u.E x).isSome=true:=by
  rcases pr with rfl | pr
  .have open_:∀z:Nat×Nat,z.1=rt->(∃y,en W z.1 z.2=some y)->(u.E z).isSome=true:=λz hz hy=>by
    obtain⟨y,hy⟩:=hy
    have hin:u.pl∈bfs (Wc u) u.pl:=by
     obtain⟨⟨E,e1⟩,_⟩:=kQh (jV3 gt.ok) (r:=u.pl) (by rw[jQh];exact gt.ok.pl)
     rw[e1];exact lKg ..
    have:=nw u.pl hin z.2 (gt.dr gt.ok.pl (by rw[gt.rpl,<-hz];exact hy))
    rw[gt.rpl,<-hz] at this;exact this
   rcases hr with z | z
   .exact⟨p,.inl rfl,open_ p z.symm ⟨_,w.he⟩⟩
   .exact⟨q,.inr rfl,open_ q z.symm ⟨_,w.hq⟩⟩
  .refine lVu λhn=> ?_
   have le:kn u<=kn t:=by
    refine List.countP_mono_left λx _ hx=> ?_
    cases e:u.E x with
    | none=>rw[e] at hx;cases hx
    | some y=>
     have hs:=w.fe _ _ (gu.wE _ _ e);have hx1:x≠p:=λz=>hn ⟨x,.inl z,by rw[e];rfl⟩
     have hx2:x≠q:=λz=>hn ⟨x,.inr z,by rw[e];rfl⟩
     rw[h3];unfold e5;rw[lJb hx1,lJb hx2,hs];rfl
   omega
 have both:u.E p=some q/\u.E q=some p:=by
  obtain⟨x,hx,hs⟩:=some_;obtain⟨y,hy⟩:=lYl.mp hs;have hw:=gu.wE _ _ hy
  rcases hx with rfl | rfl
  .have:y=q:=by rw[w.he] at hw;exact (lJn hw).symm
   subst this;exact⟨hy,gu.sy _ _ hy⟩
  .have:y=p:=by rw[w.hq] at hw;exact (lJn hw).symm
   subst this;exact⟨gu.sy _ _ hy,hy⟩
 funext x
 by_cases x1:x=p
 .rw[x1,both.1,w.ep]
 .by_cases x2:x=q
  .rw[x2,both.2,w.eq]
  .cases e:s.E x with
   | none=>
    cases e':u.E x with
    | none=>rfl
    | some y=>rw[w.fe _ _ (gu.wE _ _ e')] at e;cases e
   | some y=>
    refine ext.sub _ _ ?_;rw[h3];unfold e5;rw[lJb x1,lJb x2,e]
end
theorem kXl{s t:CS}(h1:t.ms=s.ms)(h2:t.ct=s.ct)(h3:t.E=s.E):skT t=skT s:=by
 have e:endT t=endT s:=by
  funext x
  cases x with
  | none=>rfl
  | some y=>show encE (t.ms.idxOf y.1,y.2)=encE (s.ms.idxOf y.1,y.2);rw[h1]
 unfold skT skL rowT rmI ctI;rw[h1,h2,h3,e]
theorem wy0:jUb ("Clash:doors":Str)=some "doors":=by decide +kernel
theorem wy1:jUb ("Clash:end":Str)=some "end":=by decide +kernel
theorem wy2:jUb ("Clash:taken":Str)=some "taken":=by decide +kernel
theorem qUq{s:CS}{dr cm r k:Nat}{cn:Str}(h:dueX s dr cm r k=some cn):cn="Clash:doors"\/cn="Clash:end"\/cn="Clash:taken":=by
 unfold dueX at h;split at h
 .cases h;exact .inl rfl
 .split at h
  .cases h;exact .inr (.inl rfl)
  .split at h
   .cases h;exact .inr (.inr rfl)
   .cases h
noncomputable def jK6:Sp3:=λxs G Q=>∃(a b c d:Addr)(s:CS)(kvs:Kvs)(dr cm r k k0:Nat)(cn y:Str),xs=[.ref a,.int (dr:Nat),.int (cm:Nat),.str (mkS r),.int (k:Nat)]/\ChAt G a b c d s kvs/\s.Ok/\r<24/\k<12/\cm<k/\s.ct[s.pl]? =some k0/\dr<k0/\dueX s dr cm r k=some cn/\jUb cn=some y/\∀G',Sub G G'->Q (.str y) G'
def qVa:List Str:=["_law_chart","_law_door","_law_came","_law_mark_here","_law_doors","_law_why","error"]
noncomputable def jY0:TS3:=
 (tSeq (tAsg (tC .non) M5)
 (tSeq (tTry 6 ["Clash:doors","Clash:end","Clash:taken"] (qKk (qKj "Chart" "went" jKa o0 (jJc o1 (jJc o2 (jJc o3 C4))))) (tAsg (tWhy o6) M5))
 (tRet o5)))
theorem kU4:RdOk jK6 jY0 qVa:=by
 intro xs G Q h_;apply xe13 h_;clear h_;intro a b c d s kvs dr cm r k k0 cn y;refine ae10 ?_;intro h o hr hk hcm hk0 hdr due hy kk;show jY0 _ [some (.ref a),some (.int (dr:Nat)),some (.int (cm:Nat)),some (.str (mkS r)),some (.int (k:Nat)),none,none] G
 exists jY0,tTry,qKk,qKj,tWhy
 refine⟨jQw h.obj,a,b,c,d,s,kvs,dr,cm,r,k,k0,rfl,h,o,hr,hk,hcm,hk0,hdr,λcn' z=>⟨?_,λx hx=>⟨cn',rfl,y,?_,kk _ (.new hx)⟩⟩,λz=>by rw[due] at z;cases z⟩
 .rcases qUq z with e | e | e<;>simp[e]
 .rw[due] at z;cases z;exact hy
theorem kX8{s:CS}{i d:Nat}{u:List Nat}{x:Nat}(o:s.Ok)(h:Least (Wc s) i x (d::u)):i<s.ms.length/\d<ctI s i/\∃e,s.E (rmI s i,d)=some e/\(rmI s i,d)≠e/\Least (Wc s) (s.ms.idxOf e.1) x u:=by
 obtain⟨y,j,e,ne,l⟩:=h.step;obtain⟨hi,hd,e'⟩:=jZ1 e;refine⟨hi,hd,?_⟩;unfold wcE at e';split at e'
 .cases e';exact absurd rfl ne
 .rename_i q hq
  cases e';refine⟨q,hq,λz=>ne ?_,l⟩
  rw[<-z];exact jX8 o.nd (kKl hi)
noncomputable def jK1:Sp3:=λxs G Q=>∃(W:Web)(a b c:Addr)(r g:Nat)(s:CS),xs=[encW W,.int (r:Nat),.ref a,.int (g:Nat)]/\AnyWeb W/\CX W G a b c r s/\g∈s.ms/\s.ms.idxOf g∈bfs (Wc s) s.pl/\∀(t:CS) G',CX W G' a b c g t->t.ms=s.ms->t.ct=s.ct->t.E=s.E->Kp [a,b,c] G G'->Q (.bl true) G'
def qJ3:List Str:=["_law_web_here","_law_room","_law_chart","_law_goal","_law_door","_law_came"]
noncomputable def jX3:TS3:=
 (tSeq (tFor (iSeq (jJ1 "Chart" "way_by" jKk o2 (jJc (jJq jJp C3) tNil))) M4 (tSeq (tAsg (tOp rIxF (tOp rIxF o0 o1) o4) (gTup 2 (jKd M1 (jKd M5 gNil))))
 (jQm (jV4 "Chart" "went" jKa RNo o2 (jJc o4 (jJc o5 (jJc (jJq jJp C1) (jJc (tCB rLen (jJc (tOp rIxF o0 o1) tNil)) tNil))))))))
 (tRet (qZt (tOp rEqA o1 o3) (tOp rEqA (jJ1 "Chart" "here" jKt o2 tNil) (jJq jJp C3)))))
theorem kQ2:RdOk jK1 jX3 qJ3:=by
 intro xs G Q h_;apply xe7 h_;clear h_;intro W a b c r g s;refine ae5 ?_;intro aw cx hm hbf kk;show jX3 _ [some (encW W),some (.int (r:Nat)),some (.ref a),some (.int (g:Nat)),none,none] G
 have hs:=sz;have hlen:=aw.len;obtain⟨d,kvs,ch,gx⟩:=id cx;have hg24:=gx.ok.lt _ hm
 exists jX3,jJ1,jJ7,iSeq,encW
 refine⟨jQw ch.obj,g,rfl,hg24,λG1 s1=> ?_⟩
 have ch1:ChAt G1 a b c d s kvs:=ch.sub λx u z _=>s1 x u z
 refine⟨a,b,c,d,s,kvs,g,rfl,ch1,gx.ok,hm,λw G2 wb s2=> ?_⟩
 cases w with
 | none=>exact absurd hbf wb
 | some w=>
  obtain⟨hb,hl,hwl⟩:=wb;have hwn:(jJm w).length=w.length:=by simp[jJm]
  refine⟨jJm w,rfl,?_⟩
  let J2:Nat->St3->Gp->Prop:=λj τ G'=>∃(rj:Nat)(t:CS)(v4 v5:Option T),τ=[some (.tup (W.map encR)),some (.int (rj:Nat)),some (.ref a),some (.int (g:Nat)),v4,v5]/\CX W G' a b c rj t/\t.ms=s.ms/\t.ct=s.ct/\t.E=s.E/\Kp [a,b,c] G G'/\Least (Wc s) t.pl (s.ms.idxOf g) (w.drop j)
  refine⟨J2,?_,?_,?_,?_⟩
  .exact⟨r,s,_,_,rfl,(cx.sub s1).sub s2,rfl,rfl,rfl,.sub (s1.trans s2),hl⟩
  .intros;trivial
  .intro j y τ G3 hy h_;apply xe4 h_;clear h_;intro rj t v4 v5;refine ae6 ?_;intro cxj h1 h2 h3 kp l;obtain⟨dd,hdd,rfl⟩:=jK4 hy;have z:j<w.length:=(lJe.mp hdd).1
   have hdr:w.drop j=dd::w.drop (j+1):=by
    rw[List.drop_eq_getElem_cons z]
    congr 1
    rw[lJh z] at hdd;exact lJn hdd
   rw[hdr] at l;obtain⟨dj,kvsj,chj,gj⟩:=id cxj;obtain⟨hi,hdl,e,he,hne,l'⟩:=kX8 gx.ok l
   have er:rmI s t.pl=rj:=by
    have:=gj.rpl;unfold rmI at this ⊢;rw[<-h1];exact this
   rw[er] at he hne;have hw:=gx.wX _ _ he hne;have hme:=gx.ok.e1 _ _ he;obtain⟨es,q1,q2⟩:=jKv hw;obtain⟨es',q3,q4⟩:=jKv (aw.sym _ _ e.1 e.2 hw);have hl1:=(lJe.mp q3).1;have hd6:=aw.deg _ _ q3;have heE:t.E (rj,dd)=some (e.1,e.2):=by rw[h3];exact he
   obtain⟨k1,k2,k3,k4⟩:=kZk gj (r':=e.1) (cc:=e.2) heE es'.length
   exists jQf q1,encR,kUf q2,encE,jV4
   refine⟨jQw chj.obj,e.1,rfl,by omega,λG4 s4=> ?_⟩
   have chj4:ChAt G4 a b c dj t kvsj:=chj.sub λx u z _=>s4 x u z
   exists jQf q3,encR,List.length_map
   have ct1:t.ct[t.pl]? =some es.length:=by
    obtain⟨es1,z1,z2⟩:=gj.ws _ _ gj.pl;rw[q1] at z1;cases z1;exact z2
   have ct2:t.ct[t.ms.idxOf e.1]? =some es'.length:=by
    obtain⟨es1,z1,z2⟩:=gj.ws _ _ (jQi (show e.1∈t.ms by rw[h1];exact hme))
    rw[q3] at z1;cases z1;exact z2
   have dn:dueX t dd e.2 e.1 es'.length=none:=kUj (λk' hk'=>by rw[ct2] at hk';exact (lJn hk').symm) (λx hx=>by rw[gj.at_,heE] at hx;exact (lJn hx).symm) λx hx=>by
    have:=gj.sy _ _ heE;rw[gj.at_];rw[show ((e.1,e.2):Nat×Nat)=e from rfl] at this hx
    rw[this] at hx;exact (lJn hx).symm
   refine⟨a,b,c,dj,t,kvsj,dd,e.2,e.1,es'.length,es.length,rfl,chj4,gj.ok,by omega,by omega,(lJe.mp q4).1,ct1,(lJe.mp q2).1,(λcn z=>by rw[dn] at z;cases z),λ_ d' kvs' G5 _ ch' kp'=> ?_⟩
   refine⟨e.1,goC t dd e.2 e.1 es'.length,_,_,rfl,⟨d',kvs',ch',?_⟩,k1.trans h1,k2.trans h2,k3.trans h3,(kp.trans (.sub s4)).trans kp',?_⟩
   .exact gj.of k1 k2 (by rw[k1,k4];exact jQi (by rw[h1];exact hme)) (λx y hx=> .inl (by rw[k3] at hx;exact hx)) λx y hx=>by rw[k3] at hx ⊢; exact gj.sy _ _ hx
   .rw[k4,h1];exact l'
  .intro τ G3 h_;apply xe4 h_;clear h_;intro rj t v4 v5;refine ae6 ?_;intro cxj h1 h2 h3 kp l;rw[hwn,lY1] at l;have hpl:t.pl=s.ms.idxOf g:=l.to;obtain⟨dj,kvsj,chj,gj⟩:=id cxj
   have er:rj=g:=by
    have:=gj.pl;rw[h1,hpl,jQi hm] at this
    (exact (lJn this).symm)
   subst er
   exists jJ1,rEqA
   refine⟨_,jXj (a:=rj) (c:=rj),?_⟩;rw[lJc (lKa rfl)];refine⟨jQw chj.obj,a,b,c,dj,t,kvsj,rfl,chj,gj.ok,rj,rfl,hg24,λG4 s4=>⟨true,?_,kk t G4 (cxj.sub s4) h1 h2 h3 (kp.trans (.sub s4))⟩⟩
   rw[gj.at_];exact uUq hg24
def Kd(S:List Addr)(G G':Gp):Prop:=∀x o,x∉S->(∀k,o≠ .dct k)->G x=some o->G' x=some o
theorem Kd.trans{S:List Addr}{G G1 G2:Gp}(h:Kd S G G1)(h':Kd S G1 G2):Kd S G G2:=λx o hx hd e=>h' x o hx hd (h x o hx hd e)
theorem Kd.kp{S S':List Addr}{G G':Gp}(h:Kp S G G')(i:∀x,x∈S->x∈S'):Kd S' G G':=λx o hx _ e=>h x o (λz=>hx (i x z)) e
theorem Kd.sub{S:List Addr}{G G':Gp}(h:Sub G G'):Kd S G G':=λx o _ _ e=>h x o e
theorem Kd.keep{S:List Addr}{b:Addr}{G G':Gp}(h:Keep b G G')(i:b∈S):Kd S G G':=λx o hx _ e=>h x o (λz=>hx (z▸i)) e
theorem Kd.dct{S:List Addr}{d:Addr}{k:Kvs}{G G':Gp}(h:Kp [d] G G')(hd:G d=some (.dct k)):Kd S G G':=λx o _ ho e=>h x o (λz=>by
 rw[lJ5.mp z,hd] at e;cases e;exact ho _ rfl) e
theorem Kd.box{S:List Addr}{b:Addr}{n:Nat}{G G':Gp}(h:Kd S G G')(hb:BoxAt G b n)(i:b∉S):BoxAt G' b n:=by
 obtain⟨x,y,z,h1,h2⟩:=hb;exact⟨x,y,z,h b _ i (λk e=>by cases e) h1,h2⟩
theorem CA.keep{W:Web}{G G':Gp}{a b c bx:Addr}{r:Nat}{s:CS}{n:Nat}(h:CA W G a b c r s)(hb:BoxAt G bx n)(ne:bx∉[a,b,c])(k:Keep bx G G'):CA W G' a b c r s:=by
 obtain⟨d,kvs,ch,g⟩:=h;obtain⟨x,y,z,h1,_⟩:=hb;have nd:d≠bx:=λe=>by rw[<-e,ch.ld] at h1;cases h1
 refine⟨d,kvs,ch.sub λu o e q=>k u o (λz=> ?_) e,g⟩
 rcases q with q | q | q | q
 .exact ne (by rw[<-z,q];simp)
 .exact ne (by rw[<-z,q];simp)
 .exact ne (by rw[<-z,q];simp)
 .exact nd (by rw[<-q,z])
def kKg:List Str:=["_law_box_here","_law_web_here","_law_room","_law_chart","_law_some","_law_one","_law_other","_law_told","_law_spot","_law_pair"]
noncomputable def jQ8:TS3:=
 (tSeq (tAsg (jQx [fF,fF,fF,fF,fF,fF,fF,fF,fF,tT] (iSeq (jJq jU5 C1)) M9 (jJv (tOp rNeA (tOp rIxF o9 tI0) (tOp rIxF o9 tI1))) o9) M4)
 (tSeq (tIfS (jJv (tOp rEqA o4 (tLst tNil))) (tRet (tC (.bl true))) jJ5)
 (tSeq (tAsg (tOp rIxF o4 (jJq jJx (jJc o0 (jJc (tCB rLen C4) tNil)))) (gTup 2 (jKd M5 (jKd M6 gNil))))
 (tSeq (tIfS (jJv (tOp rEqA (jJq jJx (jJc o0 (jJc tI2 tNil))) tI0)) (tPar 5 6 (jJc o6 C5)) jJ5)
 (tSeq (tIfS (tNot (jJv (jJq jK1 (jJc o1 (jJc o2 (jJc o3 (jJc (tOp rIxF o5 tI0) tNil))))))) (tRet (tC (.bl false))) jJ5)
 (tSeq (jQm (jJ1 "Chart" "forget" jJ3 o3 (jJc (jJq jJp (jJc (tOp rIxF o6 tI0) tNil)) (jJc (tOp rIxF o6 tI1) tNil))))
 (tSeq (jQm (jV4 "Chart" "went" jKa RNo o3 (jJc (tOp rIxF o5 tI1) (jJc (tOp rIxF o5 tI1) (jJc (jJq jJp (jJc (tOp rIxF o5 tI0) tNil)) (jJc (tCB rLen (jJc (tOp rIxF o1 (tOp rIxF o5 tI0)) tNil)) tNil))))))
 (tSeq (tAsg (jJ1 "Chart" "sketch" jJu o3 tNil) M7)
 (tSeq (tIfS (jJv (tOp rNeA (jJq jK6 (jJc o3 (jJc (tOp rIxF o5 tI1) (jJc (tOp rIxF o6 tI1) (jJc (jJq jJp (jJc (tOp rIxF o6 tI0) tNil)) (jJc (tCB rLen (jJc (tOp rIxF o1 (tOp rIxF o6 tI0)) tNil)) tNil)))))) (tC (.str (PySem.Str.ofString "end"))))) (tRet (tC (.bl false))) jJ5)
 (tSeq (tIfS (tAnd (jJv (tOp jZh (jJ1 "Chart" "way_by" jKk o3 (jJc (jJq jJp (jJc (tOp rIxF o6 tI0) tNil)) tNil)) (tC .non))) (jJv (tOp rNeA (tOp rIxF o5 tI0) (tOp rIxF o6 tI0)))) (tSeq (tIfS (tNot (jJv (jJq jK1 (jJc o1 (jJc (tOp rIxF o5 tI0) (jJc o3 (jJc (tOp rIxF o6 tI0) tNil))))))) (tRet (tC (.bl false))) jJ5)
 (tIfS (jJv (tOp rNeA (jJq jK6 (jJc o3 (jJc (tOp rIxF o6 tI1) (jJc (tOp rIxF o5 tI1) (jJc (jJq jJp (jJc (tOp rIxF o5 tI0) tNil)) (jJc (tCB rLen (jJc (tOp rIxF o1 (tOp rIxF o5 tI0)) tNil)) tNil)))))) (tC (.str (PySem.Str.ofString "taken"))))) (tRet (tC (.bl false))) jJ5)) jJ5)
 (tSeq (tIfS (jJv (tOp rNeA (jJ1 "Chart" "sketch" jJu o3 tNil) o7)) (tRet (tC (.bl false))) jJ5)
 (tSeq (tAsg (tOp rIxF (jQx [fF,fF,tT,fF,fF,fF,fF,fF,fF,fF] (jK9 (jJc (tCB rLen C1) tNil)) M2 (jJv (tOp rEqA (jJq jJp C2) (jJ1 "Chart" "here" jKt o3 tNil))) o2) tI0) M8)
 (tSeq (jQm (jJ1 "Chart" "forget" jJ3 o3 (jJc (jJq jJp (jJc (tOp rIxF o5 tI0) tNil)) (jJc (tOp rIxF o5 tI1) tNil))))
 (tRet (tOp jZh (jJq jQb (jJc o1 (jJc o8 C3))) (tC .non))))))))))))))))
noncomputable def qK3:TS3:=(tSeq (tIfS (tNot (jJv (jJq jK1 (jJc o1 (jJc o2 (jJc o3 (jJc (tOp rIxF o5 tI0) tNil))))))) (tRet (tC (.bl false))) jJ5)
 (tSeq (jQm (jJ1 "Chart" "forget" jJ3 o3 (jJc (jJq jJp (jJc (tOp rIxF o6 tI0) tNil)) (jJc (tOp rIxF o6 tI1) tNil))))
 (tSeq (jQm (jV4 "Chart" "went" jKa RNo o3 (jJc (tOp rIxF o5 tI1) (jJc (tOp rIxF o5 tI1) (jJc (jJq jJp (jJc (tOp rIxF o5 tI0) tNil)) (jJc (tCB rLen (jJc (tOp rIxF o1 (tOp rIxF o5 tI0)) tNil)) tNil))))))
 (tSeq (tAsg (jJ1 "Chart" "sketch" jJu o3 tNil) M7)
 (tSeq (tIfS (jJv (tOp rNeA (jJq jK6 (jJc o3 (jJc (tOp rIxF o5 tI1) (jJc (tOp rIxF o6 tI1) (jJc (jJq jJp (jJc (tOp rIxF o6 tI0) tNil)) (jJc (tCB rLen (jJc (tOp rIxF o1 (tOp rIxF o6 tI0)) tNil)) tNil)))))) (tC (.str (PySem.Str.ofString "end"))))) (tRet (tC (.bl false))) jJ5)
 (tSeq (tIfS (tAnd (jJv (tOp jZh (jJ1 "Chart" "way_by" jKk o3 (jJc (jJq jJp (jJc (tOp rIxF o6 tI0) tNil)) tNil)) (tC .non))) (jJv (tOp rNeA (tOp rIxF o5 tI0) (tOp rIxF o6 tI0)))) (tSeq (tIfS (tNot (jJv (jJq jK1 (jJc o1 (jJc (tOp rIxF o5 tI0) (jJc o3 (jJc (tOp rIxF o6 tI0) tNil))))))) (tRet (tC (.bl false))) jJ5)
 (tIfS (jJv (tOp rNeA (jJq jK6 (jJc o3 (jJc (tOp rIxF o6 tI1) (jJc (tOp rIxF o5 tI1) (jJc (jJq jJp (jJc (tOp rIxF o5 tI0) tNil)) (jJc (tCB rLen (jJc (tOp rIxF o1 (tOp rIxF o5 tI0)) tNil)) tNil)))))) (tC (.str (PySem.Str.ofString "taken"))))) (tRet (tC (.bl false))) jJ5)) jJ5)
 (tSeq (tIfS (jJv (tOp rNeA (jJ1 "Chart" "sketch" jJu o3 tNil) o7)) (tRet (tC (.bl false))) jJ5)
 (tSeq (tAsg (tOp rIxF (jQx [fF,fF,tT,fF,fF,fF,fF,fF,fF,fF] (jK9 (jJc (tCB rLen C1) tNil)) M2 (jJv (tOp rEqA (jJq jJp C2) (jJ1 "Chart" "here" jKt o3 tNil))) o2) tI0) M8)
 (tSeq (jQm (jJ1 "Chart" "forget" jJ3 o3 (jJc (jJq jJp (jJc (tOp rIxF o5 tI0) tNil)) (jJc (tOp rIxF o5 tI1) tNil))))
 (tRet (tOp jZh (jJq jQb (jJc o1 (jJc o8 C3))) (tC .non))))))))))))
noncomputable def qK1:TS3:=(tSeq (tIfS (tAnd (jJv (tOp jZh (jJ1 "Chart" "way_by" jKk o3 (jJc (jJq jJp (jJc (tOp rIxF o6 tI0) tNil)) tNil)) (tC .non))) (jJv (tOp rNeA (tOp rIxF o5 tI0) (tOp rIxF o6 tI0)))) (tSeq (tIfS (tNot (jJv (jJq jK1 (jJc o1 (jJc (tOp rIxF o5 tI0) (jJc o3 (jJc (tOp rIxF o6 tI0) tNil))))))) (tRet (tC (.bl false))) jJ5)
 (tIfS (jJv (tOp rNeA (jJq jK6 (jJc o3 (jJc (tOp rIxF o6 tI1) (jJc (tOp rIxF o5 tI1) (jJc (jJq jJp (jJc (tOp rIxF o5 tI0) tNil)) (jJc (tCB rLen (jJc (tOp rIxF o1 (tOp rIxF o5 tI0)) tNil)) tNil)))))) (tC (.str (PySem.Str.ofString "taken"))))) (tRet (tC (.bl false))) jJ5)) jJ5)
 (tSeq (tIfS (jJv (tOp rNeA (jJ1 "Chart" "sketch" jJu o3 tNil) o7)) (tRet (tC (.bl false))) jJ5)
 (tSeq (tAsg (tOp rIxF (jQx [fF,fF,tT,fF,fF,fF,fF,fF,fF,fF] (jK9 (jJc (tCB rLen C1) tNil)) M2 (jJv (tOp rEqA (jJq jJp C2) (jJ1 "Chart" "here" jKt o3 tNil))) o2) tI0) M8)
 (tSeq (jQm (jJ1 "Chart" "forget" jJ3 o3 (jJc (jJq jJp (jJc (tOp rIxF o5 tI0) tNil)) (jJc (tOp rIxF o5 tI1) tNil))))
 (tRet (tOp jZh (jJq jQb (jJc o1 (jJc o8 C3))) (tC .non)))))))
noncomputable def kY2:TS3:=(tSeq (tIfS (jJv (tOp rNeA (jJ1 "Chart" "sketch" jJu o3 tNil) o7)) (tRet (tC (.bl false))) jJ5)
 (tSeq (tAsg (tOp rIxF (jQx [fF,fF,tT,fF,fF,fF,fF,fF,fF,fF] (jK9 (jJc (tCB rLen C1) tNil)) M2 (jJv (tOp rEqA (jJq jJp C2) (jJ1 "Chart" "here" jKt o3 tNil))) o2) tI0) M8)
 (tSeq (jQm (jJ1 "Chart" "forget" jJ3 o3 (jJc (jJq jJp (jJc (tOp rIxF o5 tI0) tNil)) (jJc (tOp rIxF o5 tI1) tNil))))
 (tRet (tOp jZh (jJq jQb (jJc o1 (jJc o8 C3))) (tC .non))))))
theorem qV1:jQ8=tSeq (tAsg (jQx [fF,fF,fF,fF,fF,fF,fF,fF,fF,tT] (iSeq (jJq jU5 C1)) M9 (jJv (tOp rNeA (tOp rIxF o9 tI0) (tOp rIxF o9 tI1))) o9) M4) (tSeq (tIfS (jJv (tOp rEqA o4 (tLst tNil))) (tRet (tC (.bl true))) jJ5) (tSeq (tAsg (tOp rIxF o4 (jJq jJx (jJc o0 (jJc (tCB rLen C4) tNil)))) (gTup 2 (jKd M5 (jKd M6 gNil)))) (tSeq (tIfS (jJv (tOp rEqA (jJq jJx (jJc o0 (jJc tI2 tNil))) tI0)) (tPar 5 6 (jJc o6 C5)) jJ5) qK3))):=rfl
theorem qK2:qK3=tSeq (tIfS (tNot (jJv (jJq jK1 (jJc o1 (jJc o2 (jJc o3 (jJc (tOp rIxF o5 tI0) tNil))))))) (tRet (tC (.bl false))) jJ5) (tSeq (jQm (jJ1 "Chart" "forget" jJ3 o3 (jJc (jJq jJp (jJc (tOp rIxF o6 tI0) tNil)) (jJc (tOp rIxF o6 tI1) tNil)))) (tSeq (jQm (jV4 "Chart" "went" jKa RNo o3 (jJc (tOp rIxF o5 tI1) (jJc (tOp rIxF o5 tI1) (jJc (jJq jJp (jJc (tOp rIxF o5 tI0) tNil)) (jJc (tCB rLen (jJc (tOp rIxF o1 (tOp rIxF o5 tI0)) tNil)) tNil)))))) (tSeq (tAsg (jJ1 "Chart" "sketch" jJu o3 tNil) M7) (tSeq (tIfS (jJv (tOp rNeA (jJq jK6 (jJc o3 (jJc (tOp rIxF o5 tI1) (jJc (tOp rIxF o6 tI1) (jJc (jJq jJp (jJc (tOp rIxF o6 tI0) tNil)) (jJc (tCB rLen (jJc (tOp rIxF o1 (tOp rIxF o6 tI0)) tNil)) tNil)))))) (tC (.str (PySem.Str.ofString "end"))))) (tRet (tC (.bl false))) jJ5) qK1)))):=rfl
theorem qK0:qK1=tSeq (tIfS (tAnd (jJv (tOp jZh (jJ1 "Chart" "way_by" jKk o3 (jJc (jJq jJp (jJc (tOp rIxF o6 tI0) tNil)) tNil)) (tC .non))) (jJv (tOp rNeA (tOp rIxF o5 tI0) (tOp rIxF o6 tI0)))) (tSeq (tIfS (tNot (jJv (jJq jK1 (jJc o1 (jJc (tOp rIxF o5 tI0) (jJc o3 (jJc (tOp rIxF o6 tI0) tNil))))))) (tRet (tC (.bl false))) jJ5)
 (tIfS (jJv (tOp rNeA (jJq jK6 (jJc o3 (jJc (tOp rIxF o6 tI1) (jJc (tOp rIxF o5 tI1) (jJc (jJq jJp (jJc (tOp rIxF o5 tI0) tNil)) (jJc (tCB rLen (jJc (tOp rIxF o1 (tOp rIxF o5 tI0)) tNil)) tNil)))))) (tC (.str (PySem.Str.ofString "taken"))))) (tRet (tC (.bl false))) jJ5)) jJ5) kY2:=rfl
def Done(W:Web)(G:Gp)(a b c:Addr)(s:CS)(Q:VK3):Prop:=∀(r':Nat)(t:CS) G',CA W G' a b c r' t->t.ms=s.ms->t.ct=s.ct->t.E=s.E->Kd [a,b,c] G G'->Q (.bl true) G'
theorem jVb{b P R:Prop}[Decidable b](h:¬ b)(k:R):if b then P else R:=by rw[lJb h];exact k
theorem jX9{b P R:Prop}[Decidable b](h:b)(k:P):if b then P else R:=by rw[lJc h];exact k
theorem qUj{G:Gp}{r r':Nat}(h:r<24)(h':r'<24):eqG G (.str (mkS r)) (.str (mkS r'))=some (decide (r=r')):=by
 have e:∀{r:Nat},r<24->eqOk (.str (mkS r))=true:=λ{r} h=>by
  unfold eqOk;rw[show tree (.str (mkS r))=true from rfl,lQn.mp qQt r (lJ3.mpr h),lKa (by simp[td,PyData.depth])];rfl
 show (if eqOk (.str (mkS r))=true/\eqOk (.str (mkS r'))=true then some (eqT (.str (mkS r)) (.str (mkS r'))) else none)=_
 rw[lJc ⟨e h,e h'⟩,qYc h h']
theorem kZq{G:Gp}{s:CS}:eqG G (skT s) (skT s)=some true:=kZr (uQ1 s) (by decide) λp z=>by cases z
theorem qY9{n r:Nat}(h:r<n):((List.range n).filterMap λx=>if x=r then some (T.int (x:Nat)) else none)=[.int (r:Nat)]:=by
 induction n with
 | zero=>omega
 | succ n ih=>
  rw[lKn,lK9]
  by_cases z:n=r
  .subst z;rw[List.filterMap_eq_nil_iff.mpr λx hx=>lJb (by have:=lJ3.mp hx;omega)]
   simp
  .rw[ih (by omega)];simp[z]
theorem din{W:Web}{s u:CS}{p q:Nat×Nat}{r:Nat}(w:AnyWeb W)(g:Gx W s r)(h1:u.ms=s.ms)(h2:u.ct=s.ct)(he:en W p.1 p.2=some q)(hm:p.1∈s.ms):∃es,W[p.1]? =some es/\u.ct[u.ms.idxOf p.1]? =some es.length/\p.2<es.length/\es.length<12/\p.2<ctI u (u.ms.idxOf p.1):=by
 obtain⟨es,e1,e2⟩:=jKv he;have e3:=uU1 g hm e1;have e4:=(lJe.mp e2).1;have:=w.deg _ _ e1;rw[<-h1,<-h2] at e3;refine⟨es,e1,e3,e4,by omega,?_⟩
 unfold ctI;rw[lK0,e3];exact e4
theorem uJ9{G:Gp}{x:Str}(h:(td (.str x)).canLay0=true):eqG G (.str x) (.str x)=some true:=kZr (d:=0) ⟨rfl,h,by simp[td,PyData.depth],by simp[eqT]⟩ (by decide) λp z=>by cases z
theorem qY0{W:Web}{s u:CS}{p q:Nat×Nat}{G:Gp}{Q:VK3}{a b c:Addr}{r ru:Nat}{v0 v2 v4 v8:Option T}(w:Wr W s p q)(g:Grown W s r)(cx:CX W G a b c ru u)(h1:u.ms=s.ms)(h2:u.ct=s.ct)(h3:u.E=e3 s p q)(hr:ru=p.1\/ru=q.1)(kk:Done W G a b c s Q):
  kY2 {nx:=λ_ G'=>Q .non G',rt:=Q} [v0,some (encW W),v2,some (.ref a),v4,some (encE p),some (encE q),some (skT u),v8,none] G:=by
 have hs:=sz;have hlen:=w.aw.len;obtain⟨d,kvs,ch,gx⟩:=id cx;have hru:ru<W.length:=by rcases hr with rfl | rfl;exact jUf w.he;exact jUf w.hq
 have hp:=gx.pl
 exists kY2,jJ1,rNeA,jK9,encW,encE,List.length_map
 refine⟨jQw ch.obj,a,b,c,d,u,kvs,rfl,ch,gx.ok,λG1 s1=>⟨true,kZq,?_⟩⟩
 have ch1:ChAt G1 a b c d u kvs:=ch.sub λx o z _=>s1 x o z
 rw[lJb (by simp)]
 refine⟨by omega,by omega,?_⟩
 rw[show ((W.length:Nat):Int).toNat=W.length by omega,jQt]
 refine jUt (λx=>if x=ru then some (T.int (x:Nat)) else none) (by simp;omega) (λ_ _=>trivial) ?_ ?_
 .intro i x hx G2 K K0 s2 hK hK0;obtain⟨hj,rfl⟩:=jVi hx;have ch2:ChAt G2 a b c d u kvs:=ch1.sub λx o z _=>s2 x o z
  exists jJ1,rEqA
  refine⟨_,rfl,by omega,λG3 s3=> ?_⟩
  have ch3:ChAt G3 a b c d u kvs:=ch2.sub λx o z _=>s3 x o z
  refine⟨jQw ch3.obj,a,b,c,d,u,kvs,rfl,ch3,gx.ok,decide (i=ru),?_,?_⟩
  .rw[gx.at_];exact qUj (by omega) (by omega)
  .by_cases z:i=ru
   .rw[lKa z,lJc rfl];exact hK _ G3 (lJc z) s3
   .rw[lJo z,lJb (by simp)]
    exact hK0 (lJb z) G3 s3
 .intro D G2 hD hD2 s2;rw[qY9 hru] at hD2;have ch2:ChAt G2 a b c d u kvs:=ch1.sub λx o z _=>s2 x o z
  refine⟨_,by rw[jKp hD2];rfl,jQw ch2.obj,p.1,rfl,by have:=jUf w.he;omega,λG3 s3=> ?_⟩
  have ch3:ChAt G3 a b c d u kvs:=ch2.sub λx o z _=>s3 x o z
  obtain⟨es,_,_,_,_,hdl⟩:=din w.aw g.toGx h1 h2 w.he w.mp;refine⟨a,b,c,d,u,kvs,p.1,p.2,rfl,ch3,gx.ok,by rw[h1];exact w.mp,hdl,λkvs' G4 ch4 kp4=> ?_⟩
  have e5':(fgC u p).E=e5 s p q:=fg_p w h3;have gt:Grown W (fgC u p) ru:=gr5 w g h1 h2 e5' hp;refine⟨W,a,b,c,ru,fgC u p,rfl,w.aw,⟨d,kvs',ch4,gt⟩,λr' k t G5 cat nw ext pr kp5=> ?_⟩
  obtain⟨dt,kt,cht,gtt⟩:=id cat;obtain⟨f1,f2,f3⟩:=e6 (t:=fgC u p) w g h1 h2 e5' gt gtt nw ext pr hr;simp only[Bool.not_false];exact kk r' t G5 cat f1 f2 f3 (((Kd.sub ((s1.trans s2).trans s3)).trans (.dct kp4 ch3.ld)).trans (.kp kp5 λ_ h=>h))
theorem uKy{W:Web}{s u:CS}{p q:Nat×Nat}{G:Gp}{Q:VK3}{a b c:Addr}{r:Nat}{v0 v2 v4 v8:Option T}(w:Wr W s p q)(g:Grown W s r)(cx:CX W G a b c p.1 u)(h1:u.ms=s.ms)(h2:u.ct=s.ct)(h3:u.E=e3 s p q)(kk:Done W G a b c s Q):
  qK1 {nx:=λ_ G'=>Q .non G',rt:=Q} [v0,some (encW W),v2,some (.ref a),v4,some (encE p),some (encE q),some (skT u),v8,none] G:=by
 have hs:=sz;have hlen:=w.aw.len;obtain⟨d,kvs,ch,gx⟩:=id cx;have hp24:=jUf w.he;have hq24:=jUf w.hq
 have fin:∀G',Sub G G'->kY2 {nx:=λ_ G'=>Q .non G',rt:=Q} [v0,some (encW W),v2,some (.ref a),v4,some (encE p),some (encE q),some (skT u),v8,none] G':=λG' s'=>
  qY0 w g (cx.sub s') h1 h2 h3 (.inl rfl) λr' t G2 f1 f2 f3 f4 f5=>kk r' t G2 f1 f2 f3 f4 ((Kd.sub s').trans f5)
 rw[qK0]
 exists jJ1,rNeA,encE
 refine⟨jQw ch.obj,q.1,rfl,by omega,λG1 s1=> ?_⟩
 have ch1:ChAt G1 a b c d u kvs:=ch.sub λx o z _=>s1 x o z
 refine⟨a,b,c,d,u,kvs,q.1,rfl,ch1,gx.ok,by rw[h1];exact w.mq,λwy G2 wb s2=> ?_⟩
 have s12:=s1.trans s2;cases wy with
 | none=>
  exact jVb (show ¬ (true=false) by simp) (fin G2 s12)
 | some wy=>
  refine jX9 (show false=false from rfl) ⟨_,jXj (a:=p.1) (c:=q.1),?_⟩
  by_cases z:p.1=q.1
  .rw[lKa z,lJb (by simp)]
   exact fin G2 s12
  .rw[lJo z,lJc rfl];refine⟨W,a,b,c,p.1,q.1,u,rfl,w.aw,cx.sub s12,by rw[h1];exact w.mq,wb.1,λt G3 cxt f1 f2 f3 kp3=>⟨true,rfl,?_⟩⟩
   rw[lJb (by simp)]
   obtain⟨dt,kt,cht,gt⟩:=id cxt;have g1:=f1.trans h1;have g2:=f2.trans h2;have g3:=f3.trans h3;obtain⟨esp,w1,w2,w3,w4,_⟩:=din w.aw g.toGx g1 g2 w.he w.mp;obtain⟨esq,y1,y2,y3,y4,_⟩:=din w.aw g.toGx g1 g2 w.hq w.mq;refine⟨p.1,rfl,by omega,λG4 s4=>⟨_,jQf w1,_,rfl,?_⟩⟩
   have ch4:ChAt G4 a b c dt t kt:=cht.sub λx o z _=>s4 x o z
   have ep:t.E (p.1,p.2)=some p:=by rw[g3];exact lJc rfl
   have eq:t.E (q.1,q.2)=none:=by
    rw[g3];unfold e3;rw[lJb (show (q.1,q.2)≠p from λz=>w.ne z.symm),lJc rfl]
   have due:dueX t q.2 p.2 p.1 esp.length=some ("Clash:taken":Str):=by
    unfold dueX;rw[gt.at_,w2,ep,eq,lJb (by simp),lJb (by simp),lJc (show (some p).getD (q.1,q.2)≠(q.1,q.2) from w.ne)]
   have cq:t.ct[t.pl]? =some esq.length:=by
    have:=gt.pl;rw[jX8 gt.ok.nd this] at y2;exact y2
   simp only[lJf];refine⟨a,b,c,dt,t,kt,q.2,p.2,p.1,esp.length,esq.length,_,_,rfl,ch4,gt.ok,by omega,w4,w3,cq,y3,due,wy2,λG5 s5=>⟨true,uJ9 (by decide +kernel),?_⟩⟩
   rw[lJb (by simp),kXl f1.symm f2.symm f3.symm]
   exact qY0 w g ((cxt.sub s4).sub s5) g1 g2 g3 (.inr rfl) λr' t' G6 k1 k2 k3 k4 k5=>kk r' t' G6 k1 k2 k3 k4 ((((Kd.sub s12).trans (.kp kp3 λ_ h=>h)).trans (.sub (s4.trans s5))).trans k5)
theorem qY1{W:Web}{s:CS}{p q:Nat×Nat}{G:Gp}{Q:VK3}{a b c:Addr}{r:Nat}{v0 v4 v7 v8:Option T}(w:Wr W s p q)(cn:Conn (Wc s))(ca:CA W G a b c r s)(kk:Done W G a b c s Q):
  qK3 {nx:=λ_ G'=>Q .non G',rt:=Q} [v0,some (encW W),some (.int (r:Nat)),some (.ref a),v4,some (encE p),some (encE q),v7,v8,none] G:=by
 have hs:=sz;have hlen:=w.aw.len;obtain⟨d,kvs,ch,g⟩:=id ca;have hp24:=jUf w.he;have hq24:=jUf w.hq;rw[qK2]
 exists jJ1,jV4,rNeA,encE
 refine⟨W,a,b,c,r,p.1,s,rfl,w.aw,⟨d,kvs,ch,g.toGx⟩,w.mp,g.all cn (kUd w.mp),λt G1 cx1 h1 h2 h3 kp1=>⟨true,rfl,?_⟩⟩
 rw[lJb (by simp)]
 obtain⟨d1,k1,ch1,g1⟩:=id cx1;refine⟨jQw ch1.obj,q.1,rfl,by omega,λG2 s2=> ?_⟩
 have ch2:ChAt G2 a b c d1 t k1:=ch1.sub λx o z _=>s2 x o z
 obtain⟨esq,y1,y2,y3,y4,y5⟩:=din w.aw g.toGx h1 h2 w.hq w.mq;obtain⟨esp,w1,w2,w3,w4,w5⟩:=din w.aw g.toGx h1 h2 w.he w.mp;refine⟨a,b,c,d1,t,k1,q.1,q.2,rfl,ch2,g1.ok,by rw[h1];exact w.mq,y5,λk3 G3 ch3 kp3=> ?_⟩
 have hE:(fgC t q).E=e5 s p q:=by
  show fgE t.E q=_
  rw[h3];exact fg_q w
 have g3:Grown W (fgC t q) p.1:=gr5 w g h1 h2 hE g1.pl;have ep:(fgC t q).E (p.1,p.2)=none:=by rw[hE];exact lJc rfl
 refine⟨jQw ch3.obj,p.1,rfl,by omega,λG4 s4=>⟨_,jQf w1,_,rfl,?_⟩⟩
 have ch4:ChAt G4 a b c d1 (fgC t q) k3:=ch3.sub λx o z _=>s4 x o z
 have due:dueX (fgC t q) p.2 p.2 p.1 esp.length=none:=kUj (λk' hk'=>by rw[show (fgC t q).ct[(fgC t q).ms.idxOf p.1]? =some esp.length from w2] at hk';exact (lJn hk').symm) (λe he=>by rw[g3.at_,ep] at he;cases he) λe he=>by rw[ep] at he;cases he
 have cq:(fgC t q).ct[(fgC t q).pl]? =some esp.length:=by
  have:=g3.pl;have e:(fgC t q).ms.idxOf p.1=(fgC t q).pl:=jX8 g3.ok.nd this;rw[<-e];exact w2
 simp only[lJf];refine⟨a,b,c,d1,fgC t q,k3,p.2,p.2,p.1,esp.length,esp.length,rfl,ch4,g3.ok,by omega,w4,w3,cq,w3,(λcn z=>by rw[due] at z;cases z),λ_ d5 k5 G5 _ ch5 kp5=> ?_⟩
 have hm:p.1∈(fgC t q).ms:=by show p.1∈t.ms;rw[h1];exact w.mp
 generalize hu:goC (fgC t q) p.2 p.2 p.1 esp.length=u at ch5
 have u1:u.ms=s.ms:=by
  rw[<-hu];show addR (fgC t q).ms p.1=_
  unfold addR;rw[lJc hm];exact h1
 have u2:u.ct=s.ct:=by
  rw[<-hu];show addC (fgC t q).ms (fgC t q).ct p.1 _=_
  unfold addC;rw[lJc hm];exact h2
 have u3:u.E=e3 s p q:=by
  rw[<-hu];show tieE (fgC t q).E ((fgC t q).at_,p.2) (p.1,p.2)=_
  rw[g3.at_,hE]
  funext x
  unfold tieE e3 e5
  by_cases z:x=p
  .rw[lJc z,lJc z]
  .rw[lJb z,lJb z,lJb z,lJb z]
 have up:u.ms[u.pl]? =some p.1:=by
  rw[u1,<-hu];show s.ms[(fgC t q).ms.idxOf p.1]? =_
  rw[show (fgC t q).ms=s.ms from h1];exact jQi w.mp
 have g5:Gx W u p.1:=gx3 w g.toGx u1 u2 u3 up;refine⟨jQw ch5.obj,a,b,c,d5,u,k5,rfl,ch5,g5.ok,λG6 s6=>⟨q.1,rfl,by omega,λG7 s7=>⟨_,jQf y1,_,rfl,?_⟩⟩⟩
 have ch7:ChAt G7 a b c d5 u k5:=ch5.sub λx o z _=>s7 x o (s6 x o z)
 obtain⟨esq',y1',z2,z3,z4,_⟩:=din w.aw g.toGx u1 u2 w.hq w.mq;rw[y1] at y1';cases y1';obtain⟨esp',w1',x2,x3,x4,_⟩:=din w.aw g.toGx u1 u2 w.he w.mp;rw[w1] at w1';cases w1'
 have due2:dueX u p.2 q.2 q.1 esq.length=some ("Clash:end":Str):=by
  unfold dueX;rw[g5.at_,z2,show u.E (p.1,p.2)=some p by rw[u3];exact lJc rfl,lJb (by simp),lJc (show (some p).getD (q.1,q.2)≠(q.1,q.2) from w.ne)]
 have cq5:u.ct[u.pl]? =some esp.length:=by
  rw[jX8 g5.ok.nd up] at x2;exact x2
 simp only[lJf];refine⟨a,b,c,d5,u,k5,p.2,q.2,q.1,esq.length,esp.length,_,_,rfl,ch7,g5.ok,by omega,z4,z3,cq5,x3,due2,wy1,λG8 s8=>⟨true,uJ9 (by decide +kernel),?_⟩⟩
 rw[lJb (by simp)]
 have s68:=(s6.trans s7).trans s8;exact uKy w g ⟨d5,k5,ch7.sub λx o z _=>s8 x o z,g5⟩ u1 u2 u3 λr' t' G9 k1 k2 k3 k4 k5'=>kk r' t' G9 k1 k2 k3 k4 ((((((Kd.kp kp1 λ_ h=>h).trans (.sub s2)).trans (.dct kp3 ch2.ld)).trans (.sub s4)).trans (.kp kp5 λ_ h=>h)).trans ((Kd.sub s68).trans k5'))
noncomputable def jQ7:Sp3:=λxs G Q=>∃(W:Web)(bx a b c:Addr)(r n:Nat)(s:CS),xs=[.ref bx,encW W,.int (r:Nat),.ref a]/\AnyWeb W/\BoxAt G bx n/\n+2<2^40/\bx∉[a,b,c]/\CA W G a b c r s/\Conn (Wc s)/\jYd s none/\∀(r':Nat)(t:CS) G',CA W G' a b c r' t->t.ms=s.ms->t.ct=s.ct->t.E=s.E->Kd [bx,a,b,c] G G'->Q (.bl true) G'
theorem uKa{G:Gp}{p q:Addr}{xs:List T}{d:Nat}(hp:G p=some (.lst xs))(hq:G q=some (.lst []))(h:∀x,x∈xs->OkD d x)(hd:d<50):eqG G (.ref p) (.ref q)=some (decide (xs=[])):=by
 obtain⟨a1,a2,a3,_⟩:=kX2 xs h
 have e:kJ5 xs=true:=by
  unfold kJ5;rw[a1,a2,lKa (show (PyData.list (tds xs)).depth<=50 by rw[PyData.depth];omega)];rfl
 have e0:kJ5 []=true:=by simp[kJ5,jQv,tds,PyData.canLayAll0,PyData.depth,PyData.depthAll]
 simp only[eqG,hp,hq];rw[lJc ⟨e,e0⟩];cases xs<;>simp[eqTs]
theorem qYa{α:Type}{P:α->Prop}[DecidablePred P]{f:α->T}(L:List α):(L.filterMap λx=>if P x then some (f x) else none)=(L.filter λx=>decide (P x)).map f:=by
 induction L with
 | nil=>rfl
 | cons x L ih=>by_cases z:P x<;>simp[z,ih]
theorem jYj:RdOk jQ7 jQ8 kKg:=by
 intro xs G Q h_;apply xe8 h_;clear h_;intro W bx a b c r n s;refine ae8 ?_;intro aw hb hn ne ca cn nw kk;show jQ8 _ [some (.ref bx),some (encW W),some (.int (r:Nat)),some (.ref a),none,none,none,none,none,none] G
 have hs:=sz;have hlen:=aw.len;obtain⟨d,kvs,ch,g⟩:=id ca;rw[qV1]
 exists jJ1,rNeA,rEqA,iSeq
 refine⟨W,rfl,aw.fine,λp0 G1 hp0 hp1 hl s1=>⟨_,jJo hp1,?_⟩⟩
 refine jUt (λt:Tie=>if t.1≠t.2 then some (encT t) else none) (by omega) (λG' s'=>jJo (s' _ _ hp1)) ?_ ?_
 .intro i t ht G2 K K0 s2 hK hK0
  exists encT
  refine⟨_,jY5,_,rfl,?_⟩
  by_cases z:t.1=t.2
  .rw[lKa z];exact jVb (by simp) (hK0 (lJb (lQg z)) G2 (.refl _))
  .rw[lJo z];exact jX9 rfl (hK _ G2 (lJc z) (.refl _))
 .intro D G2 hD hD2 s2;rw[qYa] at hD2
  generalize hL:(jQe W).filter (λt=>decide (t.1≠t.2))=L at hD2
  have hLl:L.length<=1000000:=by rw[<-hL];exact lKb (lVo _ _) hl
  refine⟨lJ0 _,λq hq=> ?_⟩
  have s3:Sub G2 (gup G2 q (.lst [])):= .new hq;have s13:=(s1.trans s2).trans s3
  refine⟨_,uKa (s3 _ _ hD2) jJg (d:=2) (λx hx=>by
   (obtain⟨t,_,rfl⟩:=lJy.mp hx)
   exact kQ9 λy hy=>by
    simp only[lJk,lJ2,lKs] at hy
    rcases hy with rfl | rfl<;>exact uQ2) (by omega),?_⟩
  by_cases z:L=[]
  .rw[lKa (show L.map encT=[] by rw[z];rfl)]
   exact jX9 rfl (kk r s _ (ca.sub s13) rfl rfl rfl (.sub s13))
  .rw[lJo (show L.map encT≠[] by simpa using z)]
   refine jVb (by simp) ⟨_,jJo (s3 _ _ hD2),?_⟩
   have hb3:BoxAt (gup G2 q (.lst [])) bx n:=hb.sub s13;have ca3:=ca.sub s13;have hD3:=s3 _ _ hD2
   have hDb:D≠bx:=by
    rintro rfl;obtain⟨x,y,w,h1,_⟩:=hb.sub s1;rw[hD] at h1;cases h1
   generalize gup G2 q (.lst [])=G3 at s13 hb3 ca3 hD3
   have hl0:0<L.length:=List.length_pos_iff.mpr z;refine⟨bx,_,n,rfl,hb3,by omega,by rw[lJf];omega,by rw[lJf];omega,λri G4 hr0 hr1 hb4 k4=> ?_⟩
   rw[lJf] at hr1;obtain⟨i,rfl⟩:∃i:Nat,ri=i:=⟨ri.toNat,by omega⟩
   have hi:i<L.length:=by omega
   obtain⟨t,ht⟩:∃t,L[i]? =some t:=⟨_,lJh hi⟩
   have hm:t∈jQe W/\t.1≠t.2:=by
    have:=lJm ht;rw[<-hL,lQi] at this;exact⟨this.1,of_decide_eq_true this.2⟩
   have ca4:CA W G4 a b c r s:=ca3.keep hb3 ne k4;refine⟨encT t,by rw[jKp (k4 _ _ hDb hD3),atN,lJr,ht];rfl,_,rfl,rfl,_,_,rfl,_,_,rfl,rfl,bx,2,n+1,rfl,hb4,by omega,by omega,by omega,λrj G5 hq0 hq1 hb5 k5=> ?_⟩
   have ca5:CA W G5 a b c r s:=ca4.keep hb4 ne k5;have he:=(endsL_mem.mp hm.1).1;have fm:∀x,x<W.length->x∈s.ms:=λx hx=>full aw g cn nw hx
   have fe:∀x y,en W x.1 x.2=some y->s.E x=some y:=λx y h=>by
    have h2:=kUd (fm _ (jUf h))
    have er:rmI s (s.ms.idxOf x.1)=x.1:=by
     have:=kKl h2;rw[jQi (fm _ (jUf h))] at this;exact (lJn this).symm
    have:=E_is g cn nw h2 (by rw[er];exact h)
    rw[er] at this;exact this
   have w1:Wr W s t.1 t.2:=⟨aw,fm,fe,he,hm.2⟩;have w2:Wr W s t.2 t.1:=⟨aw,fm,fe,w1.hq,λe=>hm.2 e.symm⟩
   have k:Done W G5 a b c s Q:=λr' t' G6 q1 q2 q3 q4 q5=>kk r' t' G6 q1 q2 q3 q4 ((((Kd.sub s13).trans (.keep k4 (by simp))).trans (.keep k5 (by simp))).trans (λx o hx=>q5 x o (λz=>hx (lJ8 _ z))))
   obtain⟨j,rfl⟩:∃j:Nat,rj=j:=⟨rj.toNat,by omega⟩
   refine⟨_,jXj (a:=j) (c:=0),?_⟩
   by_cases zz:j=0
   .exact jX9 (by simp[zz]) (qY1 w2 cn ca5 k)
   .exact jVb (by simp[zz]) (qY1 w1 cn ca5 k)
theorem uJa{s t:CS}(h1:t.ms=s.ms)(h2:t.ct=s.ct)(h3:t.E=s.E)(n:Nat):opL t n=opL s n:=by
 unfold opL opR rmI ctI;rw[h1,h2,h3]
theorem qU5{W:Web}{r:Nat}{es:List (Nat×Nat)}(w:AnyWeb W)(hes:W[r]? =some es):Grown W (beg r es.length) r where
 ok:=by
  have h1:=(lJe.mp hes).1;have h2:=w.len;have h3:=w.deg _ _ hes;exact⟨by simp[beg],λx hx=>by simp only[beg,lJ5] at hx;omega,rfl,λx hx=>by simp only[beg,lJ5] at hx;omega,by simp[beg],(λp q e=>by cases e),(λp q e=>by cases e)⟩
 at_:=rfl
 ws:=λi x hx=>by
  cases i with
  | zero=>cases hx;exact⟨es,hes,rfl⟩
  | succ i=>simp[beg] at hx
 wX:=λp q e=>by cases e
 sy:=λp q e=>by cases e
 wE:=λp q e=>by cases e
theorem qYo{r k:Nat}:Conn (Wc (beg r k)):=λS h0 _ x hx=>by
 rw[jQh] at hx;have:x=0:=by simp[beg] at hx;omega
 rw[this];exact h0
def qKo:Sp3:=λxs G Q=>∃ns:List Int,xs=[.scr (jQ4 ns)]/\ns.length<=63/\∀G',Q (.bl true) G'
noncomputable def uU8:List Str:=["_law_script","_law_cells","_law_k","_law_box_here","_law_web_here","_law_room","_law_chart","_law_ended","_law_due","_law_spot","_law_goal","_law_came","_law_more","_law_one"]
noncomputable def kY3:TS3:=
 (tSeq (tAsg (jJq jX0 (jJc o0 (jJc (tC (.int 6)) tNil))) M1)
 (tSeq (tFor (jK9 (jJc (tCB rMax (jJc tI2 (jJc (tCB rLen C1) tNil))) tNil)) M2 (tSeq (tAsg (jJq kQt (jJc o1 C2)) M3)
 (tSeq (tAsg (jJq jV8 C3) M4)
 (tSeq (tAsg (jJq jJx (jJc o3 (jJc (tCB rLen C4) tNil))) M5)
 (tSeq (tAsg (qZs "Chart" jVh (jJc (jJq jJp C5) (jJc (tCB rLen (jJc (tOp rIxF o4 o5) tNil)) tNil))) M6)
 (tSeq (tAsg (jJq jQb (jJc o4 (jJc o5 C6))) M7)
 (tSeq (tIfS (jJv (tOp rIsN o7 (tC .non))) (tRet (tC (.bl false))) jJ5)
 (tSeq (tAsg (jJ1 "Chart" "whole" jK7 o6 tNil) M8)
 (tSeq (tIfS (tOr (jJv (tOp rNeA o8 (jJq jUu (jJc o4 C6)))) (tNot (jJv (jJq jQ7 (jJc o3 (jJc o4 (jJc (tOp rIxF o7 tI0) C6))))))) (tRet (tC (.bl false))) jJ5)
 (tSeq (tIfS (jJv (tOp rNeA (jJ1 "Chart" "whole" jK7 o6 tNil) o8)) (tRet (tC (.bl false))) jJ5)
 (tSeq (tAsg (tOp rIxF (jQx [fF,fF,fF,fF,fF,fF,fF,fF,fF,fF,fF,fF,fF,tT] (jK9 (jJc (tCB rLen C4) tNil)) M13 (jJv (tOp rEqA (jJq jJp C13) (jJ1 "Chart" "here" jKt o6 tNil))) o13) tI0) M9)
 (tSeq (tIfS (jJv (tOp rGt (tCB rLen (jJc (tOp rIxF o4 o9) tNil)) tI0)) (tSeq (tAsg (tOp rIxF (tOp rIxF o4 o9) tI0) (gTup 2 (jKd M10 (jKd M11 gNil))))
 (tSeq (tAsg (tOp jKz (tCB rLen (jJc (tOp rIxF o4 o10) tNil)) tI1) M12)
 (tIfS (tAnd (jJv (tOp rLt o12 (tC (.int 7)))) (jJv (tOp rNeA (jJq jK6 (jJc o6 (jJc tI0 (jJc o11 (jJc (jJq jJp C10) C12))))) (tC (.str (PySem.Str.ofString "doors")))))) (tRet (tC (.bl false))) jJ5))) jJ5)
 (tIfS (jJv (tOp rNeA (jJ1 "Chart" "whole" jK7 o6 tNil) o8)) (tRet (tC (.bl false))) jJ5)))))))))))))
 (tRet (tC (.bl true)))))
theorem qV0:RdOk qKo kY3 uU8:=by
 intro xs G Q h_;apply xe1 h_;clear h_;intro ns;refine ae2 ?_;intro hns kk;show kY3 _ [some (.scr (jQ4 ns)),none,none,none,none,none,none,none,none,none,none,none,none,none] G
 have hs:=sz
 exists kY3,jJ7,jK9,iSeq,rMax
 refine⟨ns,6,rfl,hns,by omega,by omega,λcp G1 cms hcp hcp1 hcl hcl2 s1=>⟨_,jJo hcp1,?_⟩⟩
 rw[lJf]
 obtain⟨cN,hcN,hcN2⟩:∃cN:Nat,(if ((cms.length:Nat):Int)>2 then ((cms.length:Nat):Int) else 2)=(cN:Int)/\cN<=6:=by
  split
  .exact⟨_,rfl,by simpa using hcl⟩
  .exact⟨2,rfl,by omega⟩
 rw[hcN];refine⟨by omega,by omega,?_⟩
 rw[show ((cN:Nat):Int).toNat=cN by omega,jQt]
 let J1:Nat->St3->Gp->Prop:=λi τ G'=>∃(v2 v3 v4 v5 v6 v7 v8 v9 v10 v11 v12:Option T),τ=[some (.scr (jQ4 ns)),some (.ref cp),v2,v3,v4,v5,v6,v7,v8,v9,v10,v11,v12,none]/\G' cp=some (.lst (jQ4 cms))
 refine⟨J1,?_,?_,?_,?_⟩
 .exact⟨_,_,_,_,_,_,_,_,_,_,_,rfl,hcp1⟩
 .intros;trivial
 .intro i y τ G2 hy h_;apply xe11 h_;clear h_;intro v2 v3 v4 v5 v6 v7 v8 v9 v10 v11 v12 hcp2;obtain⟨i',hi',rfl⟩:=jK4 hy;obtain⟨hi,rfl⟩:=jVi hi'
  exists tSeq
  refine⟨cp,cms,(i:Int),rfl,hcp2,hcl2,by omega,by omega,λbx G3 hbx hb3 s3=>⟨bx,0,rfl,hb3,by omega,λW G4 w hb4 k4=> ?_⟩⟩
  have hpos:=w.pos;have hlen:=w.len
  exists encW,List.length_map
  refine⟨bx,_,1000,rfl,hb4,by omega,by omega,by omega,λri G5 hr0 hr1 hb5 k5=> ?_⟩
  obtain⟨r,rfl⟩:∃r:Nat,ri=r:=⟨ri.toNat,by omega⟩
  have hrl:r<W.length:=by omega
  obtain⟨es,hes⟩:∃es,W[r]? =some es:=⟨_,lJh hrl⟩
  have hel:=w.deg _ _ hes
  have s5:Sub G2 G5:=λx u e=>by
   have nb:x≠bx:=jJf e hbx;exact k5 x u nb (k4 x u nb (s3 x u e))
  exists qZs,jJ1,rNeA,rEqA,jK9,jQf hes,encR,List.length_map
  refine⟨r,rfl,by omega,λG6 s6 a ha=>⟨a,r,es.length,rfl,jJg,λb c d G7 ch7 hb hc hd eq7=>⟨rfl,?_⟩⟩⟩
  obtain⟨hba,hb6⟩:=jJ4 hb;obtain⟨hca,hc6⟩:=jJ4 hc;obtain⟨hda,hd6⟩:=jJ4 hd
  have s7:Sub G6 G7:=λx u e=>by
   rw[eq7 x (jJf e ha) (jJf e hb6) (jJf e hc6) (jJf e hd6),jJl (jJf e ha)];exact e
  have fr:∀{x:Addr}{o:GO},G6 x=some o->x∉[a,b,c]:=λ{x o} e=>by
   simp only[lJk,lJ2,lKs,not_or];exact⟨jJf e ha,jJf e hb6,jJf e hc6⟩
  have hcp6:=s6 _ _ (s5 _ _ hcp2);have hb6':BoxAt G6 bx (1000+1):=hb5.sub s6
  have nbx:bx∉[a,b,c]:=by
   obtain⟨x,y,z,h1,_⟩:=hb6';exact fr h1
  have ncp:cp∉[bx,a,b,c]:=λz=>by
   rcases (lJk.mp z) with z | z
   .rw[z,hbx] at hcp2;cases hcp2
   .exact fr hcp6 z
  refine⟨W,a,b,c,r,beg r es.length,rfl,w,⟨d,[],ch7,qU5 w hes⟩,λr1 k1 t G8 ca8 nw ext _ kp8=> ?_⟩
  obtain⟨d8,kvs8,ch8,g8⟩:=id ca8;have cn:Conn (Wc t):=ext.cn qYo;refine jVb (by simp) ⟨jQw ch8.obj,a,b,c,d8,t,kvs8,rfl,ch8,g8.ok,qY8 g8 cn nw,λG9 s9=>⟨W,a,b,c,r1,t,rfl,w,ca8.sub s9,cn,nw,λG10 s10=>⟨true,kZq,jVb (by simp) ⟨_,rfl,?_⟩⟩⟩⟩
  have hb10:BoxAt G10 bx (1000+1):=(Kd.trans (.kp kp8 λ_ h=>h) (.sub (s9.trans s10))).box (hb6'.sub s7) nbx
  refine⟨W,bx,a,b,c,r1,1000+1,t,rfl,w,hb10,by omega,nbx,(ca8.sub s9).sub s10,cn,nw,λr2 t2 G11 ca11 f1 f2 f3 kd=>⟨true,rfl,jVb (by simp) ?_⟩⟩
  obtain⟨d11,kvs11,ch11,g11⟩:=id ca11;have op2:opL t2 t2.ms.length=[]:=by rw[uJa f1 f2 f3,f1];exact qY8 g8 cn nw
  refine⟨jQw ch11.obj,a,b,c,d11,t2,kvs11,rfl,ch11,g11.ok,op2,λG12 s12=>⟨true,by rw[kXl f1 f2 f3];exact kZq,jVb (by simp) ?_⟩⟩
  have ch12:ChAt G12 a b c d11 t2 kvs11:=ch11.sub λx o z _=>s12 x o z
  have hcp12:G12 cp=some (.lst (jQ4 cms)):=s12 _ _ (kd _ _ ncp (λk e=>by cases e) (s10 _ _ (s9 _ _ (kp8 _ _ (λz=>ncp (lJ8 _ z)) (s7 _ _ hcp6)))))
  have hr2:r2<W.length:=qJi g11 g11.mem;refine⟨by omega,by omega,?_⟩
  rw[show ((W.length:Nat):Int).toNat=W.length by omega,jQt]
  refine jUt (λx=>if x=r2 then some (T.int (x:Nat)) else none) (by simp;omega) (λ_ _=>trivial) ?_ ?_
  .intro j x hx G13 K K0 s13 hK hK0;obtain⟨hj,rfl⟩:=jVi hx;have ch13:ChAt G13 a b c d11 t2 kvs11:=ch12.sub λx o z _=>s13 x o z
   exists jJ1,rEqA
   refine⟨_,rfl,by omega,λG14 s14=> ?_⟩
   have ch14:ChAt G14 a b c d11 t2 kvs11:=ch13.sub λx o z _=>s14 x o z
   refine⟨jQw ch14.obj,a,b,c,d11,t2,kvs11,rfl,ch14,g11.ok,decide (j=r2),?_,?_⟩
   .rw[g11.at_];exact qUj (by omega) (by omega)
   .by_cases z:j=r2
    .exact jX9 (lKa z) (hK _ G14 (lJc z) s14)
    .exact jVb (by simp[z]) (hK0 (lJb z) G14 s14)
  .intro D G13 hD hD2 s13;rw[qY9 hr2] at hD2;have ch13:ChAt G13 a b c d11 t2 kvs11:=ch12.sub λx o z _=>s13 x o z
   obtain⟨es2,hes2⟩:∃es2,W[r2]? =some es2:=⟨_,lJh hr2⟩
   have hel2:=w.deg _ _ hes2
   have fin:∀{v9 v10 v11 v12:Option T} G14,Sub G13 G14->obR "Chart" "whole" G14 (.ref a)=true/\jK7 [.ref a] G14 λx G1=>∃b,eqG G1 x (skT t)=some b/\if b=false then Q (.bl false) G1 else J1 (i+1) [some (.scr (jQ4 ns)),some (.ref cp),some (.int (i:Nat)),some (.ref bx),some (.tup (W.map encR)),some (.int (r:Nat)),some (.ref a),some (.tup [.int (r1:Nat),.int (k1:Nat)]),some (skT t),v9,v10,v11,v12,none] G1:=by
    intro v9 v10 v11 v12 G14 s14;have ch14:ChAt G14 a b c d11 t2 kvs11:=ch13.sub λx o z _=>s14 x o z
    refine⟨jQw ch14.obj,a,b,c,d11,t2,kvs11,rfl,ch14,g11.ok,op2,λG15 s15=>⟨true,by rw[kXl f1 f2 f3];exact kZq,jVb (by simp) ?_⟩⟩
    exact⟨_,_,_,_,_,_,_,_,_,_,_,rfl,s15 _ _ (s14 _ _ (s13 _ _ hcp12))⟩
   refine⟨.int (r2:Nat),by rw[jKp hD2];rfl,_,jQf hes2,_,rfl,?_⟩
   cases es2 with
   | nil=>exact jVb (by simp) (fin G13 (.refl _))
   | cons e es2=>
    refine jX9 (by simp) ⟨_,jQf hes2,encE e,kUf (i:=0) (show (e::es2)[0]? =some e from rfl),_,rfl,rfl,_,_,rfl,_,_,rfl,rfl,?_⟩
    have he:en W r2 0=some e:=jV2 hes2 rfl;obtain⟨es3,q3,q4⟩:=jKv (w.sym _ _ e.1 e.2 he);have hel3:=w.deg _ _ q3;have hl1:=jUf (w.sym _ _ e.1 e.2 he);have hc3:=(lJe.mp q4).1;refine⟨_,jQf q3,_,rfl,?_⟩;simp only[lJf]
    by_cases z:((es3.length:Nat):Int)+1<7
    .refine jX9 z ⟨e.1,rfl,by omega,λG14 s14=> ?_⟩
     have ch14:ChAt G14 a b c d11 t2 kvs11:=ch13.sub λx o z _=>s14 x o z
     have hem:e.1∈t2.ms:=by rw[f1];exact full w g8 cn nw hl1
     have ct3:=uU1 g11.toGx hem q3
     have ct2:t2.ct[t2.pl]? =some (e::es2).length:=by
      obtain⟨es',z1,z2⟩:=g11.ws _ _ g11.pl;rw[hes2] at z1;cases z1;exact z2
     have due:dueX t2 0 e.2 e.1 (es3.length+1)=some ("Clash:doors":Str):=by
      unfold dueX;rw[ct3,lJc (show (some es3.length).getD (es3.length+1)≠es3.length+1 from λz=>by simp at z)]
     refine⟨a,b,c,d11,t2,kvs11,0,e.2,e.1,es3.length+1,(e::es2).length,_,_,rfl,ch14,g11.ok,by omega,by omega,by omega,ct2,by simp,due,wy0,λG15 s15=>⟨true,uJ9 (by decide +kernel),jVb (by simp) (fin G15 (s14.trans s15))⟩⟩
    .exact jVb z (fin G13 (.refl _))
 .intro τ G2 h_;apply xe11 h_;clear h_;intro v2 v3 v4 v5 v6 v7 v8 v9 v10 v11 v12 hcp2
  exists tSeq
  exact kk G2
end W
namespace W
open PySem PySem.Spec PyProof.Rows L2 L3
theorem ln1{α:Type}{us:List α}{C:List α->Prop}(h:us.length=1)(k:∀a0,C [a0]):C us:=by
 obtain⟨a0,us,rfl⟩:=lKq h
 replace h:=lKr h
 cases lQm.mp h;exact k a0
theorem ln2{α:Type}{us:List α}{C:List α->Prop}(h:us.length=2)(k:∀a0 a1,C [a0,a1]):C us:=by
 obtain⟨a0,us,rfl⟩:=lKq h
 replace h:=lKr h
 obtain⟨a1,us,rfl⟩:=lKq h
 replace h:=lKr h
 cases lQm.mp h;exact k a0 a1
theorem ln3{α:Type}{us:List α}{C:List α->Prop}(h:us.length=3)(k:∀a0 a1 a2,C [a0,a1,a2]):C us:=by
 obtain⟨a0,us,rfl⟩:=lKq h
 replace h:=lKr h
 obtain⟨a1,us,rfl⟩:=lKq h
 replace h:=lKr h
 obtain⟨a2,us,rfl⟩:=lKq h
 replace h:=lKr h
 cases lQm.mp h;exact k a0 a1 a2
theorem ln4{α:Type}{us:List α}{C:List α->Prop}(h:us.length=4)(k:∀a0 a1 a2 a3,C [a0,a1,a2,a3]):C us:=by
 obtain⟨a0,us,rfl⟩:=lKq h
 replace h:=lKr h
 obtain⟨a1,us,rfl⟩:=lKq h
 replace h:=lKr h
 obtain⟨a2,us,rfl⟩:=lKq h
 replace h:=lKr h
 obtain⟨a3,us,rfl⟩:=lKq h
 replace h:=lKr h
 cases lQm.mp h;exact k a0 a1 a2 a3
theorem ln5{α:Type}{us:List α}{C:List α->Prop}(h:us.length=5)(k:∀a0 a1 a2 a3 a4,C [a0,a1,a2,a3,a4]):C us:=by
 obtain⟨a0,us,rfl⟩:=lKq h
 replace h:=lKr h
 obtain⟨a1,us,rfl⟩:=lKq h
 replace h:=lKr h
 obtain⟨a2,us,rfl⟩:=lKq h
 replace h:=lKr h
 obtain⟨a3,us,rfl⟩:=lKq h
 replace h:=lKr h
 obtain⟨a4,us,rfl⟩:=lKq h
 replace h:=lKr h
 cases lQm.mp h;exact k a0 a1 a2 a3 a4
def top(i:Nat):Stmt:=PySem.Challenge.pw_stonewalker_k61_whole_charts_put_right.main.body.getD i (.Pass ⟨0,0,0,0⟩)
theorem ext_Clash:ExT (inClass (top 3) 0) "WebError" "self" "words" "why":=⟨⟨rfl,rfl,rfl,by decide +kernel,rfl,by decide +kernel,by decide +kernel⟩,⟨_,_,_,_,_,_,_,_,_,_,rfl,λ_=>⟨_,rfl⟩⟩,rfl,rfl,rfl,rfl,⟨by decide,by decide⟩,⟨by decide,by decide⟩,⟨by decide,by decide⟩,by decide,λ_ _ _ _ _ _ _ us hl=>by apply ln3 hl;intros;rfl⟩
def FnAt(K:PySem.W.Frag)(mg:Str->Option Value)(x:Str)(i:Nat):Prop:=∃f fd,mg x=some (.ref f)/\Fun K x x (top i) f fd
def MeF(K:PySem.W.Frag)(C:Addr)(m q:Str)(st:Stmt):Prop:=∃f fd,Meth K C m f/\Fun K m q st f fd
def MkF(K:PySem.W.Frag)(C:Addr)(q:Str)(st:Stmt):Prop:=∃f fd,Mk K C f/\Fun K "__init__" q st f fd
structure ClT_Chart (K:PySem.W.Frag) (mg:Str->Option Value) (C:Addr):Prop where
 cn:CN K "Chart" C
 cl:Cls K C
 mg:mg "Chart"=some (.ref C)
 a_counts:NoAttr K C "counts"
 a_leads:NoAttr K C "leads"
 a_marks:NoAttr K C "marks"
 a_place:NoAttr K C "place"
 i_:MkF K C "Chart.__init__" (inClass (top 14) 0)
 m_number_of:MeF K C "number_of" "Chart.number_of" (inClass (top 14) 1)
 m_known_number:MeF K C "known_number" "Chart.known_number" (inClass (top 14) 2)
 m_refuse_clash:MeF K C "refuse_clash" "Chart.refuse_clash" (inClass (top 14) 3)
 m_went:MeF K C "went" "Chart.went" (inClass (top 14) 4)
 m_here:MeF K C "here" "Chart.here" (inClass (top 14) 5)
 m_rooms:MeF K C "rooms" "Chart.rooms" (inClass (top 14) 6)
 m_sketch:MeF K C "sketch" "Chart.sketch" (inClass (top 14) 7)
 m_open_doors:MeF K C "open_doors" "Chart.open_doors" (inClass (top 14) 8)
 m_next_way:MeF K C "next_way" "Chart.next_way" (inClass (top 14) 9)
 m_way_by:MeF K C "way_by" "Chart.way_by" (inClass (top 14) 10)
 m_forget:MeF K C "forget" "Chart.forget" (inClass (top 14) 11)
 m_whole:MeF K C "whole" "Chart.whole" (inClass (top 14) 12)
structure Txt (K:PySem.W.Frag) (mg:Str->Option Value):Prop where
 n_abs:mg "abs"=none
 n_all:mg "all"=none
 n_dict:mg "dict"=none
 n_divmod:mg "divmod"=none
 n_enumerate:mg "enumerate"=none
 n_int:mg "int"=none
 n_len:mg "len"=none
 n_list:mg "list"=none
 n_max:mg "max"=none
 n_range:mg "range"=none
 n_reversed:mg "reversed"=none
 n_sorted:mg "sorted"=none
 n_tuple:mg "tuple"=none
 n_zip:mg "zip"=none
 y_Clash:ExWhy K "Clash"
 t_Clash:∀cn,cn∈(["Clash:doors","Clash:end","Clash:taken"]:List Str)->ExSub K mg cn "Clash" true
 w_Clash:∀(P:Program)(w:World)(base:Heap)(k:Nat),ExI P w K mg base (k+1) "Clash"
 k_Chart:∃C,ClT_Chart K mg C
 f_tied:FnAt K mg "tied" 7
 f_sketched:FnAt K mg "sketched" 8
 f_shut:FnAt K mg "shut" 13
 f_first_comings:FnAt K mg "first_comings" 10
 f_way_to:FnAt K mg "way_to" 11
 f_l_folded:FnAt K mg "_law_folded" 16
 f_l_box:FnAt K mg "_law_box" 17
 f_l_take:FnAt K mg "_law_take" 18
 f_l_joined:FnAt K mg "_law_joined" 19
 f_l_doors_put:FnAt K mg "_law_doors_put" 20
 f_l_web:FnAt K mg "_law_web" 21
 f_l_ring:FnAt K mg "_law_ring" 22
 f_l_ends:FnAt K mg "_law_ends" 23
 f_l_reached:FnAt K mg "_law_reached" 24
 f_l_sheeted:FnAt K mg "_law_sheeted" 25
 f_l_turn:FnAt K mg "_law_turn" 26
 f_l_covered:FnAt K mg "_law_covered" 27
 f_l_any_web:FnAt K mg "_law_any_web" 28
 f_l_mark:FnAt K mg "_law_mark" 29
 f_l_charted:FnAt K mg "_law_charted" 30
 f_l_whole_due:FnAt K mg "_law_whole_due" 31
 f_l_clash:FnAt K mg "_law_clash" 32
 f_l_walked:FnAt K mg "_law_walked" 33
 f_l_wrong_right:FnAt K mg "_law_wrong_right" 34
 f_law:FnAt K mg "law" 35
variable {P:Program}{w:World}{K:PySem.W.Frag}{mg:Str->Option Value}{base:Heap}
theorem cal3{x:Str}{i k:Nat}{N ps:List Str}{sp:Sp3}{t:TS3}(F:FnAt K mg x i)(h:∀xs G Q,sp xs G Q->t {nx:=λ_ G'=>Q .non G',rt:=Q} (jUq N xs) G)
  (d:∀(f:Addr)(cdv:Value)(A:Around)(outer:List Env)(s:Shared)(H:Hp)(E:XK),Room k (A.deeper (envOfC x (jJk (top i)) s.heap.objs.size f cdv))->(A.deeper (envOfC x (jJk (top i)) s.heap.objs.size f cdv)).units+20<cLine->N.Nodup->PSs3 (cxOf CX0 P w K mg base N x (jJk (top i)) f cdv A outer s H E).nox (jKq (top i)) t)
  (S:FnScope N ps (jJk (top i)):=by exact⟨rfl,rfl,rfl,by decide +kernel,rfl,by decide +kernel,by decide +kernel⟩)
  (b:∀(kV doc pm:Value)(an:Option Addr)(cdv ct:Value)(us:List Value),us.length=ps.length->bindArgs (PySem.W.fnOf x x (jQ0 (top i)) (jKq (top i)) (jJk (top i)) .none kV doc pm an cdv ct) ⟨us,[]⟩=pure (ps.zip us):=by (intro _ _ _ _ _ _ us hl;first | (apply ln1 hl;intros;rfl) | (apply ln2 hl;intros;rfl) | (apply ln3 hl;intros;rfl) | (apply ln4 hl;intros;rfl) | (apply ln5 hl;intros;rfl)))
  (m:Mono sp:=by (intro xs G Q Q' hq;(repeat' (first | (refine Exists.imp λ_=> ?_) | (refine And.imp_right ?_)));intro k;intros;apply hq;apply k<;>assumption))
  (n:∀xs G Q,sp xs G Q->xs.length=ps.length:=by (intro xs G Q h;repeat (first | exact (lJx List.length h.1).trans rfl | obtain⟨_,h⟩:=h))):Cal P w K mg base (k+1) x ps sp:=by
 obtain⟨f,fd,a,F⟩:=F;exact⟨⟨f,fd,fn3 F S λcdv A outer s H E hr=>⟨t,d f cdv A outer s H E hr (qQ9 hr) S.nd,h⟩,a,F.kp,F.binds b⟩,m,n⟩
theorem jKj(T:Txt K mg):ObF K "Chart" "counts":=let ⟨C,h⟩:=T.k_Chart;⟨C,h.cn,h.cl,h.a_counts⟩
theorem jKi(T:Txt K mg):ObF K "Chart" "leads":=let ⟨C,h⟩:=T.k_Chart;⟨C,h.cn,h.cl,h.a_leads⟩
theorem jKc(T:Txt K mg):ObF K "Chart" "marks":=let ⟨C,h⟩:=T.k_Chart;⟨C,h.cn,h.cl,h.a_marks⟩
theorem jKh(T:Txt K mg):ObF K "Chart" "place":=let ⟨C,h⟩:=T.k_Chart;⟨C,h.cn,h.cl,h.a_place⟩
theorem kKy{cn m q:Str}{st:Stmt}{k:Nat}{N ps:List Str}{sp:Sp3}{t:TS3}(F:∃C,CN K cn C/\Cls K C/\MeF K C m q st)(h:∀xs G Q,sp xs G Q->t {nx:=λ_ G'=>Q .non G',rt:=Q} (jUq N xs) G)
  (d:∀(f:Addr)(cdv:Value)(A:Around)(outer:List Env)(s:Shared)(H:Hp)(E:XK),Room k (A.deeper (envOfC q (jJk st) s.heap.objs.size f cdv))->(A.deeper (envOfC q (jJk st) s.heap.objs.size f cdv)).units+20<cLine->N.Nodup->PSs3 (cxOf CX0 P w K mg base N q (jJk st) f cdv A outer s H E).nox (jKq st) t)
  (S:FnScope N ps (jJk st):=by exact⟨rfl,rfl,rfl,by decide +kernel,rfl,by decide +kernel,by decide +kernel⟩)
  (b:∀(kV doc pm:Value)(an:Option Addr)(cdv ct:Value)(us:List Value),us.length=ps.length->bindArgs (PySem.W.fnOf m q (jQ0 st) (jKq st) (jJk st) .none kV doc pm an cdv ct) ⟨us,[]⟩=pure (ps.zip us):=by (intro _ _ _ _ _ _ us hl;first | (apply ln1 hl;intros;rfl) | (apply ln2 hl;intros;rfl) | (apply ln3 hl;intros;rfl) | (apply ln4 hl;intros;rfl) | (apply ln5 hl;intros;rfl)))
  (mo:Mono sp:=by (intro xs G Q Q' hq;(repeat' (first | (refine Exists.imp λ_=> ?_) | (refine And.imp_right ?_)));intro k;intros;apply hq;apply k<;>assumption))
  (n:∀xs G Q,sp xs G Q->xs.length=ps.length:=by (intro xs G Q h;repeat (first | exact (lJx List.length h.1).trans rfl | obtain⟨_,h⟩:=h))):CalM P w K mg base (k+1) cn m ps sp:=by
 obtain⟨C,hC,hc,f,fd,hm,F⟩:=F;exact⟨⟨C,f,fd,hC,hc,hm,fn3 F S λcdv A outer s H E hr=>⟨t,d f cdv A outer s H E hr (qQ9 hr) S.nd,h⟩,F.binds b⟩,mo,n⟩
theorem uXb{cn q:Str}{st:Stmt}{k:Nat}{N ps:List Str}{sp:Sp3}{t:TS3}(F:∃C,CN K cn C/\mg cn=some (.ref C)/\MkF K C q st)(h:∀xs G Q,sp xs G Q->t {nx:=λ_ G'=>Q .non G',rt:=Q} (jUq N xs) G)
  (d:∀(f:Addr)(cdv:Value)(A:Around)(outer:List Env)(s:Shared)(H:Hp)(E:XK),Room k (A.deeper (envOfC q (jJk st) s.heap.objs.size f cdv))->(A.deeper (envOfC q (jJk st) s.heap.objs.size f cdv)).units+20<cLine->N.Nodup->PSs3 (cxOf CX0 P w K mg base N q (jJk st) f cdv A outer s H E).nox (jKq st) t)
  (S:FnScope N ps (jJk st):=by exact⟨rfl,rfl,rfl,by decide +kernel,rfl,by decide +kernel,by decide +kernel⟩)
  (b:∀(kV doc pm:Value)(an:Option Addr)(cdv ct:Value)(us:List Value),us.length=ps.length->bindArgs (PySem.W.fnOf "__init__" q (jQ0 st) (jKq st) (jJk st) .none kV doc pm an cdv ct) ⟨us,[]⟩=pure (ps.zip us):=by (intro _ _ _ _ _ _ us hl;first | (apply ln1 hl;intros;rfl) | (apply ln2 hl;intros;rfl) | (apply ln3 hl;intros;rfl) | (apply ln4 hl;intros;rfl) | (apply ln5 hl;intros;rfl)))
  (mo:Mono sp:=by (intro xs G Q Q' hq;(repeat' (first | (refine Exists.imp λ_=> ?_) | (refine And.imp_right ?_)));intro k;intros;apply hq;apply k<;>assumption))
  (n:∀xs G Q,sp xs G Q->xs.length=ps.length:=by (intro xs G Q h;repeat (first | exact (lJx List.length h.1).trans rfl | obtain⟨_,h⟩:=h))):CalC P w K mg base (k+1) cn ps sp:=by
 obtain⟨C,hC,hc,f,fd,hm,F⟩:=F;exact⟨⟨C,f,fd,hC,hc,hm,fn3 F S λcdv A outer s H E hr=>⟨t,d f cdv A outer s H E hr (qQ9 hr) S.nd,h⟩,F.binds b⟩,mo,n⟩
theorem qZg{cn m q:Str}{st:Stmt}{k:Nat}{N ps:List Str}{sp:SpX}{t:XK3->TS3}(F:∃C,CN K cn C/\Cls K C/\MeF K C m q st)(h:∀xs G Q R,sp xs G Q R->t R {nx:=λ_ G'=>Q .non G',rt:=Q} (jUq N xs) G)
  (d:∀(f:Addr)(cdv:Value)(A:Around)(outer:List Env)(s:Shared)(H:Hp)(E:XK)(R:XK3),Room k (A.deeper (envOfC q (jJk st) s.heap.objs.size f cdv))->(A.deeper (envOfC q (jJk st) s.heap.objs.size f cdv)).units+20<cLine->N.Nodup->XR (cxOf (CXX P w) P w K mg base N q (jJk st) f cdv A outer s H E) R->PSs3 (cxOf (CXX P w) P w K mg base N q (jJk st) f cdv A outer s H E) (jKq st) (t R))
  (mo:qVb sp) (S:FnScope N ps (jJk st):=by exact⟨rfl,rfl,rfl,by decide +kernel,rfl,by decide +kernel,by decide +kernel⟩)
  (b:∀(kV doc pm:Value)(an:Option Addr)(cdv ct:Value)(us:List Value),us.length=ps.length->bindArgs (PySem.W.fnOf m q (jQ0 st) (jKq st) (jJk st) .none kV doc pm an cdv ct) ⟨us,[]⟩=pure (ps.zip us):=by (intro _ _ _ _ _ _ us hl;first | (apply ln1 hl;intros;rfl) | (apply ln2 hl;intros;rfl) | (apply ln3 hl;intros;rfl) | (apply ln4 hl;intros;rfl) | (apply ln5 hl;intros;rfl)))
  (n:∀xs G Q R,sp xs G Q R->xs.length=ps.length:=by (intro xs G Q R h;repeat (first | exact (lJx List.length h.1).trans rfl | obtain⟨_,h⟩:=h))):CalMX P w K mg base (k+1) cn m ps sp:=by
 obtain⟨C,hC,hc,f,fd,hm,F⟩:=F;exact⟨⟨C,f,fd,hC,hc,hm,fnX F S λcdv A outer s H E R hr hx=>⟨t R,d f cdv A outer s H E R hr (qQ9 hr) S.nd hx,λxs G Q=>h xs G Q R⟩,F.binds b⟩,mo,n⟩
theorem kQ8(T:Txt K mg):CalC P w K mg base 1 "Chart" ["self","mark","doors"] jVh:=
 uXb (let ⟨C,h⟩:=T.k_Chart;⟨C,h.cn,h.mg,h.i_⟩) kJb λ_ _ _ _ _ _ _ hr hu nd=>
  (jJd (qJd (jKc T) (jJb 0) (jUg (jJa (jJb 1) jJe)))
   (jJd (qJd (jKj T) (jJb 0) (jUg (jJa (jJb 2) jJe)))
   (jJd (qJd (jKi T) (jJb 0) uUv)
   (jJj (qJd (jKh T) (jJb 0) jJi)))))
theorem jYm(T:Txt K mg):CalM P w K mg base 1 "Chart" "number_of" ["self","mark"] jQs:=
 kKy (let ⟨C,h⟩:=T.k_Chart;⟨C,h.cn,h.cl,h.m_number_of⟩) jXq λ_ _ _ _ _ _ _ hr hu nd=>
  (jJj (jKb (kUi (jKo (qQo hu) (jJb 1) (jQr (jKc T) (jJb 0)) (jJr _)) (e_bm lKc lX4 lX5 kUc (jQr (jKc T) (jJb 0)) (jJa (jJb 1) jJe)) (jJw jQq (by rfl) T.n_len lJu (jJa (jQr (jKc T) (jJb 0)) jJe)))))
theorem jQ3(T:Txt K mg):CalM P w K mg base 1 "Chart" "known_number" ["self","mark"] jKs:=
 kKy (let ⟨C,h⟩:=T.k_Chart;⟨C,h.cn,h.cl,h.m_known_number⟩) jVl λ_ _ _ _ _ _ _ hr hu nd=>
  (jJd (s_if (jKo (jYp hu) (jJb 1) (jQr (jKc T) (jJb 0)) (jJr _)) jZr jJ9)
   (jJj (jKb (e_bm lKc lX4 lX5 kUc (jQr (jKc T) (jJb 0)) (jJa (jJb 1) jJe)))))
theorem jXg(T:Txt K mg):CalMX P w K mg base 3 "Chart" "refuse_clash" ["self","start","end","doors"] jKr:=
 qZg (let ⟨C,h⟩:=T.k_Chart;⟨C,h.cn,h.cl,h.m_refuse_clash⟩) jVk (mo:=jVs) λ_ _ _ _ _ _ _ R hr hu nd hx=>
  (jJd (s_if (PW3.pt (qZm (jKo o_lt (e_ix (ix_F hu) (jJb 2) jJi (λ_ _=>rfl)) (jJw jQq (by rfl) T.n_len lJu (jJa (jQr (jKj T) (jJb 0)) jJe)) (jJr _)) (qKa (jKo (jY3 hr.units) (e_ix (ix_F hu) (jQr (jKj T) (jJb 0)) (e_ix (ix_F hu) (jJb 2) jJi (λ_ _=>rfl)) (λ_ _=>rfl)) (jJb 3) (jJr _))))) (jJj (kQy (k:=1) hx (T.w_Clash _ _ _ 0) (hr.mono (by decide)) (jJa kKx (jJa kKx jJe)))) jJ9)
   (jJd (s_if (jKo (jY3 hr.units) (e_bm lXa lV4 lY3 (qZb hu) (jQr (jKi T) (jJb 0)) (jJa (jJb 1) (jJa (jJb 2) jJe))) (jJb 2) (jJr _)) (jJj (kQy (k:=1) hx (T.w_Clash _ _ _ 0) (hr.mono (by decide)) (jJa kKx (jJa kKx jJe)))) jJ9)
   (jJj (s_if (jKo (jY3 hr.units) (e_bm lXa lV4 lY3 (qZb hu) (jQr (jKi T) (jJb 0)) (jJa (jJb 2) (jJa (jJb 1) jJe))) (jJb 1) (jJr _)) (jJj (kQy (k:=1) hx (T.w_Clash _ _ _ 0) (hr.mono (by decide)) (jJa kKx (jJa kKx jJe)))) jJ9))))
theorem uJe(T:Txt K mg):Cal P w K mg base 1 "tied" ["leads","start","end"] kQr:=
 cal3 T.f_tied qKy λ_ _ _ _ _ _ _ hr hu nd=>
  (jJd (jJ2 (i:=3) nd (jKu uKn (by rfl) T.n_dict rfl (jJa (jJb 0) jJe)))
   (jJd (jVz (jJb 2) (jYs (jJb 3) (jJb 1) (s_F hu)))
   (jJd (jVz (jJb 1) (jYs (jJb 3) (jJb 2) (s_F hu)))
   (jJj (jKb (jJb 3))))))
theorem jUe(T:Txt K mg):CalMX P w K mg base 4 "Chart" "went" ["self","door","came","mark","doors"] jKa:=
 qZg (let ⟨C,h⟩:=T.k_Chart;⟨C,h.cn,h.cl,h.m_went⟩) kJa (mo:=kJq) λ_ _ _ _ _ _ _ R hr hu nd hx=>
  (jJd (s_if (PW3.pt (w_or (kXh (kXi (qQn hu) o_lt jJi (jJb 1) (e_ix (ix_F hu) (jQr (jKj T) (jJb 0)) (jQr (jKh T) (jJb 0)) (λ_ _=>rfl)))) (uKz (kXh (kXi (qQn hu) o_lt jJi (jJb 2) (jJb 4)))))) jZr jJ9)
   (jJd (jJ2 (i:=5) nd (jQ6 (jJa (jQr (jKh T) (jJb 0)) (jJa (jJb 1) jJe))))
   (jJd (jJ2 (i:=6) nd (jQ6 (jJa (kJ6 (jYm T) (hr.mono (by decide)) (jJb 0) (jJa (jJb 3) jJe)) (jJa (jJb 2) jJe))))
   (jJd (jQk (kUh hx (jXg T) (hr.mono (by decide)) (jJb 0) (jJa (jJb 5) (jJa (jJb 6) (jJa (jJb 4) jJe)))))
   (jJd (s_if (jKo (jYp hu) (jJb 3) (jQr (jKc T) (jJb 0)) (jJr _)) (jJd (jQk (e_bm lKc lK6 lK7 jQl (jQr (jKc T) (jJb 0)) (jJa (jJb 3) jJe)))
   (jJj (jQk (e_bm lKc lK6 lK7 jQl (jQr (jKj T) (jJb 0)) (jJa (jJb 4) jJe))))) jJ9)
   (jJd (qJd (jKi T) (jJb 0) (jJz (uJe T) (hr.mono (by decide)) (jJa (jQr (jKi T) (jJb 0)) (jJa (jJb 5) (jJa (jJb 6) jJe)))))
   (jJj (qJd (jKh T) (jJb 0) (e_ix (ix_F hu) (jJb 6) jJi (λ_ _=>rfl))))))))))
theorem jVp(T:Txt K mg):CalM P w K mg base 1 "Chart" "here" ["self"] jKt:=
 kKy (let ⟨C,h⟩:=T.k_Chart;⟨C,h.cn,h.cl,h.m_here⟩) kJc λ_ _ _ _ _ _ _ hr hu nd=>
  (jJj (jKb (e_ix (ix_F hu) (jQr (jKc T) (jJb 0)) (jQr (jKh T) (jJb 0)) (λ_ _=>rfl))))
theorem kKt(T:Txt K mg):CalM P w K mg base 1 "Chart" "rooms" ["self"] jUw:=
 kKy (let ⟨C,h⟩:=T.k_Chart;⟨C,h.cn,h.cl,h.m_rooms⟩) jZg λ_ _ _ _ _ _ _ hr hu nd=>
  (jJj (jKb (uUs rfl rfl T.n_tuple rfl T.n_zip rfl (jJa (jQr (jKc T) (jJb 0)) (jJa (jQr (jKj T) (jJb 0)) jJe)))))
theorem kXz(T:Txt K mg):Cal P w K mg base 1 "sketched" ["counts","leads"] jXy:=
 cal3 T.f_sketched kQ1 λ_ _ _ _ _ _ _ hr hu nd=>
  (jJd (jJ2 (i:=2) nd (jUg jJe))
   (jJd (jQy lJs rfl (kVn rfl T.n_enumerate rfl (jJa (jJb 0) jJe)) (jUp rfl (jJs (jJn (i:=3) nd) (jJs (jJn (i:=4) nd) jQj))) (jJj (jQk (e_bm lKc lK6 lK7 jQl (jJb 2) (jJa (jKu jQ1 (by rfl) T.n_tuple rfl (jJa (jUs (mask:=[fF,fF,fF,fF,fF,tT]) rfl ⟨rfl,rfl,rfl,rfl,rfl,rfl,rfl⟩ (jKw rfl T.n_range (jJa (jJb 4) jJe)) jKg (λC fp s H=>(jJn (i:=5) nd)) (λC fp s H=>jVc) (λC fp s H=>(e_bm lXa lV4 lY3 (uUe hu) (jJb 1) (jJa (jQ6 (jJa (jJb 3) (jJa (jJb 5) jJe))) jJe)))) jJe)) jJe)))))
   (jJj (jKb (jKu jQ1 (by rfl) T.n_tuple rfl (jJa (jJb 2) jJe))))))
theorem jK0(T:Txt K mg):CalM P w K mg base 2 "Chart" "sketch" ["self"] jJu:=
 kKy (let ⟨C,h⟩:=T.k_Chart;⟨C,h.cn,h.cl,h.m_sketch⟩) jYy λ_ _ _ _ _ _ _ hr hu nd=>
  (jJj (jKb (jJz (kXz T) (hr.mono (by decide)) (jJa (jQr (jKj T) (jJb 0)) (jJa (jQr (jKi T) (jJb 0)) jJe)))))
theorem jUn(T:Txt K mg):CalM P w K mg base 3 "Chart" "open_doors" ["self"] jK2:=
 kKy (let ⟨C,h⟩:=T.k_Chart;⟨C,h.cn,h.cl,h.m_open_doors⟩) jV9 λ_ _ _ _ _ _ _ hr hu nd=>
  (jJd (jJ2 (i:=1) nd (jUg jJe))
   (jJd (jQy lJs rfl (qQ7 rfl T.n_enumerate rfl (jJa (jQg (jK0 T) (hr.mono (by decide)) (jJb 0)) jJe)) (jUp rfl (jJs (jJn (i:=2) nd) (jJs (jJn (i:=3) nd) jQj))) (jJj (jQk (e_bm lKc PySem.F.slot_list_extend PySem.F.type_list_extend qXp (jJb 1) (jJa (jUs (mask:=[fF,fF,fF,fF,tT,tT]) rfl ⟨rfl,rfl,rfl,rfl,rfl,rfl,rfl⟩ (qQ7 rfl T.n_enumerate rfl (jJa (jJb 3) jJe)) (kVp (jU4 jKg jQp (jU4 jKg jQp kVq jXu) (kJ3 jQp jXu))) (λC fp s H=>(jUp rfl (jJs (jJn (i:=4) nd) (jJs (jJn (i:=5) nd) jQj)))) (λC fp s H=>(kJz (jKo uJl (jJb 5) jYb (jJr _)))) (λC fp s H=>(jQ6 (jJa (jJb 2) (jJa (jJb 4) jJe))))) jJe)))))
   (jJj (jKb (jJb 1)))))
theorem qQj(T:Txt K mg):Cal P w K mg base 1 "shut" ["sketch"] kQs:=
 cal3 T.f_shut qKz λ_ _ _ _ _ _ _ hr hu nd=>
  (jJd (jJ2 (i:=1) nd (jUg jJe))
   (jJd (jQy lJs rfl (qQ7 rfl T.n_enumerate rfl (jJa (jJb 0) jJe)) (jUp rfl (jJs (jJn (i:=2) nd) (jJs (jJn (i:=3) nd) jQj))) (jJj (jQk (e_bm lKc lK6 lK7 jQl (jJb 1) (jJa (jKu jQ1 (by rfl) T.n_tuple rfl (jJa (jUs (mask:=[fF,fF,fF,fF,tT,tT]) rfl ⟨rfl,rfl,rfl,rfl,rfl,rfl,rfl⟩ (qQ7 rfl T.n_enumerate rfl (jJa (jJb 3) jJe)) (kVp (jU4 jKg jQp (jU4 jKg jQp kVq jXu) (kJ3 jQp jXu))) (λC fp s H=>(jUp rfl (jJs (jJn (i:=4) nd) (jJs (jJn (i:=5) nd) jQj)))) (λC fp s H=>jVc) (λC fp s H=>(kUi (jKo uJl (jJb 5) jYb (jJr _)) (jQ6 (jJa (jJb 2) (jJa (jJb 4) jJe))) (jJb 5)))) jJe)) jJe)))))
   (jJj (jKb (jKu jQ1 (by rfl) T.n_tuple rfl (jJa (jJb 1) jJe))))))
theorem jUa(T:Txt K mg):Cal P w K mg base 1 "first_comings" ["web","room"] jK5:=
 cal3 T.f_first_comings jYk λ_ _ _ _ _ _ _ hr hu nd=>
  (jJd (jJ2 (i:=2) nd (uKb (jJb 1) jYb))
   (jJd (jJ2 (i:=3) nd (jUg (jJa (jJb 1) jJe)))
   (jJd (kQx lJs (qVl kQn (jJb 3)) (jJd (jJ2 (i:=4) nd (jUg jJe))
   (jJd (jQy lJs rfl (jVv (jJb 3)) (jJn (i:=5) nd) (jJj (jQy lJs rfl (qQ7 rfl T.n_enumerate rfl (jJa (e_ix (ix_F hu) (jJb 0) (jJb 5) (λ_ _=>rfl)) jJe)) (jUp rfl (jJs (jJn (i:=6) nd) (jJs (jJn (i:=7) nd) jQj))) (jJj (s_if (jKo (jYp hu) (e_ix (ix_F hu) (jJb 7) jJi (λ_ _=>rfl)) (jJb 2) (jJr _)) (jJd (jVz (jQ6 (jJa (jJb 5) (jJa (jJb 6) jJe))) (jYs (jJb 2) (e_ix (ix_F hu) (jJb 7) jJi (λ_ _=>rfl)) (s_F hu)))
   (jJj (jQk (e_bm lKc lK6 lK7 jQl (jJb 4) (jJa (e_ix (ix_F hu) (jJb 7) jJi (λ_ _=>rfl)) jJe))))) jJ9)))))
   (jJj (jJ2 (i:=3) nd (jJb 4))))))
   (jJj (jKb (jJb 2))))))
theorem kVa(T:Txt K mg):Cal P w K mg base 2 "way_to" ["web","one","other"] jYf:=
 cal3 T.f_way_to kXo λ_ _ _ _ _ _ _ hr hu nd=>
  (jJd (jJ2 (i:=3) nd (jJz (jUa T) (hr.mono (by decide)) (jJa (jJb 0) (jJa (jJb 1) jJe))))
   (jJd (jJ2 (i:=4) nd (jUg jJe))
   (jJd (jJ2 (i:=5) nd (e_ix (ix_F hu) (jJb 3) (jJb 2) (λ_ _=>rfl)))
   (jJd (kQx lJs (jKo kZb (jJb 5) jYb (jJr _)) (jJd (jQk (e_bm lKc lK6 lK7 jQl (jJb 4) (jJa (e_ix (ix_F hu) (jJb 5) jJi (λ_ _=>rfl)) jJe)))
   (jJj (jJ2 (i:=5) nd (e_ix (ix_F hu) (jJb 3) (e_ix (ix_F hu) (jJb 5) jJi (λ_ _=>rfl)) (λ_ _=>rfl))))))
   (jJj (jKb (uUt rfl rfl T.n_tuple rfl T.n_reversed rfl (jJa (jJb 4) jJe))))))))
theorem jU8(T:Txt K mg):CalM P w K mg base 4 "Chart" "next_way" ["self"] jKy:=
 kKy (let ⟨C,h⟩:=T.k_Chart;⟨C,h.cn,h.cl,h.m_next_way⟩) jX1 λ_ _ _ _ _ _ _ hr hu nd=>
  (jJd (jJ2 (i:=1) nd (jJz (qQj T) (hr.mono (by decide)) (jJa (jQg (jK0 T) (hr.mono (by decide)) (jJb 0)) jJe)))
   (jJd (jJ2 (i:=2) nd (jQg (jUn T) (hr.mono (by decide)) (jJb 0)))
   (jJd (jQy lJs rfl (jVv (jKu (uKl rfl) (by rfl) T.n_list rfl (jJa (jJz (jUa T) (hr.mono (by decide)) (jJa (jJb 1) (jJa (jQr (jKh T) (jJb 0)) jJe))) jJe))) (jJn (i:=3) nd) (jJd (kK4 (i:=4) (mask:=[fF,fF,fF,fF,fF,tT]) rfl nd ⟨rfl,rfl,rfl,rfl,rfl,rfl,rfl⟩ (jVv (jJb 2)) jKg (λC fp s H=>(jJn (i:=5) nd)) (λC fp s H=>(kJz (jKo (jZk hr.units) (e_ix (ix_F hu) (jJb 5) jJi (λ_ _=>rfl)) (jJb 3) (jJr _)))) (λC fp s H=>(e_ix (ix_F hu) (jJb 5) jJi (λ_ _=>rfl))))
   (jJj (s_if (qVl kQn (jJb 4)) (jJj (jKb (e_op uQ6 (jJz (kVa T) (hr.mono (by decide)) (jJa (jJb 1) (jJa (jQr (jKh T) (jJb 0)) (jJa (jJb 3) jJe)))) (jQ6 (jJa (e_ix (ix_F hu) (jJb 4) jJi (λ_ _=>rfl)) jJe))))) jJ9))))
   (jJj (jKb jYb)))))
theorem jXf(T:Txt K mg):CalM P w K mg base 3 "Chart" "way_by" ["self","mark"] jKk:=
 kKy (let ⟨C,h⟩:=T.k_Chart;⟨C,h.cn,h.cl,h.m_way_by⟩) jYx λ_ _ _ _ _ _ _ hr hu nd=>
  (jJd (jJ2 (i:=2) nd (kJ6 (jQ3 T) (hr.mono (by decide)) (jJb 0) (jJa (jJb 1) jJe)))
   (jJd (jJ2 (i:=3) nd (jJz (qQj T) (hr.mono (by decide)) (jJa (jQg (jK0 T) (hr.mono (by decide)) (jJb 0)) jJe)))
   (jJj (jKb (kUi (jKo (qQo hu) (jJb 2) (jJz (jUa T) (hr.mono (by decide)) (jJa (jJb 3) (jJa (jQr (jKh T) (jJb 0)) jJe))) (jJr _)) (jJz (kVa T) (hr.mono (by decide)) (jJa (jJb 3) (jJa (jQr (jKh T) (jJb 0)) (jJa (jJb 2) jJe)))) jYb)))))
theorem jXh(T:Txt K mg):CalM P w K mg base 2 "Chart" "forget" ["self","mark","door"] jJ3:=
 kKy (let ⟨C,h⟩:=T.k_Chart;⟨C,h.cn,h.cl,h.m_forget⟩) jYz λ_ _ _ _ _ _ _ hr hu nd=>
  (jJd (jJ2 (i:=3) nd (jQ6 (jJa (kJ6 (jQ3 T) (hr.mono (by decide)) (jJb 0) (jJa (jJb 1) jJe)) (jJa (jJb 2) jJe))))
   (jJd (s_if (kXh (kXi (qQn hu) o_lt jJi (jJb 2) (e_ix (ix_F hu) (jQr (jKj T) (jJb 0)) (e_ix (ix_F hu) (jJb 3) jJi (λ_ _=>rfl)) (λ_ _=>rfl)))) jZr jJ9)
   (jJj (s_if (jKo (qQo hu) (jJb 3) (jQr (jKi T) (jJb 0)) (jJr _)) (jJd (jJ2 (i:=4) nd (e_bm lXa lXx PySem.F.type_dict_pop (qZa hu) (jQr (jKi T) (jJb 0)) (jJa (jJb 3) jJe)))
   (jJj (jQk (e_bm lXa lXx PySem.F.type_dict_pop (qZa hu) (jQr (jKi T) (jJb 0)) (jJa (jJb 4) (jJa jYb jJe)))))) jJ9))))
theorem jU1(T:Txt K mg):CalM P w K mg base 4 "Chart" "whole" ["self"] jK7:=
 kKy (let ⟨C,h⟩:=T.k_Chart;⟨C,h.cn,h.cl,h.m_whole⟩) jZf λ_ _ _ _ _ _ _ hr hu nd=>
  (jJd (s_if (qVl kQn (jQg (jUn T) (hr.mono (by decide)) (jJb 0))) jZr jJ9)
   (jJj (jKb (jQg (jK0 T) (hr.mono (by decide)) (jJb 0)))))
theorem kX1(T:Txt K mg):Cal P w K mg base 1 "_law_folded" ["_law_script","_law_many"] jX0:=
 cal3 T.f_l_folded kQ4 λ_ _ _ _ _ _ _ hr hu nd=>
  (jJd (jJ2 (i:=2) nd (jKu uKm (by rfl) T.n_list rfl (jJa (qUo sl_F (jJb 0) uQq (qQg (jJb 1))) jJe)))
   (jJd (jQy lJs rfl (kVn rfl T.n_enumerate rfl (jJa (qUo sl_F (jJb 0) (qQg (jJb 1)) (qQg jJi)) jJe)) (jUp rfl (jJs (jJn (i:=3) nd) (jJs (jJn (i:=4) nd) jQj))) (jJj (jVz (e_op o_addF (e_ix (ix_F hu) (jJb 2) (e_op jX7 (jJb 3) (jJb 1)) (λ_ _=>rfl)) (e_op jUo (jJb 4) (e_op o_addF (jJb 3) jJi))) (jYs (jJb 2) (e_op jX7 (jJb 3) (jJb 1)) (s_F hu)))))
   (jJj (jKb (jJb 2)))))
theorem qXe(T:Txt K mg):Cal P w K mg base 1 "_law_box" ["_law_script","_law_k"] kQt:=
 cal3 T.f_l_box qJf λ_ _ _ _ _ _ _ hr hu nd=>
  (jJd (jJ2 (i:=2) nd (e_ix (ix_F hu) (e_op o_addF (jJb 0) (e_op jUo (jUg (jJa jJi jJe)) (e_op o_addF (jJb 1) jJi))) (jJb 1) (λ_ _=>rfl)))
   (jJj (jKb (jUg (jJa (e_op jUo (jJw uU3 (by rfl) T.n_abs rfl (jJa (jJb 2) jJe)) (jKu uXd (by rfl) T.n_int rfl (jJa (qJw o_ge (jJw uU3 (by rfl) T.n_abs rfl (jJa (jJb 2) jJe)) (e_op uVs jJi jJi) (jJr _)) jJe))) (jJa (e_op jX7 (e_op jUo (e_op o_addF (e_op o_addF (e_op jX7 (jJb 2) jJi) (e_op jUo jJi (jJb 1))) jJi) jJi) jJi) (jJa jJi jJe)))))))
theorem jJ6(T:Txt K mg):Cal P w K mg base 1 "_law_take" ["_law_box_here","_law_many"] jJx:=
 cal3 T.f_l_take kXq λ_ _ _ _ _ _ _ hr hu nd=>
  (jJd (s_if (jKo o_gt (e_ix (ix_F hu) (jJb 0) jJi (λ_ _=>rfl)) jJi (jJr _)) (jJd (jVz (jJw qYm (by rfl) T.n_divmod rfl (jJa (e_ix (ix_F hu) (jJb 0) jJi (λ_ _=>rfl)) (jJa (jJb 1) jJe))) (jUp rfl (jJs (jYs (jJb 0) jJi (s_F hu)) (jJs (jJn (i:=2) nd) jQj))))
   (jJj (jKb (jJb 2)))) jJ9)
   (jJd (jVz (e_op o_addF (e_ix (ix_F hu) (jJb 0) jJi (λ_ _=>rfl)) jJi) (jYs (jJb 0) jJi (s_F hu)))
   (jJd (jJ2 (i:=3) nd (e_op jX7 (e_op jUo (e_op o_addF (e_ix (ix_F hu) (jJb 0) jJi (λ_ _=>rfl)) (e_op jUo jJi (e_ix (ix_F hu) (jJb 0) jJi (λ_ _=>rfl)))) (e_op o_addF jJi (e_ix (ix_F hu) (jJb 0) jJi (λ_ _=>rfl)))) jJi))
   (jJd (jVz (e_op jX7 (e_op o_addF (e_op jUo (jJb 3) (e_op o_addF (e_op jX7 (jJb 3) jJi) jJi)) (e_ix (ix_F hu) (jJb 0) jJi (λ_ _=>rfl))) jJi) (jYs (jJb 0) jJi (s_F hu)))
   (jJj (jKb (e_op jX7 (e_op uQ4 (e_op jX7 (e_op jUo (e_ix (ix_F hu) (jJb 0) jJi (λ_ _=>rfl)) (e_op o_addF (e_op jX7 (e_ix (ix_F hu) (jJb 0) jJi (λ_ _=>rfl)) jJi) jJi)) jJi) jJi) (jJb 1))))))))
theorem kX0(T:Txt K mg):Cal P w K mg base 1 "_law_joined" ["_law_halves"] jXz:=
 cal3 T.f_l_joined kQ3 λ_ _ _ _ _ _ _ hr hu nd=>
  (jJd (jJ2 (i:=1) nd uUv)
   (jJd (jQy lJs rfl (jKw rfl T.n_range (jJa (jJw jQq (by rfl) T.n_len lJu (jJa (jJb 0) jJe)) jJe)) (jJn (i:=2) nd) (jJj (jQy lJs rfl (kVn rfl T.n_enumerate rfl (jJa (e_ix (ix_F hu) (jJb 0) (jJb 2) (λ_ _=>rfl)) jJe)) (jUp rfl (jJs (jJn (i:=3) nd) (jJs (jJn (i:=4) nd) jQj))) (jJj (jVz (jQ6 (jJa (jJb 2) (jJa (jJb 3) jJe))) (jYs (jJb 1) (jJb 4) (s_F hu)))))))
   (jJd (jJ2 (i:=5) nd (jUg jJe))
   (jJd (jQy lJs rfl (jVv (jJb 0)) (jJn (i:=6) nd) (jJj (jQk (e_bm lKc lK6 lK7 jQl (jJb 5) (jJa (jKu jQ1 (by rfl) T.n_tuple rfl (jJa (jUs (mask:=[fF,fF,fF,fF,fF,fF,fF,tT,tT]) rfl ⟨rfl,rfl,rfl,rfl,rfl,rfl,rfl⟩ (jVv (jJb 6)) (kVp (jU4 jKg jQp (jU4 jKg jQp kVq jXu) (kJ3 jQp jXu))) (λC fp s H=>(jUp rfl (jJs (jJn (i:=7) nd) (jJs (jJn (i:=8) nd) jQj)))) (λC fp s H=>jVc) (λC fp s H=>(e_ix (ix_F hu) (jJb 1) (jQ6 (jJa (jJb 7) (jJa (e_ix (ix_F hu) (jUg (jJa jJi (jJa jJi (jJa jJi jJe)))) (jJb 8) (λ_ _=>rfl)) jJe))) (λ_ _=>rfl)))) jJe)) jJe)))))
   (jJj (jKb (jKu jQ1 (by rfl) T.n_tuple rfl (jJa (jJb 5) jJe))))))))
theorem kKs(T:Txt K mg):Cal P w K mg base 2 "_law_doors_put" ["_law_box_here","_law_pairs","_law_many"] jUv:=
 cal3 T.f_l_doors_put jZe λ_ _ _ _ _ _ _ hr hu nd=>
  (jJd (kK4 (i:=3) (mask:=[fF,fF,fF,fF,fF,fF,fF,fF,tT,fF]) rfl nd ⟨rfl,rfl,rfl,rfl,rfl,rfl,rfl⟩ (jKw rfl T.n_range (jJa (jJb 2) jJe)) jKg (λC fp s H=>(jJn (i:=8) nd)) (λC fp s H=>jVc) (λC fp s H=>(jUg jJe)))
   (jJd (jQy lJs rfl (kVn rfl T.n_enumerate rfl (jJa (jJb 1) jJe)) (jUp rfl (jJs (jJn (i:=4) nd) (jJs (jUp rfl (jJs (jJn (i:=5) nd) (jJs (jJn (i:=6) nd) jQj))) jQj))) (jJd (jJ2 (i:=7) nd (kUi (jKo (jZk hr.units) (jJb 6) (jJb 2) (jJr _)) (jUg (jJa (jQ6 (jJa (jJb 5) (jJa jJi jJe))) jJe)) (jUg (jJa (jQ6 (jJa (jJb 5) (jJa jJi jJe))) (jJa (jQ6 (jJa (jJb 6) (jJa jJi jJe))) jJe)))))
   (jJj (jQy lJs rfl (jVv (jJb 7)) (jUp rfl (jJs (jJn (i:=8) nd) (jJs (jJn (i:=9) nd) jQj))) (jJj (jQk (e_bm lKc PySem.F.slot_list_insert PySem.F.type_list_insert kZd (e_ix (ix_F hu) (jJb 3) (jJb 8) (λ_ _=>rfl)) (jJa (jJz (jJ6 T) (hr.mono (by decide)) (jJa (jJb 0) (jJa (e_op o_addF (jJw jQq (by rfl) T.n_len lJu (jJa (e_ix (ix_F hu) (jJb 3) (jJb 8) (λ_ _=>rfl)) jJe)) jJi) jJe))) (jJa (jQ6 (jJa (jJb 4) (jJa (jJb 9) jJe))) jJe)))))))))
   (jJj (jKb (jJz (kX0 T) (hr.mono (by decide)) (jJa (jJb 3) jJe))))))
theorem kQ7(T:Txt K mg):Cal P w K mg base 3 "_law_web" ["_law_box_here","_law_many","_law_most"] jYg:=
 cal3 T.f_l_web qJe λ_ _ _ _ _ _ _ hr hu nd=>
  (jJd (jJ2 (i:=3) nd (e_op jUo (jUg (jJa jJi jJe)) (jJb 1)))
   (jJd (jJ2 (i:=4) nd (jUg jJe))
   (jJd (jQy lJs rfl (qX2 rfl T.n_range (jJa jJi (jJa (jJb 1) jJe))) (jJn (i:=5) nd) (jJd (kK4 (i:=6) (mask:=[fF,fF,fF,fF,fF,fF,fF,fF,fF,fF,fF,tT]) rfl nd ⟨rfl,rfl,rfl,rfl,rfl,rfl,rfl⟩ (jKw rfl T.n_range (jJa (jJb 5) jJe)) jKg (λC fp s H=>(jJn (i:=11) nd)) (λC fp s H=>(kJz (jKo o_lt (e_ix (ix_F hu) (jJb 3) (jJb 11) (λ_ _=>rfl)) (jJb 2) (jJr _)))) (λC fp s H=>(jJb 11)))
   (jJd (jQk (e_bm lKc lK6 lK7 jQl (jJb 4) (jJa (jQ6 (jJa (e_ix (ix_F hu) (jJb 6) (jJz (jJ6 T) (hr.mono (by decide)) (jJa (jJb 0) (jJa (jJw jQq (by rfl) T.n_len lJu (jJa (jJb 6) jJe)) jJe))) (λ_ _=>rfl)) (jJa (jJb 5) jJe))) jJe)))
   (jJj (jQy lJs rfl (jVv (e_ix (ix_F hu) (jJb 4) (e_un uVb jJi) (λ_ _=>rfl))) (jJn (i:=7) nd) (jJj (jVz (e_op o_addF (e_ix (ix_F hu) (jJb 3) (jJb 7) (λ_ _=>rfl)) jJi) (jYs (jJb 3) (jJb 7) (s_F hu)))))))))
   (jJd (jQy lJs rfl (jKw rfl T.n_range (jJa (jJz (jJ6 T) (hr.mono (by decide)) (jJa (jJb 0) (jJa (e_op o_addF (jJb 1) jJi) jJe))) jJe)) (jJn (i:=8) nd) (jJd (jJ2 (i:=9) nd (jQ6 (jJa (jJz (jJ6 T) (hr.mono (by decide)) (jJa (jJb 0) (jJa (jJb 1) jJe))) (jJa (jJz (jJ6 T) (hr.mono (by decide)) (jJa (jJb 0) (jJa (e_op o_addF (jJb 1) jJi) jJe))) jJe))))
   (jJd (jJ2 (i:=10) nd (jUs (mask:=[fF,fF,fF,fF,fF,fF,fF,tT,fF,fF,fF,fF]) rfl ⟨rfl,rfl,rfl,rfl,rfl,rfl,rfl⟩ (jVv (jJb 9)) jKg (λC fp s H=>(jJn (i:=7) nd)) (λC fp s H=>(kJz (jKo o_lt (jJb 7) (jJb 1) (jJr _)))) (λC fp s H=>(jJb 7))))
   (jJj (s_if (qVk (jJw (uXe rfl) (by rfl) T.n_all rfl (jJa (jUs (mask:=[fF,fF,fF,fF,fF,fF,fF,tT,fF,fF,fF,fF]) rfl ⟨rfl,rfl,rfl,rfl,rfl,rfl,rfl⟩ (jVv (jJb 10)) jKg (λC fp s H=>(jJn (i:=7) nd)) (λC fp s H=>jVc) (λC fp s H=>(qJw (qQn hu) (e_op o_addF (e_ix (ix_F hu) (jJb 3) (jJb 7) (λ_ _=>rfl)) (e_bm lKc PySem.F.slot_list_count PySem.F.type_list_count uJp (jJb 10) (jJa (jJb 7) jJe))) (jJb 2) (jJr _)))) jJe))) (jJd (jQk (e_bm lKc lK6 lK7 jQl (jJb 4) (jJa (jJb 9) jJe)))
   (jJj (jQy lJs rfl (jVv (jJb 10)) (jJn (i:=7) nd) (jJj (jVz (e_op o_addF (e_ix (ix_F hu) (jJb 3) (jJb 7) (λ_ _=>rfl)) jJi) (jYs (jJb 3) (jJb 7) (s_F hu))))))) jJ9)))))
   (jJj (jKb (jJz (kKs T) (hr.mono (by decide)) (jJa (jJb 0) (jJa (jJb 4) (jJa (jJb 1) jJe))))))))))
theorem qQl(T:Txt K mg):Cal P w K mg base 1 "_law_ring" ["_law_many"] jZ7:=
 cal3 T.f_l_ring kXr λ_ _ _ _ _ _ _ hr hu nd=>
  (jJj (jKb (jKu jQ1 (by rfl) T.n_tuple rfl (jJa (jUs (mask:=[fF,tT]) rfl ⟨rfl,rfl,rfl,rfl,rfl,rfl,rfl⟩ (jKw rfl T.n_range (jJa (jJb 0) jJe)) jKg (λC fp s H=>(jJn (i:=1) nd)) (λC fp s H=>jVc) (λC fp s H=>(jQ6 (jJa (jQ6 (jJa (e_op jX7 (e_op o_addF (jJb 1) jJi) (jJb 0)) (jJa jJi jJe))) (jJa (jQ6 (jJa (e_op jX7 (e_op uJj (jJb 1) jJi) (jJb 0)) (jJa jJi jJe))) jJe))))) jJe))))
theorem kJo(T:Txt K mg):Cal P w K mg base 1 "_law_ends" ["_law_web_here"] jU5:=
 cal3 T.f_l_ends kXt λ_ _ _ _ _ _ _ hr hu nd=>
  (jJd (jJ2 (i:=1) nd (jUg jJe))
   (jJd (jQy lJs rfl (jKw rfl T.n_range (jJa (jJw jQq (by rfl) T.n_len lJu (jJa (jJb 0) jJe)) jJe)) (jJn (i:=2) nd) (jJj (jQy lJs rfl (jKw rfl T.n_range (jJa (jJw jQq (by rfl) T.n_len lJu (jJa (e_ix (ix_F hu) (jJb 0) (jJb 2) (λ_ _=>rfl)) jJe)) jJe)) (jJn (i:=3) nd) (jJj (s_if (jKo (qQn hu) (jQ6 (jJa (jJb 2) (jJa (jJb 3) jJe))) (e_ix (ix_F hu) (e_ix (ix_F hu) (jJb 0) (jJb 2) (λ_ _=>rfl)) (jJb 3) (λ_ _=>rfl)) (jJr _)) (jJj (jQk (e_bm lKc lK6 lK7 jQl (jJb 1) (jJa (jQ6 (jJa (jQ6 (jJa (jJb 2) (jJa (jJb 3) jJe))) (jJa (e_ix (ix_F hu) (e_ix (ix_F hu) (jJb 0) (jJb 2) (λ_ _=>rfl)) (jJb 3) (λ_ _=>rfl)) jJe))) jJe)))) jJ9)))))
   (jJj (jKb (jJb 1)))))
theorem kVc(T:Txt K mg):Cal P w K mg base 1 "_law_reached" ["_law_web_here","_law_room"] jV6:=
 cal3 T.f_l_reached kKn λ_ _ _ _ _ _ _ hr hu nd=>
  (jJd (jJ2 (i:=2) nd (jUg (jJa (jJb 1) jJe)))
   (jJd (jJ2 (i:=3) nd jJi)
   (jJd (kQx lJs (jKo o_lt (jJb 3) (jJw jQq (by rfl) T.n_len lJu (jJa (jJb 2) jJe)) (jJr _)) (jJd (jQy lJs rfl (jVv (e_ix (ix_F hu) (jJb 0) (e_ix (ix_F hu) (jJb 2) (jJb 3) (λ_ _=>rfl)) (λ_ _=>rfl))) (jUp rfl (jJs (jJn (i:=4) nd) (jJs (jJn (i:=5) nd) jQj))) (jJj (s_if (jKo (jYp hu) (jJb 4) (jJb 2) (jJr _)) (jJj (jQk (e_bm lKc lK6 lK7 jQl (jJb 2) (jJa (jJb 4) jJe)))) jJ9)))
   (jJj (jJ2 (i:=3) nd (e_op o_addF (jJb 3) jJi)))))
   (jJj (jKb (jJb 2))))))
theorem kVb(T:Txt K mg):Cal P w K mg base 2 "_law_sheeted" ["_law_web_here","_law_turns","_law_many"] jV5:=
 cal3 T.f_l_sheeted kKm λ_ _ _ _ _ _ _ hr hu nd=>
  (jJd (kK4 (i:=3) (mask:=[fF,fF,fF,fF,fF,fF,fF,fF,fF,fF,tT,fF]) rfl nd ⟨rfl,rfl,rfl,rfl,rfl,rfl,rfl⟩ (jKw rfl T.n_range (jJa (e_op jUo (jJb 2) (jJw jQq (by rfl) T.n_len lJu (jJa (jJb 0) jJe))) jJe)) jKg (λC fp s H=>(jJn (i:=10) nd)) (λC fp s H=>jVc) (λC fp s H=>(e_op jUo (jUg (jJa jYb jJe)) (jJw jQq (by rfl) T.n_len lJu (jJa (e_ix (ix_F hu) (jJb 0) (e_op jX7 (jJb 10) (jJw jQq (by rfl) T.n_len lJu (jJa (jJb 0) jJe))) (λ_ _=>rfl)) jJe)))))
   (jJd (jQy lJs rfl (kVn rfl T.n_enumerate rfl (jJa (jJz (kJo T) (hr.mono (by decide)) (jJa (jJb 0) jJe)) jJe)) (jUp rfl (jJs (jJn (i:=4) nd) (jJs (jUp rfl (jJs (jJn (i:=5) nd) (jJs (jJn (i:=6) nd) jQj))) jQj))) (jJj (jQy lJs rfl (jKw rfl T.n_range (jJa (jJb 2) jJe)) (jJn (i:=7) nd) (jJd (jJ2 (i:=8) nd (e_op o_addF (e_ix (ix_F hu) (jJb 5) jJi (λ_ _=>rfl)) (e_op jUo (jJb 7) (jJw jQq (by rfl) T.n_len lJu (jJa (jJb 0) jJe)))))
   (jJd (jJ2 (i:=9) nd (e_op o_addF (e_ix (ix_F hu) (jJb 6) jJi (λ_ _=>rfl)) (e_op jUo (e_ix (ix_F hu) (e_ix (ix_F hu) (jJb 1) (jJb 4) (λ_ _=>rfl)) (jJb 7) (λ_ _=>rfl)) (jJw jQq (by rfl) T.n_len lJu (jJa (jJb 0) jJe)))))
   (jJd (jVz (jQ6 (jJa (jJb 9) (jJa (e_ix (ix_F hu) (jJb 6) jJi (λ_ _=>rfl)) jJe))) (jYs (e_ix (ix_F hu) (jJb 3) (jJb 8) (λ_ _=>rfl)) (e_ix (ix_F hu) (jJb 5) jJi (λ_ _=>rfl)) (s_F hu)))
   (jJj (jVz (jQ6 (jJa (jJb 8) (jJa (e_ix (ix_F hu) (jJb 5) jJi (λ_ _=>rfl)) jJe))) (jYs (e_ix (ix_F hu) (jJb 3) (jJb 9) (λ_ _=>rfl)) (e_ix (ix_F hu) (jJb 6) jJi (λ_ _=>rfl)) (s_F hu))))))))))
   (jJj (jKb (jKu jQ1 (by rfl) T.n_tuple rfl (jJa (jUs (mask:=[fF,fF,fF,fF,fF,fF,fF,fF,fF,fF,fF,tT]) rfl ⟨rfl,rfl,rfl,rfl,rfl,rfl,rfl⟩ (jVv (jJb 3)) jKg (λC fp s H=>(jJn (i:=11) nd)) (λC fp s H=>jVc) (λC fp s H=>(jKu jQ1 (by rfl) T.n_tuple rfl (jJa (jJb 11) jJe)))) jJe))))))
theorem qQk(T:Txt K mg):Cal P w K mg base 2 "_law_turn" ["_law_box_here","_law_many","_law_own"] jZ6:=
 cal3 T.f_l_turn kXp λ_ _ _ _ _ _ _ hr hu nd=>
  (jJd (jJ2 (i:=3) nd (jUg jJe))
   (jJd (jQy lJs rfl (jKw rfl T.n_range (jJa (jJb 1) jJe)) (jJn (i:=4) nd) (jJj (jQk (e_bm lKc PySem.F.slot_list_insert PySem.F.type_list_insert kZd (jJb 3) (jJa (jJz (jJ6 T) (hr.mono (by decide)) (jJa (jJb 0) (jJa (e_op o_addF (jJb 4) jJi) jJe))) (jJa (jJb 4) jJe))))))
   (jJd (s_if (kXh (qVl kQn (jJb 2))) (jJj (jKb (jKu jQ1 (by rfl) T.n_tuple rfl (jJa (jJb 3) jJe)))) jJ9)
   (jJd (jJ2 (i:=5) nd (kJ7 rfl T.n_list rfl T.n_range rfl (jJa (jJb 1) jJe)))
   (jJd (jQy lJs rfl (qX1 rfl T.n_range (jJa jJi (jJa (e_op uJj (jJb 1) jJi) (jJa jJi jJe)))) (jJn (i:=4) nd) (jJd (uQd (i:=6) (j:=7) rfl nd (by decide) (jJa (e_ix (ix_F hu) (jJb 3) (jJb 4) (λ_ _=>rfl)) (jJa (e_ix (ix_F hu) (jJb 3) (e_op o_addF (jJb 4) jJi) (λ_ _=>rfl)) jJe)))
   (jJd (jVz (jJb 7) (jYs (jJb 5) (jJb 6) (s_F hu)))
   (jJj (jVz (jJb 6) (jYs (jJb 5) (jJb 7) (s_F hu)))))))
   (jJj (jKb (jKu jQ1 (by rfl) T.n_tuple rfl (jJa (jJb 5) jJe)))))))))
theorem kVd(T:Txt K mg):Cal P w K mg base 3 "_law_covered" ["_law_box_here","_law_web_here","_law_many"] jV7:=
 cal3 T.f_l_covered kKo λ_ _ _ _ _ _ _ hr hu nd=>
  (jJd (jQy lJs rfl (jKw rfl T.n_range (jJa jJi jJe)) (jJn (i:=3) nd) (jJd (kK4 (i:=4) (mask:=[fF,fF,fF,fF,fF,fF,tT]) rfl nd ⟨rfl,rfl,rfl,rfl,rfl,rfl,rfl⟩ (jVv (jJz (kJo T) (hr.mono (by decide)) (jJa (jJb 1) jJe))) jKg (λC fp s H=>(jJn (i:=6) nd)) (λC fp s H=>jVc) (λC fp s H=>(jJz (qQk T) (hr.mono (by decide)) (jJa (jJb 0) (jJa (jJb 2) (jJa (qJw (jZk hr.units) (e_ix (ix_F hu) (jJb 6) jJi (λ_ _=>rfl)) (e_ix (ix_F hu) (jJb 6) jJi (λ_ _=>rfl)) (jJr _)) jJe))))))
   (jJd (jJ2 (i:=5) nd (jJz (kVb T) (hr.mono (by decide)) (jJa (jJb 1) (jJa (jJb 4) (jJa (jJb 2) jJe)))))
   (jJj (s_if (jKo (jZk hr.units) (jJw jQq (by rfl) T.n_len lJu (jJa (jJz (kVc T) (hr.mono (by decide)) (jJa (jJb 5) (jJa jJi jJe))) jJe)) (jJw jQq (by rfl) T.n_len lJu (jJa (jJb 5) jJe)) (jJr _)) (jJj (jKb (jJb 5))) jJ9)))))
   (jJj (jKb (jJb 1))))
theorem kVe(T:Txt K mg):Cal P w K mg base 4 "_law_any_web" ["_law_box_here"] jV8:=
 cal3 T.f_l_any_web kKq λ_ _ _ _ _ _ _ hr hu nd=>
  (jJd (jJ2 (i:=1) nd (jJz (jJ6 T) (hr.mono (by decide)) (jJa (jJb 0) (jJa jJi jJe))))
   (jJd (s_if (jKo (jZk hr.units) (jJb 1) jJi (jJr _)) (jJj (jKb (jJz (kQ7 T) (hr.mono (by decide)) (jJa (jJb 0) (jJa (e_op o_addF jJi (jJz (jJ6 T) (hr.mono (by decide)) (jJa (jJb 0) (jJa jJi jJe)))) (jJa (e_op o_addF jJi (jJz (jJ6 T) (hr.mono (by decide)) (jJa (jJb 0) (jJa jJi jJe)))) jJe)))))) jJ9)
   (jJd (s_if (jKo o_lt (jJb 1) jJi (jJr _)) (jJj (jKb (jJz (kQ7 T) (hr.mono (by decide)) (jJa (jJb 0) (jJa (e_op o_addF jJi (jJz (jJ6 T) (hr.mono (by decide)) (jJa (jJb 0) (jJa jJi jJe)))) (jJa (e_op o_addF jJi (jJz (jJ6 T) (hr.mono (by decide)) (jJa (jJb 0) (jJa jJi jJe)))) jJe)))))) jJ9)
   (jJd (s_if (jKo (jZk hr.units) (jJb 1) jJi (jJr _)) (jJj (jKb (jJz (qQl T) (hr.mono (by decide)) (jJa (e_op o_addF jJi (jJz (jJ6 T) (hr.mono (by decide)) (jJa (jJb 0) (jJa jJi jJe)))) jJe)))) jJ9)
   (jJd (jJ2 (i:=2) nd (jJz (kQ7 T) (hr.mono (by decide)) (jJa (jJb 0) (jJa (e_op o_addF jJi (jJz (jJ6 T) (hr.mono (by decide)) (jJa (jJb 0) (jJa jJi jJe)))) (jJa (e_op o_addF jJi (jJz (jJ6 T) (hr.mono (by decide)) (jJa (jJb 0) (jJa jJi jJe)))) jJe)))))
   (jJd (jJ2 (i:=3) nd (e_op o_addF jJi (jJz (jJ6 T) (hr.mono (by decide)) (jJa (jJb 0) (jJa (e_ix (ix_F hu) (jUg (jJa jJi (jJa jJi (jJa jJi (jJa jJi jJe))))) (e_op uJj (jJw jQq (by rfl) T.n_len lJu (jJa (jJb 2) jJe)) jJi) (λ_ _=>rfl)) jJe)))))
   (jJj (jKb (jJz (kVd T) (hr.mono (by decide)) (jJa (jJb 0) (jJa (jJb 2) (jJa (jJb 3) jJe))))))))))))
theorem jKl(T:Txt K mg):Cal P w K mg base 1 "_law_mark" ["_law_room"] jJp:=
 cal3 T.f_l_mark kXs λ_ _ _ _ _ _ _ hr hu nd=>
  (jJd (jJ2 (i:=1) nd (e_ix ix_S kKx (e_op jX7 (e_op o_addF (e_op jUo (jJb 0) jJi) jJi) jJi) (λ_ _=>rfl)))
   (jJj (jKb (e_op uQ3 (jJb 1) (e_ix (ix_F hu) (jUg (jJa jJi (jJa jJi (jJa jJi (jJa jJi (jJa jJi jJe)))))) (e_op jX7 (jJb 0) jJi) (λ_ _=>rfl))))))
theorem jZa(T:Txt K mg):Cal P w K mg base 5 "_law_charted" ["_law_web_here","_law_room","_law_chart"] jQb:=
 cal3 T.f_l_charted kKp λ_ _ _ _ _ _ _ hr hu nd=>
  (jJd (jJ2 (i:=3) nd jJi)
   (jJd (jJ2 (i:=4) nd (jQg (jU8 T) (hr.mono (by decide)) (jJb 2)))
   (jJd (kQx lJs (jKo kZb (jJb 4) jYb (jJr _)) (jJd (jQy lJs rfl (jVv (jJb 4)) (jJn (i:=5) nd) (jJd (jVz (e_ix (ix_F hu) (e_ix (ix_F hu) (jJb 0) (jJb 1) (λ_ _=>rfl)) (jJb 5) (λ_ _=>rfl)) (jUp rfl (jJs (jJn (i:=1) nd) (jJs (jJn (i:=6) nd) jQj))))
   (jJd (jQk (kUh qZi (jUe T) (hr.mono (by decide)) (jJb 2) (jJa (jJb 5) (jJa (jJb 6) (jJa (jJz (jKl T) (hr.mono (by decide)) (jJa (jJb 1) jJe)) (jJa (jJw jQq (by rfl) T.n_len lJu (jJa (e_ix (ix_F hu) (jJb 0) (jJb 1) (λ_ _=>rfl)) jJe)) jJe))))))
   (jJj (jJ2 (i:=3) nd (e_op o_addF (jJb 3) jJi))))))
   (jJd (jJ2 (i:=4) nd (jQg (jU8 T) (hr.mono (by decide)) (jJb 2)))
   (jJj (s_if (jKo o_gt (jJb 3) jJi (jJr _)) (jJj (jKb jYb)) jJ9)))))
   (jJj (jKb (jQ6 (jJa (jJb 1) (jJa (jJb 3) jJe))))))))
theorem kKr(T:Txt K mg):Cal P w K mg base 2 "_law_whole_due" ["_law_web_here","_law_chart"] jUu:=
 cal3 T.f_l_whole_due jZd λ_ _ _ _ _ _ _ hr hu nd=>
  (jJd (jJ2 (i:=2) nd (jUs (mask:=[fF,fF,fF,tT,tT,fF,fF,fF]) rfl ⟨rfl,rfl,rfl,rfl,rfl,rfl,rfl⟩ (jVv (jQg (kKt T) (hr.mono (by decide)) (jJb 1))) (kVp (jU4 jKg jQp (jU4 jKg jQp kVq jXu) (kJ3 jQp jXu))) (λC fp s H=>(jUp rfl (jJs (jJn (i:=3) nd) (jJs (jJn (i:=4) nd) jQj)))) (λC fp s H=>jVc) (λC fp s H=>(e_bm lKc lX4 lX5 kUc (jUs (mask:=[fF,fF,fF,fF,fF,tT,fF,fF]) rfl ⟨rfl,rfl,rfl,rfl,rfl,rfl,rfl⟩ (jKw rfl T.n_range (jJa (jJw jQq (by rfl) T.n_len lJu (jJa (jJb 0) jJe)) jJe)) jKg (λC fp s H=>(jJn (i:=5) nd)) (λC fp s H=>jVc) (λC fp s H=>(jJz (jKl T) (hr.mono (by decide)) (jJa (jJb 5) jJe)))) (jJa (jJb 3) jJe)))))
   (jJd (s_if (jKo (jY3 hr.units) (jJw uKk (by rfl) T.n_sorted rfl (jJa (jJb 2) jJe)) (kJ7 rfl T.n_list rfl T.n_range rfl (jJa (jJw jQq (by rfl) T.n_len lJu (jJa (jJb 0) jJe)) jJe)) (jJr _)) (jJj (jKb jYb)) jJ9)
   (jJj (jKb (jKu jQ1 (by rfl) T.n_tuple rfl (jJa (jUs (mask:=[fF,fF,fF,fF,fF,tT,fF,fF]) rfl ⟨rfl,rfl,rfl,rfl,rfl,rfl,rfl⟩ (jVv (jJb 2)) jKg (λC fp s H=>(jJn (i:=5) nd)) (λC fp s H=>jVc) (λC fp s H=>(jKu jQ1 (by rfl) T.n_tuple rfl (jJa (jUs (mask:=[fF,fF,fF,fF,fF,fF,tT,tT]) rfl ⟨rfl,rfl,rfl,rfl,rfl,rfl,rfl⟩ (jVv (e_ix (ix_F hu) (jJb 0) (jJb 5) (λ_ _=>rfl))) (kVp (jU4 jKg jQp (jU4 jKg jQp kVq jXu) (kJ3 jQp jXu))) (λC fp s H=>(jUp rfl (jJs (jJn (i:=6) nd) (jJs (jJn (i:=7) nd) jQj)))) (λC fp s H=>jVc) (λC fp s H=>(jQ6 (jJa (e_bm lKc lX4 lX5 kUc (jJb 2) (jJa (jJb 6) jJe)) (jJa (jJb 7) jJe))))) jJe)))) jJe))))))
theorem jY2(T:Txt K mg):Cal P w K mg base 5 "_law_clash" ["_law_chart","_law_door","_law_came","_law_mark_here","_law_doors"] jK6:=
 cal3 T.f_l_clash kU4 λ_ _ _ _ _ _ _ hr hu nd=>
  (jJd (jJ2 (i:=5) nd jYb)
   (jJd (uVf (i:=6) (cs:=["Clash:doors","Clash:end","Clash:taken"]) (λ_ _ h=>h) nd (qZu (qZv (uJ8 (λ_ _ h=>h) (jUe T) (hr.mono (by decide)) (jJb 0) (jJa (jJb 1) (jJa (jJb 2) (jJa (jJb 3) (jJa (jJb 4) jJe))))))) (λa=>(jJj (jJ2 (i:=5) nd (uV6 T.y_Clash (jJb 6))))) T.t_Clash)
   (jJj (jKb (jJb 5)))))
theorem kJn(T:Txt K mg):Cal P w K mg base 5 "_law_walked" ["_law_web_here","_law_room","_law_chart","_law_goal"] jK1:=
 cal3 T.f_l_walked kQ2 λ_ _ _ _ _ _ _ hr hu nd=>
  (jJd (jQy lJs rfl (jVv (kJ6 (jXf T) (hr.mono (by decide)) (jJb 2) (jJa (jJz (jKl T) (hr.mono (by decide)) (jJa (jJb 3) jJe)) jJe))) (jJn (i:=4) nd) (jJd (jVz (e_ix (ix_F hu) (e_ix (ix_F hu) (jJb 0) (jJb 1) (λ_ _=>rfl)) (jJb 4) (λ_ _=>rfl)) (jUp rfl (jJs (jJn (i:=1) nd) (jJs (jJn (i:=5) nd) jQj))))
   (jJj (jQk (kUh qZi (jUe T) (hr.mono (by decide)) (jJb 2) (jJa (jJb 4) (jJa (jJb 5) (jJa (jJz (jKl T) (hr.mono (by decide)) (jJa (jJb 1) jJe)) (jJa (jJw jQq (by rfl) T.n_len lJu (jJa (e_ix (ix_F hu) (jJb 0) (jJb 1) (λ_ _=>rfl)) jJe)) jJe)))))))))
   (jJj (jKb (uV8 (qJw (jZk hr.units) (jJb 1) (jJb 3) (jJr _)) (uV7 (qJw (jZk hr.units) (jQg (jVp T) (hr.mono (by decide)) (jJb 2)) (jJz (jKl T) (hr.mono (by decide)) (jJa (jJb 3) jJe)) (jJr _)))))))
theorem jZj(T:Txt K mg):Cal P w K mg base 6 "_law_wrong_right" ["_law_box_here","_law_web_here","_law_room","_law_chart"] jQ7:=
 cal3 T.f_l_wrong_right jYj λ_ _ _ _ _ _ _ hr hu nd=>
  (jJd (kK4 (i:=4) (mask:=[fF,fF,fF,fF,fF,fF,fF,fF,fF,tT]) rfl nd ⟨rfl,rfl,rfl,rfl,rfl,rfl,rfl⟩ (jVv (jJz (kJo T) (hr.mono (by decide)) (jJa (jJb 1) jJe))) jKg (λC fp s H=>(jJn (i:=9) nd)) (λC fp s H=>(kJz (jKo (jY3 hr.units) (e_ix (ix_F hu) (jJb 9) jJi (λ_ _=>rfl)) (e_ix (ix_F hu) (jJb 9) jJi (λ_ _=>rfl)) (jJr _)))) (λC fp s H=>(jJb 9)))
   (jJd (s_if (jKo (jZk hr.units) (jJb 4) (jUg jJe) (jJr _)) (jJj (jKb e_bl)) jJ9)
   (jJd (jVz (e_ix (ix_F hu) (jJb 4) (jJz (jJ6 T) (hr.mono (by decide)) (jJa (jJb 0) (jJa (jJw jQq (by rfl) T.n_len lJu (jJa (jJb 4) jJe)) jJe))) (λ_ _=>rfl)) (jUp rfl (jJs (jJn (i:=5) nd) (jJs (jJn (i:=6) nd) jQj))))
   (jJd (s_if (jKo (jZk hr.units) (jJz (jJ6 T) (hr.mono (by decide)) (jJa (jJb 0) (jJa jJi jJe))) jJi (jJr _)) (jJj (uQd (i:=5) (j:=6) rfl nd (by decide) (jJa (jJb 6) (jJa (jJb 5) jJe)))) jJ9)
   (jJd (s_if (kXh (qVk (jJz (kJn T) (hr.mono (by decide)) (jJa (jJb 1) (jJa (jJb 2) (jJa (jJb 3) (jJa (e_ix (ix_F hu) (jJb 5) jJi (λ_ _=>rfl)) jJe))))))) (jJj (jKb e_bl)) jJ9)
   (jJd (jQk (kJ6 (jXh T) (hr.mono (by decide)) (jJb 3) (jJa (jJz (jKl T) (hr.mono (by decide)) (jJa (e_ix (ix_F hu) (jJb 6) jJi (λ_ _=>rfl)) jJe)) (jJa (e_ix (ix_F hu) (jJb 6) jJi (λ_ _=>rfl)) jJe))))
   (jJd (jQk (kUh qZi (jUe T) (hr.mono (by decide)) (jJb 3) (jJa (e_ix (ix_F hu) (jJb 5) jJi (λ_ _=>rfl)) (jJa (e_ix (ix_F hu) (jJb 5) jJi (λ_ _=>rfl)) (jJa (jJz (jKl T) (hr.mono (by decide)) (jJa (e_ix (ix_F hu) (jJb 5) jJi (λ_ _=>rfl)) jJe)) (jJa (jJw jQq (by rfl) T.n_len lJu (jJa (e_ix (ix_F hu) (jJb 1) (e_ix (ix_F hu) (jJb 5) jJi (λ_ _=>rfl)) (λ_ _=>rfl)) jJe)) jJe))))))
   (jJd (jJ2 (i:=7) nd (jQg (jK0 T) (hr.mono (by decide)) (jJb 3)))
   (jJd (s_if (jKo (jY3 hr.units) (jJz (jY2 T) (hr.mono (by decide)) (jJa (jJb 3) (jJa (e_ix (ix_F hu) (jJb 5) jJi (λ_ _=>rfl)) (jJa (e_ix (ix_F hu) (jJb 6) jJi (λ_ _=>rfl)) (jJa (jJz (jKl T) (hr.mono (by decide)) (jJa (e_ix (ix_F hu) (jJb 6) jJi (λ_ _=>rfl)) jJe)) (jJa (jJw jQq (by rfl) T.n_len lJu (jJa (e_ix (ix_F hu) (jJb 1) (e_ix (ix_F hu) (jJb 6) jJi (λ_ _=>rfl)) (λ_ _=>rfl)) jJe)) jJe)))))) kKx (jJr _)) (jJj (jKb e_bl)) jJ9)
   (jJd (s_if (PW3.pt (qZm (jKo kZb (kJ6 (jXf T) (hr.mono (by decide)) (jJb 3) (jJa (jJz (jKl T) (hr.mono (by decide)) (jJa (e_ix (ix_F hu) (jJb 6) jJi (λ_ _=>rfl)) jJe)) jJe)) jYb (jJr _)) (qKa (jKo (jY3 hr.units) (e_ix (ix_F hu) (jJb 5) jJi (λ_ _=>rfl)) (e_ix (ix_F hu) (jJb 6) jJi (λ_ _=>rfl)) (jJr _))))) (jJd (s_if (kXh (qVk (jJz (kJn T) (hr.mono (by decide)) (jJa (jJb 1) (jJa (e_ix (ix_F hu) (jJb 5) jJi (λ_ _=>rfl)) (jJa (jJb 3) (jJa (e_ix (ix_F hu) (jJb 6) jJi (λ_ _=>rfl)) jJe))))))) (jJj (jKb e_bl)) jJ9)
   (jJj (s_if (jKo (jY3 hr.units) (jJz (jY2 T) (hr.mono (by decide)) (jJa (jJb 3) (jJa (e_ix (ix_F hu) (jJb 6) jJi (λ_ _=>rfl)) (jJa (e_ix (ix_F hu) (jJb 5) jJi (λ_ _=>rfl)) (jJa (jJz (jKl T) (hr.mono (by decide)) (jJa (e_ix (ix_F hu) (jJb 5) jJi (λ_ _=>rfl)) jJe)) (jJa (jJw jQq (by rfl) T.n_len lJu (jJa (e_ix (ix_F hu) (jJb 1) (e_ix (ix_F hu) (jJb 5) jJi (λ_ _=>rfl)) (λ_ _=>rfl)) jJe)) jJe)))))) kKx (jJr _)) (jJj (jKb e_bl)) jJ9))) jJ9)
   (jJd (s_if (jKo (jY3 hr.units) (jQg (jK0 T) (hr.mono (by decide)) (jJb 3)) (jJb 7) (jJr _)) (jJj (jKb e_bl)) jJ9)
   (jJd (jJ2 (i:=8) nd (e_ix (ix_F hu) (jUs (mask:=[fF,fF,tT,fF,fF,fF,fF,fF,fF,fF]) rfl ⟨rfl,rfl,rfl,rfl,rfl,rfl,rfl⟩ (jKw rfl T.n_range (jJa (jJw jQq (by rfl) T.n_len lJu (jJa (jJb 1) jJe)) jJe)) jKg (λC fp s H=>(jJn (i:=2) nd)) (λC fp s H=>(kJz (jKo (jZk hr.units) (jJz (jKl T) (hr.mono (by decide)) (jJa (jJb 2) jJe)) (jQg (jVp T) (hr.mono (by decide)) (jJb 3)) (jJr _)))) (λC fp s H=>(jJb 2))) jJi (λ_ _=>rfl)))
   (jJd (jQk (kJ6 (jXh T) (hr.mono (by decide)) (jJb 3) (jJa (jJz (jKl T) (hr.mono (by decide)) (jJa (e_ix (ix_F hu) (jJb 5) jJi (λ_ _=>rfl)) jJe)) (jJa (e_ix (ix_F hu) (jJb 5) jJi (λ_ _=>rfl)) jJe))))
   (jJj (jKb (qJw kZb (jJz (jZa T) (hr.mono (by decide)) (jJa (jJb 1) (jJa (jJb 8) (jJa (jJb 3) jJe)))) jYb (jJr _)))))))))))))))))
theorem uQ0(T:Txt K mg){f:Addr}{fd:FuncData}(F:Fun K "law" "law" (top 35) f fd):Fn3 P w K mg base 7 f fd ["_law_script"] qKo:=by
 have S:FnScope uU8 ["_law_script"] (jJk (top 35)):=⟨rfl,rfl,rfl,by decide +kernel,rfl,by decide +kernel,by decide +kernel⟩
 refine fn3 F S λcdv A outer s H E hr=>⟨kY3,?_,qV0⟩
 have hu:=qQ9 hr;have nd:=S.nd
 exact (jJd (jJ2 (i:=1) nd (jJz (kX1 T) (hr.mono (by decide)) (jJa (jJb 0) (jJa jJi jJe))))
   (jJd (jQy lJs rfl (jKw rfl T.n_range (jJa (jJw (uXc rfl) (by rfl) T.n_max rfl (jJa jJi (jJa (jJw jQq (by rfl) T.n_len lJu (jJa (jJb 1) jJe)) jJe))) jJe)) (jJn (i:=2) nd) (jJd (jJ2 (i:=3) nd (jJz (qXe T) (hr.mono (by decide)) (jJa (jJb 1) (jJa (jJb 2) jJe))))
   (jJd (jJ2 (i:=4) nd (jJz (kVe T) (hr.mono (by decide)) (jJa (jJb 3) jJe)))
   (jJd (jJ2 (i:=5) nd (jJz (jJ6 T) (hr.mono (by decide)) (jJa (jJb 3) (jJa (jJw jQq (by rfl) T.n_len lJu (jJa (jJb 4) jJe)) jJe))))
   (jJd (jJ2 (i:=6) nd (uUu (kQ8 T) (hr.mono (by decide)) (jJa (jJz (jKl T) (hr.mono (by decide)) (jJa (jJb 5) jJe)) (jJa (jJw jQq (by rfl) T.n_len lJu (jJa (e_ix (ix_F hu) (jJb 4) (jJb 5) (λ_ _=>rfl)) jJe)) jJe))))
   (jJd (jJ2 (i:=7) nd (jJz (jZa T) (hr.mono (by decide)) (jJa (jJb 4) (jJa (jJb 5) (jJa (jJb 6) jJe)))))
   (jJd (s_if (jKo uJl (jJb 7) jYb (jJr _)) (jJj (jKb e_bl)) jJ9)
   (jJd (jJ2 (i:=8) nd (jQg (jU1 T) (hr.mono (by decide)) (jJb 6)))
   (jJd (s_if (PW3.pt (w_or (jKo (jY3 hr.units) (jJb 8) (jJz (kKr T) (hr.mono (by decide)) (jJa (jJb 4) (jJa (jJb 6) jJe))) (jJr _)) (uKz (kXh (qVk (jJz (jZj T) (hr.mono (by decide)) (jJa (jJb 3) (jJa (jJb 4) (jJa (e_ix (ix_F hu) (jJb 7) jJi (λ_ _=>rfl)) (jJa (jJb 6) jJe)))))))))) (jJj (jKb e_bl)) jJ9)
   (jJd (s_if (jKo (jY3 hr.units) (jQg (jU1 T) (hr.mono (by decide)) (jJb 6)) (jJb 8) (jJr _)) (jJj (jKb e_bl)) jJ9)
   (jJd (jJ2 (i:=9) nd (e_ix (ix_F hu) (jUs (mask:=[fF,fF,fF,fF,fF,fF,fF,fF,fF,fF,fF,fF,fF,tT]) rfl ⟨rfl,rfl,rfl,rfl,rfl,rfl,rfl⟩ (jKw rfl T.n_range (jJa (jJw jQq (by rfl) T.n_len lJu (jJa (jJb 4) jJe)) jJe)) jKg (λC fp s H=>(jJn (i:=13) nd)) (λC fp s H=>(kJz (jKo (jZk hr.units) (jJz (jKl T) (hr.mono (by decide)) (jJa (jJb 13) jJe)) (jQg (jVp T) (hr.mono (by decide)) (jJb 6)) (jJr _)))) (λC fp s H=>(jJb 13))) jJi (λ_ _=>rfl)))
   (jJd (s_if (jKo o_gt (jJw jQq (by rfl) T.n_len lJu (jJa (e_ix (ix_F hu) (jJb 4) (jJb 9) (λ_ _=>rfl)) jJe)) jJi (jJr _)) (jJd (jVz (e_ix (ix_F hu) (e_ix (ix_F hu) (jJb 4) (jJb 9) (λ_ _=>rfl)) jJi (λ_ _=>rfl)) (jUp rfl (jJs (jJn (i:=10) nd) (jJs (jJn (i:=11) nd) jQj))))
   (jJd (jJ2 (i:=12) nd (e_op o_addF (jJw jQq (by rfl) T.n_len lJu (jJa (e_ix (ix_F hu) (jJb 4) (jJb 10) (λ_ _=>rfl)) jJe)) jJi))
   (jJj (s_if (PW3.pt (qZm (jKo o_lt (jJb 12) jJi (jJr _)) (qKa (jKo (jY3 hr.units) (jJz (jY2 T) (hr.mono (by decide)) (jJa (jJb 6) (jJa jJi (jJa (jJb 11) (jJa (jJz (jKl T) (hr.mono (by decide)) (jJa (jJb 10) jJe)) (jJa (jJb 12) jJe)))))) kKx (jJr _))))) (jJj (jKb e_bl)) jJ9)))) jJ9)
   (jJj (s_if (jKo (jY3 hr.units) (jQg (jU1 T) (hr.mono (by decide)) (jJb 6)) (jJb 8) (jJr _)) (jJj (jKb e_bl)) jJ9))))))))))))))
   (jJj (jKb e_bl))))
def qZw(K:PySem.W.Frag):Sp:=dn K 1 qKo
theorem fn_at{K:PySem.W.Frag}{h:Heap}{mg:Str->Option Value}{x:Str}{i:Nat}{f:Addr}{oc:Value}{od an:Option Addr}{osl:Array (Option Value)}{kV doc pm cdv ct:Value}(X:K.In h)(G:h.Ns mainGlobals mg)(a:PySem.W.nsIn K mainGlobals x=some (some (.ref f)))
  (l:K.lookup f=some ⟨oc,od,.func (PySem.W.fnOf x x (jQ0 (top i)) (jKq (top i)) (jJk (top i)) .none kV doc pm an cdv ct),osl⟩) (c:PySem.W.codeIn K cdv x=true) (k:PySem.W.keepIn K (.ref f)=true):FnAt K mg x i:=⟨f,_,PySem.W.mg_of X G a,kZl l c k⟩
theorem all_mk{l:PySem.W.OpenLaw}{w:World}{K:PySem.W.Frag}{mg:Str->Option Value}{fa:Addr}(hfa:mg "law"=some (.ref fa))(T:Txt K mg):
  ∃fd:FuncData,(∀(s:Shared)(v:Value),BindsTo s fd ⟨[v],[]⟩ [("_law_script",v)])/\∀base:Heap,K.In base->base.Ns mainGlobals mg->FnOk l.prog w K mg base CX0 7 fa fd ["_law_script"] (qZw K):=by
 obtain⟨f,fd,a,F⟩:=T.f_law;cases hfa.symm.trans a;refine⟨fd,λs v=> ?_,λbase _ _=>uQ0 T F⟩
 obtain⟨_,_,kV,doc,pm,an,cdv,ct,_,e,_⟩:=F.ex;subst e;exact .of_eq rfl
theorem me_at{K:PySem.W.Frag}{C:Addr}{m q:Str}{st:Stmt}{f:Addr}{oc:Value}{od an:Option Addr}{osl:Array (Option Value)}{kV doc pm cdv ct:Value}(a:PySem.W.findIn K (.ref C) m=some (some (.ref f)))(i:PySem.W.isFn K (.ref f)=true)(l:K.lookup f=some ⟨oc,od,.func (PySem.W.fnOf m q (jQ0 st) (jKq st) (jJk st) .none kV doc pm an cdv ct),osl⟩)(c:PySem.W.codeIn K cdv q=true)(k:PySem.W.keepIn K (.ref f)=true):MeF K C m q st:=⟨f,_,⟨a,i,k⟩,kZl l c k⟩
theorem mk_at{K:PySem.W.Frag}{C:Addr}{q:Str}{st:Stmt}{f:Addr}{oc:Value}{od an:Option Addr}{osl:Array (Option Value)}{kV doc pm cdv ct:Value}(a:PySem.W.findIn K (.ref C) "__init__"=some (some (.ref f)))(i:PySem.W.isFn K (.ref f)=true)(mk:PySem.W.makesIn K C=true)(kc:PySem.W.keepIn K (.ref C)=true)(l:K.lookup f=some ⟨oc,od,.func (PySem.W.fnOf "__init__" q (jQ0 st) (jKq st) (jJk st) .none kV doc pm an cdv ct),osl⟩)(c:PySem.W.codeIn K cdv q=true)(k:PySem.W.keepIn K (.ref f)=true):MkF K C q st:=⟨f,_,⟨mk,a,i,kc⟩,kZl l c k⟩
theorem uV2{K:PySem.W.Frag}{H:Hp}{a:Addr}{xs:List V}(hO:Only H)(hS:SqL K H a xs):FrL K H a xs:=by
 rcases hS with h | h
 .rcases h with h | ⟨ob,h⟩
  .rcases hO a with z | ⟨o,ys,z⟩
   .rw[z] at h;cases h
   .rw[z] at h;cases h
  .exact .inl ⟨ob,h⟩
 .exact .inr h
theorem jUj{K:PySem.W.Frag}{H:Hp}:∀ns:List Int,Reps K H (jQ4 ns) (ns.map V.int)
 | []=>rfl
 | n::ns=>⟨_,_,rfl,rfl,jUj ns⟩
theorem walk{l:PySem.W.OpenLaw}{q:Program}{loose:List Str}{XP:(Str->Option Value)->Heap->Prop}{YP:World->Heap->Prop}{d:DefRec}{K:Params->PySem.W.Frag}(hn:l.most=some 63)(hdf:d.params.defaults=[])
  (hY:∀(w:World)(h:Heap),YP w h->(K w.params).In h)
  (F:∀(w:World)(mg:Str->Option Value)(fa:Addr)(h:Heap),(K w.params).In h->h.Ns mainGlobals mg->mg d.name=some (.ref fa)->
   ∃fd:FuncData,(∀(s:Shared)(u:Value),BindsTo s fd ⟨[u],[]⟩ [("_law_script",u)])/\∀base:Heap,(K w.params).In base->base.Ns mainGlobals mg->FnOk l.prog w (K w.params) mg base CX0 7 fa fd ["_law_script"] (qZw (K w.params))):
  PySem.W.WalkO q loose XP YP l.row.toRowW d [] (λf vs=>PySem.call f vs):=
 L2.walk_of (n:=63) (k:=7) (x:="_law_script") (CX:=λ_=>CX0) (sp:=λw=>qZw (K w.params)) hn (by decide) hdf ⟨rfl,rfl,by decide,by decide⟩ hY F
  (λ_ _ a ns hl hO hS=>⟨rfl,[.scr (jQ4 ns)],λ_=>none,⟨_,_,rfl,⟨a,_,rfl,uV2 hO hS,jUj ns⟩,rfl⟩,(λ_ _ h=>nomatch h),ns,rfl,hl,λG' v H' _ _ r=>r⟩) λ_ _ _ _ _ z=>z
end W
def PySem.W.Fast.tw2669357099300921264 : Unit := ()
def PySem.W.Fast.tw14612255721133548090 : Unit := ()
def PySem.W.Fast.tw6383887330314336416 : Unit := ()
def PySem.W.Fast.tw11298619035883641661 : Unit := ()
def PySem.W.Fast.tw11115332881124078654 : Unit := ()
def PySem.W.Fast.tw9897035056861792881 : Unit := ()
def PySem.W.Fast.tw5616038552068997693 : Unit := ()
def PySem.W.Fast.tw13931604522584694564 : Unit := ()
def PySem.W.Fast.tw17349503332397402598 : Unit := ()
def PySem.W.Fast.tw15314139577188900554 : Unit := ()
def PySem.W.Fast.tw8481528904834796041 : Unit := ()
def PySem.W.Fast.tw18018974598875196684 : Unit := ()
def PySem.W.Fast.tw5044873209546360407 : Unit := ()
def PySem.W.Fast.tw14926870087566104422 : Unit := ()
def PySem.W.Fast.tw14812736693293731788 : Unit := ()
def PySem.W.Fast.tw11128103216834731452 : Unit := ()
def PySem.W.Fast.tw15091711046824989581 : Unit := ()
def PySem.W.Fast.tw1936490385386545380 : Unit := ()
def PySem.W.Fast.tw1310693734054006597 : Unit := ()
def PySem.W.Fast.tw7163389531667130511 : Unit := ()
def PySem.W.Fast.tw3419232816639950706 : Unit := ()
def PySem.W.Fast.tw10284692301571925822 : Unit := ()
def PySem.W.Fast.tw9102450666651237209 : Unit := ()
def PySem.W.Fast.tw13372535904214019603 : Unit := ()
def PySem.W.Fast.tw15482530756412437474 : Unit := ()
def PySem.W.Fast.tw965001029846159514 : Unit := ()
def PySem.W.Fast.tw812117858280087670 : Unit := ()
def PySem.W.Fast.tw11297416091333651401 : Unit := ()
def PySem.W.Fast.tw16728442627469835463 : Unit := ()
def PySem.W.Fast.tw988529833361580656 : Unit := ()
def PySem.W.Fast.tw7826798920873569028 : Unit := ()
def PySem.W.Fast.tw1711721448506257876 : Unit := ()
def PySem.W.Fast.tw8666198087288270110 : Unit := ()
def PySem.W.Fast.tw2232857919380437277 : Unit := ()
def PySem.W.Fast.tw13930008744770410531 : Unit := ()
def PySem.W.Fast.tw17574461882040192637 : Unit := ()
def PySem.W.Fast.tw18176175189635171435 : Unit := ()
def PySem.W.Fast.tw16133493162636736928 : Unit := ()
def PySem.W.Fast.tw11125130785174176312 : Unit := ()
def PySem.W.Fast.tw4103759231351668181 : Unit := ()
def PySem.W.Fast.tw18196377328162638494 : Unit := ()
def PySem.W.Fast.tw12798712098444910340 : Unit := ()
def PySem.W.Fast.tw13110634227077136470 : Unit := ()
def PySem.W.Fast.tw4163312740406338561 : Unit := ()
def PySem.W.Fast.tw16603684645243257422 : Unit := ()
def PySem.W.Fast.tw13124021531452983613 : Unit := ()
def PySem.W.Fast.tw1760505033562792405 : Unit := ()
def PySem.W.Fast.tw8013662357620595886 : Unit := ()
def PySem.W.Fast.tw16690569185341392834 : Unit := ()
def PySem.W.Fast.tw7571563429498414110 : Unit := ()
def PySem.W.Fast.tw14346989724394826201 : Unit := ()
def PySem.W.Fast.tw18341099393836796692 : Unit := ()
def PySem.W.Fast.tw4862479834688469219 : Unit := ()
def PySem.W.Fast.tw11332490167948033566 : Unit := ()
def PySem.W.Fast.tw475365208894521393 : Unit := ()
def PySem.W.Fast.tw2123803735144539416 : Unit := ()
def PySem.W.Fast.tw13250956064322256155 : Unit := ()
def PySem.W.Fast.tw11883497564660044241 : Unit := ()
def PySem.W.Fast.tw13701760609973380248 : Unit := ()
def PySem.W.Fast.tw5531303547769692727 : Unit := ()
def PySem.W.Fast.tw10391568509706791451 : Unit := ()
def PySem.W.Fast.tw12719000093032672121 : Unit := ()
def PySem.W.Fast.tw2949391307484678005 : Unit := ()
def PySem.W.Fast.tw14455022191604261718 : Unit := ()
def PySem.W.Fast.tw1657395425976902413 : Unit := ()
def PySem.W.Fast.tw5180205085266897718 : Unit := ()
def PySem.W.Fast.tw18106729431108905064 : Unit := ()
def PySem.W.Fast.tw6436858226554024744 : Unit := ()
def PySem.W.Fast.tw2222751169408027509 : Unit := ()
def PySem.W.Fast.tw4582846052039265653 : Unit := ()
def PySem.W.Fast.tw9376547204946046882 : Unit := ()
def PySem.W.Fast.tw11129674467674910339 : Unit := ()
def PySem.W.Fast.tw16223116276339654821 : Unit := ()
def PySem.W.Fast.tw575374577498598554 : Unit := ()
def PySem.W.Fast.tw15129830757144037217 : Unit := ()
def PySem.W.Fast.tw4215974463115899701 : Unit := ()
def PySem.W.Fast.tw10522034775631113992 : Unit := ()
def PySem.W.Fast.tw8489967457199975872 : Unit := ()
def PySem.W.Fast.tw11699530598088328456 : Unit := ()
def PySem.W.Fast.tw2732171320863233024 : Unit := ()
def PySem.W.Fast.tw18028129474502621373 : Unit := ()
def PySem.W.Fast.tw9292345681480578936 : Unit := ()
def PySem.W.Fast.tw10806668594800502624 : Unit := ()
def PySem.W.Fast.tw14676781678469873313 : Unit := ()
def PySem.W.Fast.tw14626174268685192808 : Unit := ()
def PySem.W.Fast.tw11652841412875843364 : Unit := ()
def PySem.W.Fast.tw11972528469717401333 : Unit := ()
def PySem.W.Fast.tw10805486497101350425 : Unit := ()
def PySem.W.Fast.tw8657915390640452695 : Unit := ()
def PySem.W.Fast.tw8473152759649513442 : Unit := ()
def PySem.W.Fast.tw17275507133753288587 : Unit := ()
def PySem.W.Fast.tw3765059796128510211 : Unit := ()
def PySem.W.Fast.tw8700285052899350599 : Unit := ()
def PySem.W.Fast.tw469109203687559928 : Unit := ()
def PySem.W.Fast.tw11336672733310030073 : Unit := ()
def PySem.W.Fast.tw3884031159318354192 : Unit := ()
def PySem.W.Fast.tw8000669519636444281 : Unit := ()
def PySem.W.Fast.tw127824942037593439 : Unit := ()
def PySem.W.Fast.tw11130089452698764799 : Unit := ()
def PySem.W.Fast.tw16794269239594421032 : Unit := ()
def PySem.W.Fast.tw15935022248466301854 : Unit := ()
def PySem.W.Fast.tw16472324723818287791 : Unit := ()
def PySem.W.Fast.tw2624644622169948701 : Unit := ()
def PySem.W.Fast.tw13277260996501753315 : Unit := ()
def PySem.W.Fast.tw5285374627407689535 : Unit := ()
def PySem.W.Fast.tw7092111570527898849 : Unit := ()
def PySem.W.Fast.tw18225902013282189232 : Unit := ()
def PySem.W.Fast.tw2142991514168934761 : Unit := ()
def PySem.W.Fast.tw13711659034841549266 : Unit := ()
def PySem.W.Fast.tw8201006168567109647 : Unit := ()
def PySem.W.Fast.tw11888860240557457592 : Unit := ()
def PySem.W.Fast.tw3822615608843482238 : Unit := ()
def PySem.W.Fast.tw548049429833458854 : Unit := ()
def PySem.W.Fast.tw1693023088774150221 : Unit := ()
def PySem.W.Fast.tw4133979491007090391 : Unit := ()
def PySem.W.Fast.tw13225544923988479983 : Unit := ()
def PySem.W.Fast.tw15101291396526782627 : Unit := ()
def PySem.W.Fast.tw14286696319209822458 : Unit := ()
def PySem.W.Fast.tw17313500116162883173 : Unit := ()
def PySem.W.Fast.tw7126878504284105542 : Unit := ()
def PySem.W.Fast.tw440898289289428040 : Unit := ()
def PySem.W.Fast.tw11280471213858972750 : Unit := ()
def PySem.W.Fast.tw12983369517071862864 : Unit := ()
def PySem.W.Fast.tw2348685462185549174 : Unit := ()
def PySem.W.Fast.tw6743146904664743204 : Unit := ()
def PySem.W.Fast.tw15345611071936330772 : Unit := ()
def PySem.W.Fast.tw16283893865262491206 : Unit := ()
def PySem.W.Fast.tw772758314271703796 : Unit := ()
def PySem.W.Fast.tw3805022034866893401 : Unit := ()
def PySem.W.Fast.tw15150052544300486672 : Unit := ()
def PySem.W.Fast.tw2786149520494292286 : Unit := ()
def PySem.W.Fast.tw14514363659814174937 : Unit := ()
def PySem.W.Fast.tw10832065851479770876 : Unit := ()
def PySem.W.Fast.tw1409459119348944894 : Unit := ()
def PySem.W.Fast.tw9870170539861649500 : Unit := ()
def PySem.W.Fast.tw9644495385229951242 : Unit := ()
def PySem.W.Fast.tw5946560517587254879 : Unit := ()
def PySem.W.Fast.tw15070162473487947430 : Unit := ()
def PySem.W.Fast.tw17266479684648766765 : Unit := ()
def PySem.W.Fast.tw14729911361487487742 : Unit := ()
def PySem.W.Fast.tw1945191500707455532 : Unit := ()
def PySem.W.Fast.tw4645975212336493618 : Unit := ()
def PySem.W.Fast.tw7254845508284032612 : Unit := ()
def PySem.W.Fast.tw7492031532226138839 : Unit := ()
def PySem.W.Fast.tw503674544043380895 : Unit := ()
def PySem.W.Fast.tw14611440075352574310 : Unit := ()
def PySem.W.Fast.tw16644246338073491726 : Unit := ()
def PySem.W.Fast.tw5059133373908297983 : Unit := ()
def PySem.W.Fast.tw769324928100515799 : Unit := ()
def PySem.W.Fast.tw4600087913830961025 : Unit := ()
def PySem.W.Fast.tw3436571311867832454 : Unit := ()
def PySem.W.Fast.tw908634002406437290 : Unit := ()
def PySem.W.Fast.tw14516881645208354094 : Unit := ()
def PySem.W.Fast.tw10929240953161381500 : Unit := ()
def PySem.W.Fast.tw16014558499903405473 : Unit := ()
def PySem.W.Fast.tw5704597534645413213 : Unit := ()
def PySem.W.Fast.tw7915431650047016067 : Unit := ()
def PySem.W.Fast.tw9837855563368176816 : Unit := ()
def PySem.W.Fast.tw3472561888983890554 : Unit := ()
def PySem.W.Fast.tw2924535457844798961 : Unit := ()
def PySem.W.Fast.tw15943557661682173448 : Unit := ()
def PySem.W.Fast.tw744343625280266420 : Unit := ()
def PySem.W.Fast.tw6600194730015111549 : Unit := ()
def PySem.W.Fast.tw16845631293284420711 : Unit := ()
def PySem.W.Fast.tw6878700014724822057 : Unit := ()
def PySem.W.Fast.tw5304162635380611033 : Unit := ()
def PySem.W.Fast.tw7308799116845091627 : Unit := ()
def PySem.W.Fast.tw17321416277810610920 : Unit := ()
def PySem.W.Fast.tw10521780388618842660 : Unit := ()
def PySem.W.Fast.tw4526790128955336678 : Unit := ()
def PySem.W.Fast.tw3144678818493708324 : Unit := ()
def PySem.W.Fast.tw7649577938086375717 : Unit := ()
def PySem.W.Fast.tw4189698607242123579 : Unit := ()
def PySem.W.Fast.tw6485452645626094567 : Unit := ()
def PySem.W.Fast.tw11330403671987269346 : Unit := ()
def PySem.W.Fast.tw14355558437068061244 : Unit := ()
def PySem.W.Fast.tw8363777139280661525 : Unit := ()
def PySem.W.Fast.tw10801680284645578873 : Unit := ()
def PySem.W.Fast.tw11145368546334622254 : Unit := ()
def PySem.W.Fast.tw6422588854822012722 : Unit := ()
def PySem.W.Fast.tw10901724445368021884 : Unit := ()
def PySem.W.Fast.tw4247883448499206797 : Unit := ()
def PySem.W.Fast.tw15002429956558002432 : Unit := ()
def PySem.W.Fast.tw17967368007605542140 : Unit := ()
def PySem.W.Fast.tw18219379930874411901 : Unit := ()
def PySem.W.Fast.tw3547409797687974496 : Unit := ()
def PySem.W.Fast.tw6734673386589279110 : Unit := ()
def PySem.W.Fast.tw6489322859301406280 : Unit := ()
def PySem.W.Fast.tw3219700132465364627 : Unit := ()
def PySem.W.Fast.tw12836944205526030055 : Unit := ()
def PySem.W.Fast.tw3442570564521694697 : Unit := ()
def PySem.W.Fast.tw16804905749399527778 : Unit := ()
def PySem.W.Fast.tw16302583848317538417 : Unit := ()
open PySem PySem.W PyProof.Rows
set_option maxRecDepth 100000 in
set_option maxHeartbeats 0 in
theorem PySem.Challenge.cw_stonewalker_k61_whole_charts_put_right_holds : PySem.Challenge.rw_stonewalker_k61_whole_charts_put_right.Holds := by
 w_on;o_law;k_head;(case hw=>w_witness2)
 k_fill
 refine W.walk (l:=PySem.Challenge.rw_stonewalker_k61_whole_charts_put_right) rfl rfl (fun w h Y=>PySem.W.kIn_of Y) ?F
 case F=>
  intro w mg fa h KX G hmg
  refine W.all_mk hmg ?T
  constructor
  iterate 14 (refine PySem.W.mg_none_of KX G ?_;k_is)
  (refine' L3.exwhy_mk ?x0_a ?x0_g ?x0_h ?x0_b ?x0_d ?x0_n;(case x0_a=>k_is);(case x0_g=>k_is);(case x0_h=>k_is);(case x0_b=>k_is);(case x0_d=>k_is);(case x0_n=>k_is))
  (refine' L3.subW (bs:=["Clash"]) (L3.sub1 (L3.exsub_mk KX G (L3.cxOfN (by decide +kernel) ?x1_a) ?x1_b ?x1_q)) (by decide +kernel);(case x1_a=>unfold L3.CN;k_is);(case x1_b=>k_is);(case x1_q=>kts_exm))
  (refine' L3.exi_mk (st:=L2.inClass (W.top 3) 0) (bn:="WebError") (v1:="self") (v2:="words") (v3:="why") KX G W.ext_Clash ?x2_a ?x2_e ?x2_i ?x2_q ?x2_b ?x2_r ?x2_s ?x2_f ?x2_p ?x2_t ?x2_o ?x2_l ?x2_c ?x2_k;(case x2_a=>k_is);(case x2_e=>k_is);(case x2_i=>k_is);(case x2_q=>kernel_rfl);(case x2_b=>k_is);(case x2_r=>k_is);(case x2_s=>k_is);(case x2_f=>k_is);(case x2_p=>kernel_rfl);(case x2_t=>k_is);(case x2_o=>k_is);(case x2_l=>k_is);(case x2_c=>k_is);(case x2_k=>k_is))
  refine' ⟨?zC0,?zn0,⟨?zp0,?zq0,?zr0,?zs0⟩,?zm0,?zt0_counts,?zt0_leads,?zt0_marks,?zt0_place,?zf0_Chart_init,?zf0_Chart_number_of,?zf0_Chart_known_number,?zf0_Chart_refuse_clash,?zf0_Chart_went,?zf0_Chart_here,?zf0_Chart_rooms,?zf0_Chart_sketch,?zf0_Chart_open_doors,?zf0_Chart_next_way,?zf0_Chart_way_by,?zf0_Chart_forget,?zf0_Chart_whole⟩
  (case zn0=>unfold L3.CN;k_is)
  (case zp0=>k_is);(case zq0=>k_is);(case zr0=>k_is);(case zs0=>k_is);(case zm0=>(refine PySem.W.mg_of KX G ?_;k_is))
  (case zt0_counts=>unfold L2.NoAttr;k_is)
  (case zt0_leads=>unfold L2.NoAttr;k_is)
  (case zt0_marks=>unfold L2.NoAttr;k_is)
  (case zt0_place=>unfold L2.NoAttr;k_is)
  (case zf0_Chart_init=>(refine' W.mk_at ?a_Chart_init ?i_Chart_init ?m_Chart_init ?x_Chart_init ?l_Chart_init ?c_Chart_init ?k_Chart_init;(case a_Chart_init=>k_is);(case i_Chart_init=>k_is);(case m_Chart_init=>k_is);(case x_Chart_init=>k_is);(case l_Chart_init=>k_is);(case c_Chart_init=>k_is);(case k_Chart_init=>k_is)))
  (case zf0_Chart_number_of=>(refine' W.me_at ?a_Chart_number_of ?i_Chart_number_of ?l_Chart_number_of ?c_Chart_number_of ?k_Chart_number_of;(case a_Chart_number_of=>k_is);(case i_Chart_number_of=>k_is);(case l_Chart_number_of=>k_is);(case c_Chart_number_of=>k_is);(case k_Chart_number_of=>k_is)))
  (case zf0_Chart_known_number=>(refine' W.me_at ?a_Chart_known_number ?i_Chart_known_number ?l_Chart_known_number ?c_Chart_known_number ?k_Chart_known_number;(case a_Chart_known_number=>k_is);(case i_Chart_known_number=>k_is);(case l_Chart_known_number=>k_is);(case c_Chart_known_number=>k_is);(case k_Chart_known_number=>k_is)))
  (case zf0_Chart_refuse_clash=>(refine' W.me_at ?a_Chart_refuse_clash ?i_Chart_refuse_clash ?l_Chart_refuse_clash ?c_Chart_refuse_clash ?k_Chart_refuse_clash;(case a_Chart_refuse_clash=>k_is);(case i_Chart_refuse_clash=>k_is);(case l_Chart_refuse_clash=>k_is);(case c_Chart_refuse_clash=>k_is);(case k_Chart_refuse_clash=>k_is)))
  (case zf0_Chart_went=>(refine' W.me_at ?a_Chart_went ?i_Chart_went ?l_Chart_went ?c_Chart_went ?k_Chart_went;(case a_Chart_went=>k_is);(case i_Chart_went=>k_is);(case l_Chart_went=>k_is);(case c_Chart_went=>k_is);(case k_Chart_went=>k_is)))
  (case zf0_Chart_here=>(refine' W.me_at ?a_Chart_here ?i_Chart_here ?l_Chart_here ?c_Chart_here ?k_Chart_here;(case a_Chart_here=>k_is);(case i_Chart_here=>k_is);(case l_Chart_here=>k_is);(case c_Chart_here=>k_is);(case k_Chart_here=>k_is)))
  (case zf0_Chart_rooms=>(refine' W.me_at ?a_Chart_rooms ?i_Chart_rooms ?l_Chart_rooms ?c_Chart_rooms ?k_Chart_rooms;(case a_Chart_rooms=>k_is);(case i_Chart_rooms=>k_is);(case l_Chart_rooms=>k_is);(case c_Chart_rooms=>k_is);(case k_Chart_rooms=>k_is)))
  (case zf0_Chart_sketch=>(refine' W.me_at ?a_Chart_sketch ?i_Chart_sketch ?l_Chart_sketch ?c_Chart_sketch ?k_Chart_sketch;(case a_Chart_sketch=>k_is);(case i_Chart_sketch=>k_is);(case l_Chart_sketch=>k_is);(case c_Chart_sketch=>k_is);(case k_Chart_sketch=>k_is)))
  (case zf0_Chart_open_doors=>(refine' W.me_at ?a_Chart_open_doors ?i_Chart_open_doors ?l_Chart_open_doors ?c_Chart_open_doors ?k_Chart_open_doors;(case a_Chart_open_doors=>k_is);(case i_Chart_open_doors=>k_is);(case l_Chart_open_doors=>k_is);(case c_Chart_open_doors=>k_is);(case k_Chart_open_doors=>k_is)))
  (case zf0_Chart_next_way=>(refine' W.me_at ?a_Chart_next_way ?i_Chart_next_way ?l_Chart_next_way ?c_Chart_next_way ?k_Chart_next_way;(case a_Chart_next_way=>k_is);(case i_Chart_next_way=>k_is);(case l_Chart_next_way=>k_is);(case c_Chart_next_way=>k_is);(case k_Chart_next_way=>k_is)))
  (case zf0_Chart_way_by=>(refine' W.me_at ?a_Chart_way_by ?i_Chart_way_by ?l_Chart_way_by ?c_Chart_way_by ?k_Chart_way_by;(case a_Chart_way_by=>k_is);(case i_Chart_way_by=>k_is);(case l_Chart_way_by=>k_is);(case c_Chart_way_by=>k_is);(case k_Chart_way_by=>k_is)))
  (case zf0_Chart_forget=>(refine' W.me_at ?a_Chart_forget ?i_Chart_forget ?l_Chart_forget ?c_Chart_forget ?k_Chart_forget;(case a_Chart_forget=>k_is);(case i_Chart_forget=>k_is);(case l_Chart_forget=>k_is);(case c_Chart_forget=>k_is);(case k_Chart_forget=>k_is)))
  (case zf0_Chart_whole=>(refine' W.me_at ?a_Chart_whole ?i_Chart_whole ?l_Chart_whole ?c_Chart_whole ?k_Chart_whole;(case a_Chart_whole=>k_is);(case i_Chart_whole=>k_is);(case l_Chart_whole=>k_is);(case c_Chart_whole=>k_is);(case k_Chart_whole=>k_is)))
  iterate 25 (refine' W.fn_at KX G ?a ?l ?c ?k;(case a=>k_is);(case l=>k_is);(case c=>k_is);(case k=>k_is))
