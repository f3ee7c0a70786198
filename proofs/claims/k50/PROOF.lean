
import PyProof.Rows.All
import Wide.All
import OpenK.AllK
import Wide.FinOn
import Lean
import PyProof.EqAt
import PyProof.EqKinds
import PyProof.TupleCall
import PySem.Challenge.RW_stonewalker_k50_webs_that_a_story_allows
set_option linter.all false
noncomputable section
def lJa:=@if_pos
def lJb:=@if_neg
def lJc:=@PySem.wpAny_bind
def lJd:=@PySem.wpAny_pure
def lJe:=@Nat.le_refl
def lJf:=@List.length_map
def lJg:=@PySem.Heap.lt_size
def lJh:=@List.getElem?_eq_some_iff
def lJi:=@List.mem_map
def lJj:=@List.mem_cons
def lJk:=@List.size_toArray
def lJl:=@List.getElem?_eq_getElem
def lJm:=@PyProof.Rows.wpS_bind
def lJn:=@List.map_cons
def lJo:=@PySem.Heap.get?_push_of_some
def lJp:=@Bool.false_ne_true
def lJq:=@Nat.zero_le
def lJr:=@List.mem_singleton
def lJs:=@decide_eq_true
def lJt:=@PySem.boot_len
def lJu:=@decide_eq_false
def lJv:=@List.not_mem_nil
def lJw:=@Nat.ne_of_lt
def lJx:=@List.getElem?_map
def lJy:=@PyProof.Rows.wpS_pure
def lJz:=@List.mem_of_getElem?
def lJ0:=@List.map_map
def lJ1:=@List.mem_append
def lJ2:=@List.mem_range
def lJ3:=@List.mem_cons_of_mem
def lJ4:=@List.map_append
def lJ5:=@PySem.Heap.get?_push_size
def lJ6:=@Nat.lt_of_lt_of_le
def lJ7:=@List.mem_cons_self
def lJ8:=@List.exists_cons_of_length_eq_add_one
def lJ9:=@Nat.succ.inj
def lKa:=@List.getElem?_eq_none
def lKb:=@Option.some.inj
def lKc:=@List.mem_filter
def lKd:=@List.length_append
def lKe:=@List.length_cons
def lKf:=@PySem.PassesOwn.never
def lKg:=@PySem.F.plainAttrs_list
def lKh:=@List.append_nil
def lKi:=@Nat.le_trans
def lKj:=@List.getElem?_of_mem
def lKk:=@if_false
def lKl:=@congrArg
def lKm:=@or_false
def lKn:=@PySem.wpAny_mono
def lKo:=@PySem.sizeLine_eq
def lKp:=@List.nodup_cons
def lKq:=@Option.isSome_iff_exists
def lKr:=@List.length_range
def lKs:=@Nat.lt_or_ge
def lKt:=@Nat.lt_irrefl
def lKu:=@List.filterMap_cons
def lKv:=@List.mem_append_right
def lKw:=@List.length_take
def lKx:=@Bool.false_eq_true
def lKy:=@Bool.and_eq_true
def lKz:=@List.lookup_cons
def lK0:=@PySem.F.slot_list_append
def lK1:=@PySem.F.type_list_append
def lK2:=@List.mem_append_left
def lK3:=@List.take_of_length_le
def lK4:=@Int.eq_ofNat_of_zero_le
def lK5:=@if_true
def lK6:=@PyProof.Rows.wpS_modify
def lK7:=@List.getElem?_set_self
def lK8:=@PySem.W.mg_of
def lK9:=@List.getElem?_set_ne
def lQa:=@Nat.ne_of_gt
def lQb:=@List.any_cons
def lQc:=@List.find?_cons
def lQd:=@Nat.not_lt_zero
def lQe:=@List.filter_cons
def lQf:=@PySem.wpAny_field
def lQg:=@PySem.wpAny_holding
def lQh:=@decide_eq_true_eq
def lQi:=@List.getElem?_append_left
def lQj:=@List.all_cons
def lQk:=@List.length_nil
def lQl:=@Option.map_eq_some_iff
def lQm:=@List.length_eq_zero_iff
def lQn:=@Nat.not_lt
def lQo:=@List.length_filter_le
def lQp:=@Option.bind_eq_some_iff
def lQq:=@PyProof.Rows.wpS_forRange
def lQr:=@PyProof.Rows.reverseSlice'_eq
def lQs:=@Array.length_toList
def lQt:=@List.length_singleton
def lQu:=@List.all_eq_true
def lQv:=@List.take_succ
def lQw:=@List.pairwise_map
def lQx:=@List.getElem_mem
def lQy:=@List.getElem?_inj
def lQz:=@Nat.lt_or_eq_of_le
def lQ0:=@List.getElem?_range
def lQ1:=@PySem.call_meets
def lQ2:=@List.ext_getElem?
def lQ3:=@PySem.Around.in1_units
def lQ4:=@PySem.Paired.length
def lQ5:=@PyProof.Rows.callWith_type1
def lQ6:=@List.take_length
def lQ7:=@List.getD_eq_getElem?_getD
def lQ8:=@PySem.Heap.get?_update_ne
def lQ9:=@List.map_congr_left
def lVa:=@PySem.wpAny_truthy_bool
def lVb:=@PySem.wpAny_loadPart'
def lVc:=@PySem.wpAny_newObj_type
def lVd:=@PySem.wpAny_Call_Name_kw
def lVe:=@PySem.wpAny_passesOwn
def lVf:=@PySem.wpAny_rule
def lVg:=@Nat.le_of_lt
def lVh:=@PySem.mem_of_lookup
def lVi:=@PyProof.Rows.slot_tuple_getitem
def lVj:=@List.length_set
def lVk:=@List.replicate_succ
def lVl:=@List.append_assoc
def lVm:=@List.nodup_append
def lVn:=@List.flatMap_append
def lVo:=@List.flatMap_singleton
def lVp:=@PySem.wpAny_seqItems
def lVq:=@PySem.wpAny_callSpecial?_slot
def lVr:=@PySem.wpAny_call_entry
def lVs:=@PySem.wpAny_execs_nil
def lVt:=@PySem.wpAny_attempt
def lVu:=@List.getElem?_append_right
def lVv:=@List.length_drop
def lVw:=@Option.isSome_map
def lVx:=@List.getElem?_zipWith
def lVy:=@List.zip_cons_cons
def lVz:=@List.cons.injEq
def lV0:=@Nat.le_of_lt_succ
def lV1:=@List.any_eq_true
def lV2:=@Int.emod_nonneg
def lV3:=@Int.emod_lt_of_pos
def lV4:=@Nat.lt_succ_self
def lV5:=@List.mem_map_of_mem
def lV6:=@List.mem_of_mem_take
def lV7:=@PySem.wpAny_forIn_list
def lV8:=@PySem.wpAny_pyIter_tuple
def lV9:=@PySem.wpAny_setField_rec
def lXa:=@PySem.wpAny_dictEntries
def lXb:=@of_decide_eq_true
def lXc:=@Classical.byContradiction
def lXd:=@List.flatten_cons
def lXe:=@PySem.Heap.SameBut.update
def lXf:=@List.nodup_iff_pairwise_ne
def lXg:=@PySem.wpAny_pyIter_enum
def lXh:=@PySem.pairTrees_cons_walk
def lXi:=@decide_eq_false_iff_not
def lXj:=@List.getElem?_eq_none_iff
def lXk:=@PySem.F.args_tuple_add_2
def lXl:=@List.getElem?_zip_eq_some
def lXm:=@List.pairwise_iff_getElem
local macro_rules
 | `(tactic| omega) => `(tactic| lia)
set_option Elab.async false
set_option linter.all false
set_option maxRecDepth 100000
namespace L2
open PySem PySem.Spec PyProof.Rows
abbrev Key:=Sum Int Str
def jXq:Key->Value->Bool
 | .inl k,v=>Value.isInt k v
 | .inr x,v=>Value.isStrOf x v
def keyH (w:World):Key->Int
 | .inl k=>hashInt k
 | .inr x=>hashStr w x
theorem jJv:∀ {k:Key} {v:Value},jXq k v=true->(∃i t,k=Sum.inl i/\v=Value.int i t)\/(∃x t,k=Sum.inr x/\v=Value.str x t)
 | .inl i,v,h=>by
  obtain⟨t,e⟩:=Value.isInt_shape (k:=i) (v:=v) h
  exact .inl ⟨i,t,rfl,e⟩
 | .inr x,v,h=>by
  obtain⟨t,e⟩:=Value.isStrOf_shape (x:=x) (v:=v) h
  exact .inr ⟨x,t,rfl,e⟩
theorem kZb (i:Int) (t:Tok):jXq (.inl i) (.int i t)=true:=by simp[jXq,Value.isInt]
theorem kZa (x:Str) (t:Tok):jXq (.inr x) (.str x t)=true:=by simp[jXq,Value.isStrOf]
theorem key_ll (a b:Int):decide ((Sum.inl a:Key)=Sum.inl b)=(a == b):=by
 by_cases e:a=b
 ·subst e;simp
 ·have h:¬ (Sum.inl a:Key)=Sum.inl b:=fun q=>e (Sum.inl.inj q)
  rw[lJu h]
  exact (beq_eq_false_iff_ne.mpr e).symm
theorem key_rr (a b:Str):decide ((Sum.inr a:Key)=Sum.inr b)=decide (a=b):=by
 by_cases e:a=b
 ·subst e;simp
 ·have h:¬ (Sum.inr a:Key)=Sum.inr b:=fun q=>e (Sum.inr.inj q)
  rw[lJu h,lJu e]
theorem key_lr (a:Int) (b:Str):decide ((Sum.inl a:Key)=Sum.inr b)=false:=lJu (fun q=>nomatch q)
theorem key_rl (a:Str) (b:Int):decide ((Sum.inr a:Key)=Sum.inl b)=false:=lJu (fun q=>nomatch q)
noncomputable def jKg (prog:Program) (w:World):PySem.KeyKind prog w Key where
 is:=jXq
 hash:=keyH w
 inj:=fun v a b ha hb=>by
  rcases jJv ha with ⟨i,t,rfl,rfl⟩ | ⟨x,t,rfl,rfl⟩
  ·rcases jJv hb with ⟨j,u,rfl,e⟩ | ⟨y,u,rfl,e⟩
   ·injection e with e1 _;rw[e1]
   ·exact nomatch e
  ·rcases jJv hb with ⟨j,u,rfl,e⟩ | ⟨y,u,rfl,e⟩
   ·exact nomatch e
   ·injection e with e1 _;rw[e1]
 byValue:=fun k v h=>by
  rcases jJv h with ⟨i,t,rfl,rfl⟩ | ⟨x,t,rfl,rfl⟩<;>rfl
 pyHash:=fun hv h=>by
  rcases jJv hv with ⟨i,t,rfl,rfl⟩ | ⟨x,t,rfl,rfl⟩
  ·exact wpAny_pyHash_int h
  ·exact wpAny_pyHash_str h
 eqBool:=fun hu hv h=>by
  rcases jJv hu with ⟨i,t,rfl,rfl⟩ | ⟨x,t,rfl,rfl⟩
  ·rcases jJv hv with ⟨j,u,rfl,rfl⟩ | ⟨y,u,rfl,rfl⟩
   ·rw[key_ll] at h;exact wpAny_eqBool_int h
   ·rw[key_lr] at h;exact SeqAt.EqAt.int_str i t y u _ _ _ _ h
  ·rcases jJv hv with ⟨j,u,rfl,rfl⟩ | ⟨y,u,rfl,rfl⟩
   ·rw[key_rl] at h;exact SeqAt.EqAt.str_int x t j u _ _ _ _ h
   ·rw[key_rr] at h;exact wpAny_eqBool_str h
 «strs» :=fun k x t v h=>by
  rcases jJv h with ⟨i,u,rfl,e⟩ | ⟨y,u,rfl,e⟩
  ·exact nomatch e
  ·injection e with e1 _
   subst e1
   cases v<;>rfl
theorem kQ8 (prog:Program) (w:World) (i:Int) (t:Tok):(jKg prog w).is (.inl i) (.int i t)=true:=kZb i t
theorem kQ7 (prog:Program) (w:World) (x:Str) (t:Tok):(jKg prog w).is (.inr x) (.str x t)=true:=kZa x t
end L2
set_option synthInstance.maxSize 1000
namespace L2
open PySem PySem.Spec PyProof.Rows
structure KeyV (prog:Program) (w:World) (K:Type) [DecidableEq K] (c:Nat) where
 is:Heap->K->Value->Prop
 hash:K->Int
 draws:K->Nat
 inj:∀ {h:Heap} {v:Value} {x y:K},is h x v->is h y v->x=y
 keeps:∀ {h h':Heap} {k:K} {v:Value} {d:Addr} {o:Obj} {es:Array DictEntry} {ep:Nat},is h k v->h.get? d=some o->o.data= .dict es ep->Heap.SameBut d h h'->is h' k v
 hashed:∀ {A:Around} {E:Value->Shared->Prop} {s:Shared} {k:K} {v:Value} {Q:Int->Shared->Prop},A.units+c<cLine->is s.heap k v->Q (hash k) {s with toks:=s.toks+draws k}->wpAny (model prog w) A (PySem.pyHash v) Q E s
 eqAt:∀ {A:Around} {s:Shared} {x y:K} {u v:Value},A.units+c<cLine->is s.heap x u->is s.heap y v->SeqAt.EqAt A s u v (decide (x=y))
 quiet:∀ {A:Around} {E:Value->Shared->Prop} {s:Shared} {k:K} {v:Value} {Q:Bool->Shared->Prop} (n:Nat),c<=n->is s.heap k v->Q true s->wpAny (model prog w) A (eqIsQuiet n v) Q E s
noncomputable def kQj (prog:Program) (w:World):KeyV prog w Key 0 where
 is:=fun _ k v=>jXq k v=true
 hash:=keyH w
 draws:=fun _=>1
 inj:=fun hx hy=>(jKg prog w).inj _ _ _ hx hy
 keeps:=fun x _ _ _=>x
 hashed:=fun _ hv h=>(jKg prog w).pyHash hv h
 eqAt:=fun _ hx hy prog' w' _ _ h=>(jKg prog' w').eqBool hx hy h
 quiet:=fun n _ hv h=>by rw[eqIsQuiet_byValue n ((jKg prog w).byValue _ _ hv)];exact lJd h
section
variable {prog:Program} {w:World} {K:Type} [DecidableEq K] {c:Nat}
inductive ItemsV (V:KeyV prog w K c) (h:Heap):List K->List Value->Prop
 | nil:ItemsV V h [] []
 | cons {k:K} {v:Value} {ks:List K} {vs:List Value}:V.is h k v->ItemsV V h ks vs->ItemsV V h (k::ks) (v::vs)
theorem ItemsV.inj {V:KeyV prog w K c} {h:Heap} {x:List K} {vs:List Value} (hx:ItemsV V h x vs):∀ {y:List K},ItemsV V h y vs->x=y:=by
 induction hx with
 | nil=>intro y hy;cases hy;rfl
 | cons a _ ih=>intro y hy;cases hy with | cons b t=>rw[V.inj a b,ih t]
theorem ItemsV.length {V:KeyV prog w K c} {h:Heap} {x:List K} {vs:List Value} (hx:ItemsV V h x vs):x.length=vs.length:=by
 induction hx with
 | nil=>rfl
 | cons _ _ ih=>simp[ih]
theorem ItemsV.get {V:KeyV prog w K c} {h:Heap} {x:List K} {vs:List Value} (hx:ItemsV V h x vs):∀ {j:Nat} {v:Value},vs[j]? =some v->∃k,x[j]? =some k/\V.is h k v:=by
 induction hx with
 | nil=>intro j v e;simp at e
 | cons a _ ih=>
  intro j v e
  cases j with
  | zero=>simp at e;subst e;exact⟨_,rfl,a⟩
  | succ j=>obtain⟨k,h1,h2⟩:=ih (j:=j) (v:=v) (by simpa using e);exact⟨k,by simpa using h1,h2⟩
theorem ItemsV.keeps {V:KeyV prog w K c} {h h':Heap} {x:List K} {vs:List Value} {d:Addr} {o:Obj} {es:Array DictEntry} {ep:Nat} (hx:ItemsV V h x vs) (ho:h.get? d=some o) (hd:o.data= .dict es ep) (hs:Heap.SameBut d h h'):ItemsV V h' x vs:=by
 induction hx with
 | nil=>exact .nil
 | cons a _ ih=>exact .cons (V.keeps a ho hd hs) ih
def kVq (V:KeyV prog w K c) (h:Heap) (ks:List K) (v:Value):Prop:=∃(a:Addr) (o:Obj) (items:Array Value) (n:Nat),v= .ref a/\h.get? a=some o/\o.cls= .type "tuple"/\o.data= .seq items n/\ItemsV V h ks items.toList
theorem all_eq:∀(x y:List K),((List.range (min x.length y.length)).all (fun j=>decide (x[j]? =y[j]?))&&x.length == y.length)=decide (x=y):=by
 intro x y
 by_cases e:x=y
 ·subst e;simp
 ·rw[lJu e,Bool.and_eq_false_iff]
  by_cases l:x.length=y.length
  ·left
   rw[List.all_eq_false]
   have:∃j:Nat,x[j]? ≠y[j]? :=by
    apply lXc
    intro q
    exact e (lQ2 fun j=>lXc fun z=>q ⟨j,z⟩)
   obtain⟨j,hj⟩:=this
   refine⟨j,lJ2.mpr ?_,by simpa using hj⟩
   rcases lKs j (min x.length y.length) with z | z
   ·exact z
   ·exact absurd (by rw[lKa (by omega),lKa (by omega)]) hj
  ·right;simpa using l
noncomputable def jUl (V:KeyV prog w K c):KeyV prog w (List K) (c+2) where
 is:=kVq V
 hash:=fun ks=>reduceHash (Builtin.Tuple.tupleHashOf (ks.map V.hash))
 draws:=fun ks=>(ks.map V.draws).sum+1
 inj:=by
  rintro h v x y ⟨a,o,items,n,rfl,ho,_,hd,hi⟩ ⟨a',o',items',n',e,ho',_,hd',hi'⟩
  cases e
  rw[ho] at ho';cases ho'
  rw[hd] at hd';cases hd'
  exact hi.inj hi'
 keeps:=by
  rintro h h' k v d o es ep ⟨a,o',items,n,rfl,ho',hc,hd',hi⟩ ho hd hs
  have ne:a≠d:=by
   rintro rfl
   rw[ho] at ho';cases ho'
   rw[hd] at hd';cases hd'
  exact⟨a,o',items,n,rfl,(hs.2 a ne).trans ho',hc,hd',hi.keeps ho hd hs⟩
 hashed:=by
  rintro A E s ks v Q hu ⟨a,o,items,n,rfl,ho,hc,hd,hi⟩ h
  refine PySem.W.pyHash_slot (T:="tuple") ⟨o,ho,hc⟩ F.slot_tuple_hash F.entry_tuple_hash (F.args_tuple_hash_1 _) (beq_builtin_none _) (.inr (by omega)) ?_
  refine (show wpAny _ _ (Builtin.Tuple.tupleItemsOf (.ref a) >>= _) _ _ s from lJc (wpAny_tupleItemsOf ho hd (lJc ?_)))
  rw[<-Array.forIn_toList]
  refine lV7 _ (fun rest (b:Array Int) z=>∃done left,ks=done++left/\ItemsV V s.heap left rest/\b.toList=done.map V.hash/\z={s with toks:=s.toks+(done.map V.draws).sum}) _ ?_ ?_ _ _ ⟨[],ks,rfl,hi,rfl,rfl⟩
  ·rintro x rest b z ⟨done,left,rfl,hl,hb,rfl⟩
   cases hl with
   | @cons k _ ks' _ h1 hl'=>
    refine lJc (V.hashed (by rw[lQ3];omega) h1 ?_)
    first
     | exact lJd ⟨done++[k],ks',by simp,hl',by simp[hb],(by simp[Nat.add_assoc])⟩
     | exact lJc (lJd (lJd ⟨done++[k],ks',by simp,hl',by simp[hb],(by simp[Nat.add_assoc])⟩))
  ·rintro b z ⟨done,left,rfl,hl,hb,rfl⟩
   cases hl
   rw[lKh] at h
   refine (show wpAny _ _ (retInt (Builtin.Tuple.tupleHashOf b.toList)) _ _ _ from ?_)
   rw[hb]
   exact lJc (wpAny_mkInt (lJd ⟨_,_,rfl,by simpa[Nat.add_assoc] using h⟩))
 eqAt:=by
  rintro A s x y u v hu ⟨a,o,items,n,rfl,ho,hc,hd,hi⟩ ⟨a',o',items',n',rfl,ho',hc',hd',hi'⟩
  by_cases e:a=a'
  ·subst e
   rw[ho] at ho';cases ho'
   rw[hd] at hd';cases hd'
   rw[hi.inj hi',lJs rfl]
   exact SeqAt.EqAt.same _
  ·have R:=SeqAt.RcAt.tuples (A:=A) (s:=s) (l:=a) (b:=a') (e:=fun j=>decide (x[j]? =y[j]?)) ⟨o,ho,hc,n,hd⟩ ⟨o',ho',hc',n',hd'⟩ (by omega) (fun j j1 j2=> ?_)
   ·have l1:=hi.length
    have l2:=hi'.length
    rw[<-all_eq x y,l1,l2]
    have R':=SeqAt.EqAt.of_refs e R
    simpa using R'
   ·obtain⟨k,h1,h2⟩:=hi.get (j:=j) (v:=items[j]) (by simp[j1])
    obtain⟨k',h1',h2'⟩:=hi'.get (j:=j) (v:=items'[j]) (by simp[j2])
    have:=V.eqAt (A:=A.in1) (s:=s) (by rw[lQ3];omega) h2 h2'
    rw[h1,h1']
    simpa using this
 quiet:=by
  rintro A E s ks v Q n hn ⟨a,o,items,m,rfl,ho,hc,hd,hi⟩ h
  obtain⟨n,rfl⟩:∃nn,n=nn+1:=⟨n-1,by omega⟩
  have hT:s.TypeIs (.ref a) "tuple":=⟨o,ho,hc⟩
  unfold eqIsQuiet;refine lJc (wpAny_specialOf hT F.slot_tuple_eq.lookup ?_)
  refine (show wpAny _ _ (isInstance (.ref a) (.type "tuple") >>= _) _ _ s from lJc (wpAny_isInstance hT isSubtype_tuple_tuple ?_))
  simp only[lKk,Bool.not_true,lKx]
  refine lJc (lVp ho hd (lJc ?_))
  refine (show wpAny _ _ (forIn items _ _) _ _ s from ?_)
  rw[<-Array.forIn_toList]
  refine lV7 _ (fun rest r z=>r.1=none/\z=s/\∃left,ItemsV V s.heap left rest) _ ?_ ?_ _ _ ⟨rfl,rfl,ks,hi⟩
  ·rintro x rest r z ⟨hr,rfl,left,hl⟩
   cases hl with
   | cons h1 hl'=>
    refine lJc (V.quiet n (by omega) h1 ?_)
    simp only[lKk,Bool.not_true,lKx]
    exact lJd ⟨rfl,rfl,_,hl'⟩
  ·rintro⟨r1,r2⟩ z ⟨hr,rfl,_⟩
   simp only at hr;subst hr
   exact lJd h
theorem qXd {α β:Type} [DecidableEq α] [DecidableEq β] (a b:α):decide ((Sum.inl a:α ⊕ β)=Sum.inl b)=decide (a=b):=by
 by_cases e:a=b
 ·simp[e]
 ·rw[lJu e,lJu fun z=>e (Sum.inl.inj z)]
theorem qXc {α β:Type} [DecidableEq α] [DecidableEq β] (a b:β):decide ((Sum.inr a:α ⊕ β)=Sum.inr b)=decide (a=b):=by
 by_cases e:a=b
 ·simp[e]
 ·rw[lJu e,lJu fun z=>e (Sum.inr.inj z)]
noncomputable def qJ7 (V:KeyV prog w K c):KeyV prog w (Key ⊕ List K) (c+2) where
 is:=fun h k v=>match k with
  | .inl k=>jXq k v=true
  | .inr ks=>kVq V h ks v
 hash:=fun k=>match k with
  | .inl k=>keyH w k
  | .inr ks=>(jUl V).hash ks
 draws:=fun k=>match k with
  | .inl _=>1
  | .inr ks=>(jUl V).draws ks
 inj:=by
  rintro h v (x | x) (y | y) hx hy
  ·rw[(jKg prog w).inj _ _ _ hx hy]
  ·obtain⟨a,_,_,_,rfl,_⟩:=hy
   rcases jJv hx with ⟨i,t,_,e⟩ | ⟨i,t,_,e⟩<;>cases e
  ·obtain⟨a,_,_,_,rfl,_⟩:=hx
   rcases jJv hy with ⟨i,t,_,e⟩ | ⟨i,t,_,e⟩<;>cases e
  ·rw[(jUl V).inj hx hy]
 keeps:=by
  rintro h h' (k | k) v d o es ep hx ho hd hs
  ·exact hx
  ·exact (jUl V).keeps hx ho hd hs
 hashed:=by
  rintro A E s (k | k) v Q hu hx h
  ·exact (jKg prog w).pyHash hx h
  ·exact (jUl V).hashed hu hx h
 eqAt:=by
  rintro A s (x | x) (y | y) u v hu hx hy
  ·rw[qXd]
   exact (kQj prog w).eqAt (by omega) hx hy
  ·rw[lJu fun z=>nomatch z]
   obtain⟨a,o,items,n,rfl,ho,hc,hd,_⟩:=hy
   rcases jJv hx with ⟨i,t,_,rfl⟩ | ⟨i,t,_,rfl⟩
   ·exact SeqAt.EqAt.int_tuple i t ⟨o,ho,hc,n,hd⟩ (by omega)
   ·exact SeqAt.EqAt.str_tuple i t ⟨o,ho,hc,n,hd⟩ (by omega)
  ·rw[lJu fun z=>nomatch z]
   obtain⟨a,o,items,n,rfl,ho,hc,hd,_⟩:=hx
   rcases jJv hy with ⟨i,t,_,rfl⟩ | ⟨i,t,_,rfl⟩
   ·exact SeqAt.EqAt.tuple_int i t ⟨o,ho,hc,n,hd⟩ (by omega)
   ·exact SeqAt.EqAt.tuple_str i t ⟨o,ho,hc,n,hd⟩ (by omega)
  ·rw[qXc]
   exact (jUl V).eqAt hu hx hy
 quiet:=by
  rintro A E s (k | k) v Q n hn hx h
  ·exact (kQj prog w).quiet n (lJq _) hx h
  ·exact (jUl V).quiet n hn hx h
end
abbrev K1:=Key ⊕ List Key
abbrev K2:=Key ⊕ List K1
abbrev TKey:=List K2
def vk1 (prog:Program) (w:World):KeyV prog w K1 2:=qJ7 (kQj prog w)
def vk2 (prog:Program) (w:World):KeyV prog w K2 4:=qJ7 (vk1 prog w)
noncomputable def jKj (prog:Program) (w:World):HeapKind prog w TKey where
 is:=fun h ks a=>(jUl (vk2 prog w)).is h ks (.ref a)
 hash:=(jUl (vk2 prog w)).hash
 draws:=(jUl (vk2 prog w)).draws
 room:=fun A=>A.units+6<cLine
 inj:=fun hx hy=>(jUl (vk2 prog w)).inj hx hy
 keeps:=fun x ho hd hs=>(jUl (vk2 prog w)).keeps x ho hd hs
 pyHash:=fun hu hk h=>(jUl (vk2 prog w)).hashed hu hk h
 eqBool:=fun hu hx hy h=>(jUl (vk2 prog w)).eqAt hu hx hy _ _ _ _ h
 quiet:=fun hk h=>(jUl (vk2 prog w)).quiet 8 (by decide) hk h
theorem jKc {prog:Program} {w:World} {A:Around} (hu:A.units+20<cLine):(jKj prog w).room A.in1:=by
 show A.in1.units+6<cLine
 rw[lQ3];omega
inductive V where
 | non | bl (b:Bool) | int (i:Int) | str (x:Str) | byt (b:Array UInt8) | flt (b:UInt64) | ref (a:Addr) | ty (n:String)
 deriving DecidableEq
noncomputable def RelV:V->Value->Prop
 | .non,u=>u=Value.none
 | .bl b,u=>u=Value.bool b
 | .int i,u=>∃t,u=Value.int i t
 | .str x,u=>∃t,u=Value.str x t
 | .byt b,u=>∃t,u=Value.bytes b t
 | .flt b,u=>∃t,u=Value.float b t
 | .ref a,u=>u=Value.ref a
 | .ty n,u=>u=Value.type n
abbrev Vals:List V->List Value->Prop:=Paired RelV
theorem Vals.length {xs:List V} {us:List Value} (r:Vals xs us):xs.length=us.length:=lQ4 r
theorem Vals.get:∀ {xs:List V} {us:List Value} {i:Nat} {x:V},Vals xs us->xs[i]? =some x->∃u,us[i]? =some u/\RelV x u
 | _,_,_,_,.nil,e=>by simp at e
 | _,_,0,_,.cons r _,e=>by simp at e;subst e;exact⟨_,rfl,r⟩
 | _,_,i+1,x,.cons _ t,e=>by
  obtain⟨u,h1,h2⟩:=Vals.get (i:=i) (x:=x) t (by simpa using e)
  exact⟨u,by simpa using h1,h2⟩
theorem Vals.set {x:V} {u:Value} (r:RelV x u):∀ {xs:List V} {us:List Value} (i:Nat),Vals xs us->Vals (xs.set i x) (us.set i u)
 | _,_,_,.nil=> .nil
 | _,_,0,.cons _ t=> .cons r t
 | _,_,i+1,.cons q t=> .cons q (Vals.set r i t)
theorem Vals.append:∀ {xs ys:List V} {us ws:List Value},Vals xs us->Vals ys ws->Vals (xs++ys) (us++ws)
 | _,_,_,_,.nil,s=>s
 | _,_,_,_,.cons r t,s=> .cons r (Vals.append t s)
theorem Vals.take:∀ {xs:List V} {us:List Value} (n:Nat),Vals xs us->Vals (xs.take n) (us.take n)
 | _,_,0,_=> .nil
 | _,_,_+1,.nil=> .nil
 | _,_,n+1,.cons r t=> .cons r (Vals.take n t)
theorem Vals.drop:∀ {xs:List V} {us:List Value} (n:Nat),Vals xs us->Vals (xs.drop n) (us.drop n)
 | _,_,0,r=>r
 | _,_,_+1,.nil=> .nil
 | _,_,n+1,.cons _ t=>Vals.drop n t
theorem Vals.none_of:∀ {xs:List V} {us:List Value} {i:Nat},Vals xs us->xs[i]? =none->us[i]? =none:=fun {xs us i} r e=>by
 have h1:=r.length
 have h2:xs.length<=i:=lXj.mp e
 exact lXj.mpr (by omega)
def RelO:Option V->Option Value->Prop
 | some v,some u=>RelV v u
 | none,none=>True
 | _,_=>False
def KV {κ:Type}:List (κ×V)->List (κ×Value)->Prop:=Paired fun (p:κ×V) (q:κ×Value)=>p.1=q.1/\RelV p.2 q.2
def kV:Key->V
 | .inl i=> .int i
 | .inr x=> .str x
inductive HO where
  | lst (xs:List V)
  | tup (xs:List V)
  | dK (kvs:List (Key×V)) | dT (kvs:List (TKey×V))
  | set (S:Int->Bool) (n:Nat)
  | ins (C dx:Addr) (fs:List (Str×V))
  | own (x:Addr)
  | xd (fs:List (Str×V))
  | met (f x:Addr)
  | rng (lo hi:Int)
  | frz (o:Obj) (u:HO)
  | tbl (ps:Array Value)
  | ext (φ:Heap->Prop)
abbrev Hp:=Addr->Option HO
def upd (H:Hp) (a:Addr) (o:HO):Hp:=fun b=>if b=a then some o else H b
theorem jJ6 {H:Hp} {a:Addr} {o:HO}:upd H a o a=some o:=by unfold upd;rw[lJa rfl]
theorem jJu {H:Hp} {a b:Addr} {o:HO} (h:b≠a):upd H a o b=H b:=by unfold upd;rw[lJb h]
theorem ne_of {H:Hp} {a b:Addr} {o u:HO} (h:H a=some o) (h':H b=some u) (d:o≠u):a≠b:=by
 intro e;subst e;rw[h] at h';exact d (lKb h')
theorem jQi {H:Hp} {a b:Addr} {o:HO} (h:H a=some o) (h':H b=none):a≠b:=by
 intro e;subst e;rw[h] at h';cases h'
def Rk1 (H:Hp) (k:K1) (v:V):Prop:=match k with
 | .inl k=>v=kV k
 | .inr ks=>∃p vs,v= .ref p/\H p=some (.tup vs)/\Paired (fun k v=>v=kV k) ks vs
def Rk2 (H:Hp) (k:K2) (v:V):Prop:=match k with
 | .inl k=>v=kV k
 | .inr ks=>∃p vs,v= .ref p/\H p=some (.tup vs)/\Paired (Rk1 H) ks vs
def TKeyAt (H:Hp) (ks:TKey) (a:Addr):Prop:=∃vs,H a=some (.tup vs)/\Paired (Rk2 H) ks vs
theorem jVk {α β:Type} {F G:α->β->Prop} (f:∀a b,F a b->G a b):∀ {l:List α} {m:List β},Paired F l m->Paired G l m
 | _,_,.nil=> .nil
 | _,_,.cons r t=> .cons (f _ _ r) (jVk f t)
theorem Rk1.mono {H H':Hp} (ht:∀b ys,H b=some (.tup ys)->H' b=some (.tup ys)) (k:K1) (v:V) (r:Rk1 H k v):Rk1 H' k v:=by
 cases k with
 | inl k=>exact r
 | inr ks=>obtain⟨p,vs,e,h,t⟩:=r;exact⟨p,vs,e,ht _ _ h,t⟩
theorem Rk2.mono {H H':Hp} (ht:∀b ys,H b=some (.tup ys)->H' b=some (.tup ys)) (k:K2) (v:V) (r:Rk2 H k v):Rk2 H' k v:=by
 cases k with
 | inl k=>exact r
 | inr ks=>obtain⟨p,vs,e,h,t⟩:=r;exact⟨p,vs,e,ht _ _ h,jVk (Rk1.mono ht) t⟩
theorem TKeyAt.mono {H H':Hp} {ks:TKey} {a:Addr} (r:TKeyAt H ks a) (ht:∀b ys,H b=some (.tup ys)->H' b=some (.tup ys)):TKeyAt H' ks a:=by
 obtain⟨vs,h,t⟩:=r;exact⟨vs,ht _ _ h,jVk (Rk2.mono ht) t⟩
section
variable (P:Program) (w:World)
def TupD (h:Heap) (a:Addr) (items:Array Value):Prop:=∃o,h.get? a=some o/\o.cls= .type "tuple"/\∃n,o.data= .seq items n/\o.dict=none
theorem TupD.is {h:Heap} {a:Addr} {items:Array Value} (x:TupD h a items):IsTup h a items:=let ⟨o,e,c,n,d,_⟩:=x;⟨o,e,c,n,d⟩
theorem TupD.new (h:Heap) (items:Array Value):TupD (h.push {cls:= .type "tuple",data:= .seq items}) h.objs.size items:=⟨_,lJ5 _ rfl,rfl,_,rfl,rfl⟩
noncomputable def ObjOk (H:Hp) (h:Heap) (a:Addr):HO->Prop
 | .lst xs=>xs.length<=sizeLine/\∃(its:List Value) (n:Nat),Vals xs its/\h.get? a=some {cls:= .type "list",data:= .seq its.toArray n}
 | .tup xs=>xs.length<=sizeLine/\∃its:List Value,Vals xs its/\TupD h a its.toArray
 | .dK kvs=>kvs.length<=sizeLine/\(a == sysModules)=false/\∃vs,KV kvs vs/\h.DictOf (jKg P w) a vs
 | .dT kvs=>kvs.length<=sizeLine/\(a == sysModules)=false/\∃xs:List (TKey×Addr×Value),
   Paired (fun (p:TKey×V) (q:TKey×Addr×Value)=>p.1=q.1/\TKeyAt H p.1 q.2.1/\RelV p.2 q.2.2) kvs xs/\
   ∃o es ep,h.get? a=some o/\o.ExactDict/\o.data= .dict es ep/\es.toList=xs.map (entryOfKey (jKj P w))/\(xs.map (·.1)).Nodup
 | .set S n=>h.SetOf (intKind P w) a S n
 | .ins C dx fs=>H dx=some (.own a)/\fs.length<=1000/\dx≠a/\h.get? a=some (PySem.W.instObj C dx)/\
   ∃mA,h.Ns1 dx mA/\(∀f,RelO (fs.lookup f) (mA f))/\PySem.Within mA (fs.map (·.1))
 | .own _=>∃o,h.get? a=some o
 | .xd fs=>∃mA,h.Ns1 a mA/\∀f,RelO (fs.lookup f) (mA f)
 | .rng lo hi=>∃t u v,h.get? a=some {cls:= .type "range",data:= .fields #[.int lo t,.int hi u,.int 1 v]}
 | .frz o u=>h.get? a=some o/\ObjOk H h a u
 | .tbl ps=>h.get? a=some {cls:= .none,data:= .fields ps}
 | .met f x=>h.get? a=some (PySem.W.methodObj (.ref f) (.ref x))
 | .ext φ=>φ h/\(∃o,h.get? a=some o)/\∀h1 h2:Heap,φ h1->(∀o,h1.get? a=some o->h2.get? a=some o)->φ h2
def HOk (H:Hp) (h:Heap):Prop:=∀a o,H a=some o->ObjOk P w H h a o
end
section
variable {P:Program} {w:World} {H H':Hp} {h h':Heap} {a:Addr} {o:HO}
theorem ObjOk.lt (x:ObjOk P w H h a o):a<h.objs.size:=by
 cases o with
 | lst xs=>obtain⟨_,_,_,_,e⟩:=x;exact lJg e
 | tup xs=>obtain⟨_,_,_,p⟩:=x;exact p.is.lt
 | dK kvs=>obtain⟨_,_,_,_,o,_,_,e,_⟩:=x;exact lJg e
 | dT kvs=>obtain⟨_,_,_,_,o,_,_,e,_⟩:=x;exact lJg e
 | set S n=>obtain⟨o,_,_,_,e,_⟩:=x;exact lJg e
 | ins C dx fs=>obtain⟨_,_,_,e,_⟩:=x;exact lJg e
 | own y=>obtain⟨_,e⟩:=x;exact lJg e
 | xd fs=>obtain⟨_,⟨_,_,_,e,_⟩,_⟩:=x;exact lJg e
 | rng lo hi=>obtain⟨_,_,_,e⟩:=x;exact lJg e
 | frz ob u=>obtain⟨e,_⟩:=x;exact lJg e
 | tbl ps=>exact lJg (show h.get? a=some _ from x)
 | met f y=>exact lJg (show h.get? a=some _ from x)
 | ext φ=>obtain⟨_,⟨_,e⟩,_⟩:=x;exact lJg e
theorem Paired.mapP {α β:Type} {F G:α->β->Prop}:∀ {l₁:List α} {l₂:List β},Paired F l₁ l₂->(∀a b,F a b->G a b)->Paired G l₁ l₂
 | _,_,.nil,_=> .nil
 | _,_,.cons r t,f=> .cons (f _ _ r) (Paired.mapP t f)
theorem ObjOk.stay (x:ObjOk P w H h a o) (k:∀b u,(b=a\/H b=some (.own a))->h.get? b=some u->h'.get? b=some u)
  (ho:∀b,H b=some (.own a)->H' b=some (.own a)) (ht:∀b xs,H b=some (.tup xs)->H' b=some (.tup xs)):ObjOk P w H' h' a o:=by
 induction o with
 | lst xs=>obtain⟨z,its,n,r,e⟩:=x;exact⟨z,its,n,r,k _ _ (.inl rfl) e⟩
 | tup xs=>obtain⟨z,its,r,ob,e,c⟩:=x;exact⟨z,its,r,ob,k _ _ (.inl rfl) e,c⟩
 | dK kvs=>obtain⟨z,y,vs,r,ob,es,ep,e,c⟩:=x;exact⟨z,y,vs,r,ob,es,ep,k _ _ (.inl rfl) e,c⟩
 | dT kvs=>
  obtain⟨z,y,xs,r,ob,es,ep,e,c⟩:=x
  exact⟨z,y,xs,Paired.mapP r fun p q z=>⟨z.1,z.2.1.mono ht,z.2.2⟩,ob,es,ep,k _ _ (.inl rfl) e,c⟩
 | set S n=>obtain⟨ob,es,ep,t,e,c⟩:=x;exact⟨ob,es,ep,t,k _ _ (.inl rfl) e,c⟩
 | ins C dx fs=>
  obtain⟨d,z,ne,e,mA,⟨od,es,ep,e2,c⟩,r⟩:=x
  exact⟨ho _ d,z,ne,k _ _ (.inl rfl) e,mA,⟨od,es,ep,k _ _ (.inr d) e2,c⟩,r⟩
 | own y=>obtain⟨ob,e⟩:=x;exact⟨ob,k _ _ (.inl rfl) e⟩
 | xd fs=>obtain⟨mA,⟨od,es,ep,e,c⟩,r⟩:=x;exact⟨mA,⟨od,es,ep,k _ _ (.inl rfl) e,c⟩,r⟩
 | rng lo hi=>obtain⟨t,u,v,e⟩:=x;exact⟨t,u,v,k _ _ (.inl rfl) e⟩
 | frz ob u ih=>obtain⟨e,q⟩:=x;exact⟨k _ _ (.inl rfl) e,ih q⟩
 | tbl ps=>
  have e:h.get? a=some {cls:= .none,data:= .fields ps}:=x
  show h'.get? a=some {cls:= .none,data:= .fields ps}
  exact k a _ (.inl rfl) e
 | met f y=>
  have e:h.get? a=some (PySem.W.methodObj (.ref f) (.ref y)):=x
  show h'.get? a=some (PySem.W.methodObj (.ref f) (.ref y))
  exact k a _ (.inl rfl) e
 | ext φ=>obtain⟨p,⟨o,e⟩,st⟩:=x;exact⟨st _ _ p fun o q=>k _ _ (.inl rfl) q,⟨o,k _ _ (.inl rfl) e⟩,st⟩
theorem HOk.lt (x:HOk P w H h) (e:H a=some o):a<h.objs.size:=(x a o e).lt
theorem HOk.fresh (x:HOk P w H h) (e:h.objs.size<=a):H a=none:=by
 cases q:H a with
 | none=>rfl
 | some u=>exact absurd (lJ6 (x.lt q) e) (lKt _)
theorem HOk.kept (x:HOk P w H h) (k:∀b u,h.get? b=some u->h'.get? b=some u):HOk P w H h':=fun a o e=>
 (x a o e).stay (fun b u _ q=>k b u q) (fun _ q=>q) fun _ _ q=>q
theorem HOk.laid (x:HOk P w H h) (k:∀b u,h.get? b=some u->h'.get? b=some u) (hp:h.objs.size<=a) (new:ObjOk P w (upd H a o) h' a o):HOk P w (upd H a o) h':=fun b u e=>by
 have hn:=x.fresh hp
 by_cases hb:b=a
 ·subst hb;rw[jJ6] at e;cases e;exact new
 ·rw[jJu hb] at e
  exact (x b u e).stay (fun c v _ q=>k c v q) (fun c q=>by rw[jJu (jQi q hn)];exact q) fun c xs q=>by rw[jJu (jQi q hn)];exact q
end
def Rd (H:Hp) (a:Addr) (u:HO):Prop:=H a=some u\/∃o,H a=some (.frz o u)
theorem Rd.ok {P:Program} {w:World} {H:Hp} {h:Heap} {a:Addr} {u:HO} (r:Rd H a u) (x:HOk P w H h):ObjOk P w H h a u:=by
 rcases r with r | ⟨o,r⟩
 ·exact x a u r
 ·obtain⟨_,q⟩:=x a _ r
  exact q
def Mut:Option HO->Prop
 | some (.lst _)=>True
 | some (.dK _)=>True
 | some (.dT _)=>True
 | some (.set _ _)=>True
 | some (.ins _ _ _)=>True
 | some (.ext _)=>True
 | _=>False
section
variable {P:Program} {w:World} {H:Hp} {h h':Heap} {x e:Addr} {o':HO}
theorem HOk.write (ok:HOk P w H h) (mu:Mut (H x)) (he:e=x\/H e=some (.own x)) (k:∀b u,b≠e->h.get? b=some u->h'.get? b=some u) (heo:∃u,h'.get? e=some u)
  (new:ObjOk P w (upd H x o') h' x o'):HOk P w (upd H x o') h':=fun b u q=>by
 have nown:∀c y,H c=some (.own y)->c≠x:=fun c y r z=>by subst z;rw[r] at mu;exact mu
 have ntup:∀c xs,H c=some (.tup xs)->c≠x:=fun c xs r z=>by subst z;rw[r] at mu;exact mu
 by_cases hb:b=x
 ·subst hb;rw[jJ6] at q;cases q;exact new
 ·rw[jJu hb] at q
  by_cases hbe:b=e
  ·have q':H b=some (.own x):=by
    rcases he with z | z
    ·exact absurd (hbe.trans z) hb
    ·rw[hbe];exact z
   rw[q] at q';cases q'
   obtain⟨v,hv⟩:=heo
   exact⟨v,by rw[hbe];exact hv⟩
  ·refine (ok b u q).stay (fun c v hc r=>k c v ?_ r) (fun c r=>by rw[jJu (nown c b r)];exact r) fun c xs r=>by rw[jJu (ntup c xs r)];exact r
   rcases hc with rfl | hc
   ·exact hbe
   ·rintro rfl
    rcases he with z | z
    ·exact nown c b hc z
    ·rw[hc] at z;cases z;exact hb rfl
end
structure Un (fs ex:List Addr) (H H':Hp) (h h':Heap):Prop where
 keep:∀b o,h.get? b=some o->H b=none->b∉fs->b∉ex->h'.get? b=some o
 slot:∀b o,h.get? b=some o->H b=none->b∈fs->b∉ex->∃sl,h'.get? b=some {o with slots:=sl}
 free:∀b o,h.get? b=some o->H b=none->b∉ex->H' b=none
 there:∀b o,h.get? b=some o->b∉ex->∃o',h'.get? b=some o'
 tups:∀b xs,H b=some (.tup xs)->H' b=some (.tup xs)
 frzs:∀b o u,H b=some (.frz o u)->H' b=some (.frz o u)
 tbls:∀b ps,H b=some (.tbl ps)->∃more,H' b=some (.tbl (ps++more))
section
variable {fs fs' ex ex':List Addr} {H H1 H2:Hp} {h h1 h2 h':Heap} {a x e:Addr} {o:HO}
theorem Un.any (u:Un fs ex H H1 h h1) {b:Addr} {ob:Obj} (q:h.get? b=some ob) (n:H b=none) (hx:b∉ex):∃sl,h1.get? b=some {ob with slots:=sl}:=by
 by_cases hb:b∈fs
 ·exact u.slot b ob q n hb hx
 ·exact⟨ob.slots,u.keep b ob q n hb hx⟩
theorem Un.trans (a:Un fs ex H H1 h h1) (b:Un fs ex H1 H2 h1 h2):Un fs ex H H2 h h2 where
 keep:=fun c ob q n hc hx=>b.keep c ob (a.keep c ob q n hc hx) (a.free c ob q n hx) hc hx
 slot:=fun c ob q n hc hx=>by
  obtain⟨sl,e1⟩:=a.slot c ob q n hc hx
  obtain⟨sl',e2⟩:=b.slot c _ e1 (a.free c ob q n hx) hc hx
  exact⟨sl',e2⟩
 free:=fun c ob q n hx=>by
  obtain⟨o',e1⟩:=a.there c ob q hx
  exact b.free c o' e1 (a.free c ob q n hx) hx
 there:=fun c ob q hx=>by
  obtain⟨o',e1⟩:=a.there c ob q hx
  exact b.there c o' e1 hx
 tups:=fun c xs q=>b.tups c xs (a.tups c xs q)
 frzs:=fun c ob xs q=>b.frzs c ob xs (a.frzs c ob xs q)
 tbls:=fun c ps q=>by
  obtain⟨m1,e1⟩:=a.tbls c ps q
  obtain⟨m2,e2⟩:=b.tbls c _ e1
  exact⟨m1++m2,by rw[e2,Array.append_assoc]⟩
theorem Un.kept (k:∀b u,h.get? b=some u->h'.get? b=some u):Un fs ex H H h h':=
 ⟨fun b ob q _ _ _=>k b ob q,fun b ob q _ _ _=>⟨ob.slots,k b ob q⟩,fun _ _ _ n _=>n,fun b ob q _=>⟨ob,k b ob q⟩,fun _ _ q=>q,fun _ _ _ q=>q,fun _ ps q=>⟨#[],by rw[q];simp⟩⟩
theorem Un.refl:Un fs ex H H h h:=Un.kept fun _ _ q=>q
theorem Un.laid (k:∀b u,h.get? b=some u->h'.get? b=some u) (hp:h.objs.size<=a) (hn:H a=none):Un fs ex H (upd H a o) h h' where
 keep:=fun b u q _ _ _=>k b u q
 slot:=fun b u q _ _ _=>⟨u.slots,k b u q⟩
 free:=fun b u q n _=>by rw[jJu (lJw (lJ6 (lJg q) hp))];exact n
 there:=fun b u q _=>⟨u,k b u q⟩
 tups:=fun b xs q=>by rw[jJu (jQi q hn)];exact q
 frzs:=fun b u xs q=>by rw[jJu (jQi q hn)];exact q
 tbls:=fun b ps q=>⟨#[],by rw[jJu (jQi q hn),q];simp⟩
theorem Un.write (mu:Mut (H x)) (he:e=x\/H e=some (.own x)) (k:∀b u,b≠e->h.get? b=some u->h'.get? b=some u) (heo:∃u,h'.get? e=some u):Un fs ex H (upd H x o) h h':=by
 have hx:∀b,H b=none->b≠x:=fun b n z=>by subst z;rw[n] at mu;exact mu
 have hb:∀b,H b=none->b≠e:=fun b n z=>by
  subst z
  rcases he with r | r
  ·exact hx b n r
  ·rw[n] at r;cases r
 have hm:∀b u,H b=some u->¬ Mut (some u)->b≠x:=fun b u q nm z=>by subst z;rw[q] at mu;exact nm mu
 refine⟨fun b u q n _ _=>k b u (hb b n) q,fun b u q n _ _=>⟨u.slots,k b u (hb b n) q⟩,fun b u q n _=>by rw[jJu (hx b n)];exact n,fun b u q _=> ?_,
  fun b xs q=>by rw[jJu (hm b _ q fun z=>z)];exact q,fun b u xs q=>by rw[jJu (hm b _ q fun z=>z)];exact q,fun b ps q=>⟨#[],by rw[jJu (hm b _ q fun z=>z),q];simp⟩⟩
 by_cases hbe:b=e
 ·subst hbe;exact heo
 ·exact⟨u,k b u hbe q⟩
end
def trk (h:Heap) (H:Hp):List Addr:=(List.range h.objs.size).filter fun a=>(H a).isSome
def hidT (h:Heap) (H:Hp):Heap:=PySem.W.hideAll h (trk h H)
theorem kZn (h:Heap) (H:Hp):(hidT h H).objs.size=h.objs.size:=PySem.W.hideAll_size _ _
theorem qQk {h:Heap} {H:Hp} {b:Addr} {o:Obj} (e:h.get? b=some o) (n:H b=none):(hidT h H).get? b=some o:=
 PySem.W.hideAll_get _ e fun hm=>by
  have q:(H b).isSome=true:=(lKc.mp hm).2
  rw[n] at q;simp at q
theorem qVh {h:Heap} {H:Hp} {b:Addr} {o:Obj} (e:(hidT h H).get? b=some o):h.get? b=some o/\H b=none:=by
 have e':h.get? b=some o:=PySem.W.of_hideAll (trk h H) e
 refine⟨e',?_⟩
 cases q:H b with
 | none=>rfl
 | some x=>
  have hm:b∈trk h H:=lKc.mpr ⟨lJ2.mpr (lJg e'),by simp[q]⟩
  have z:(hidT h H).get? b=none:=PySem.W.hideAll_none (trk h H) hm
  rw[z] at e;cases e
def qXk (g h:Heap) (L:Addr):List (Addr×Obj):=(List.range h.objs.size).filterMap fun a=>if a=L\/(g.get? a).isSome=true then none else (h.get? a).map fun o=>(a,o)
def rest (g h:Heap) (L d:Addr):List (Addr×Obj):=(qXk g h L).filter fun p=>decide (p.1≠d)
structure Mod (K:PySem.W.Frag) (mg:Str->Option Value) (base:Heap):Prop where
 kin:K.In base
 glob:base.Ns mainGlobals mg
 blt:∃mb,base.Ns builtinsNs mb/\∀x:Str,x≠"__name__"->mb x=bootBuiltins x
 nolimit:base.NoLimit
structure Cx where
 prog:Program
 w:World
 K:PySem.W.Frag
 mg:Str->Option Value
 base:Heap
 A:Around
 N:List Str
 s₀:Shared
 H₀:Hp
 env:Env
 outer:List Env
 stack:List Env
 ex:List Addr
 fn:Str->Bool
 calm:Bool
 pn:List (Addr×Obj)
 xe:Value->Shared->Prop
def frs (l:List Env):List Addr:=l.filterMap (·.frame)
abbrev Cx.fs (X:Cx):List Addr:=frs X.outer
def Vis (sc:Scope) (x:Str):Prop:=sc.names.lookup x=some .local\/sc.names.lookup x=some .cell\/sc.names.lookup x=some .free
def Loc (sc:Scope) (x:Str):Prop:=sc.names.lookup x=some .local\/sc.names.lookup x=some .cell
def Look (env:Env) (h:Heap) (m:Str->Option Value) (x:Str) (u:Value):Prop:=
 (env.kindOf x=some .local/\m x=some u)\/((env.kindOf x=some .cell\/env.kindOf x=some .free)/\∃c,env.cells.lookup x=some c/\h.IsCell c (some u))
structure Cx.Ok (X:Cx):Prop where
 mod:Mod X.K X.mg X.base
 kind:X.env.scope.kind= .function
 glob:X.env.globals=mainGlobals
 blt:X.env.builtins=builtinsNs
 above:X.s₀.heap.objs.size<=X.env.locals
 inj:∀x y c,X.env.cells.lookup x=some c->X.env.cells.lookup y=some c->x=y
 has:∀x,(X.env.kindOf x=some .cell\/X.env.kindOf x=some .free)->∃c,X.env.cells.lookup x=some c
 cab:∀x c,X.fn x=true->X.env.cells.lookup x=some c->X.s₀.heap.objs.size<=c
 hd:X.calm=true->X.A.handled=none
 gd:X.calm=true->X.A.guards=some []
 frames:X.A.frames=some X.stack
 stk:X.stack=X.outer\/(X.stack=X.env::X.outer/\X.env.frame=some X.env.locals)
 exf:∀b∈X.ex,b≠X.env.locals/\∀x c,X.env.cells.lookup x=some c->c≠b
 bs:∀b o,X.base.get? b=some o->X.s₀.heap.get? b=some o/\X.H₀ b=none
 bsz:X.base.objs.size<=X.s₀.heap.objs.size
 noex:∀b o,X.base.get? b=some o->b∉X.ex
 exfs:∀b∈X.ex,b∉X.fs
 funs:X.s₀.heap.FunFrames X.base X.outer
 frf:∀b∈X.fs,X.H₀ b=none
structure Inv (X:Cx) (pins:List (Addr×Obj)) (σ:List (Option V)) (H:Hp) (s:Shared):Prop where
 ok:X.Ok
 os:s.os=X.s₀.os
 bare:AllBare s.gens
 base:Un X.fs X.ex X.H₀ H X.s₀.heap s.heap
 loc:∃m,s.heap.Ns X.env.locals m/\∀(i:Nat) (x:Str) (v:V),X.N[i]? =some x->σ[i]? =some (some v)->Vis X.env.scope x->∃u,RelV v u/\Look X.env s.heap m x u
 cell:∀x c,X.env.cells.lookup x=some c->∃v,s.heap.IsCell c v
 free:H X.env.locals=none
 freeC:∀x c,X.env.cells.lookup x=some c->H c=none
 pin:∀p∈X.pn++pins,s.heap.get? p.1=some p.2/\H p.1=none/\p.1≠X.env.locals/\p.1∉X.fs/\∀v,p.2.data≠ .cell v
 hok:HOk X.prog X.w H s.heap
 len:σ.length=X.N.length
section
variable {X:Cx} {pins:List (Addr×Obj)} {σ:List (Option V)} {H H':Hp} {s:Shared} {h':Heap}
theorem Cx.Ok.nofr (ok:X.Ok) {b:Addr} {o:Obj} (e:X.base.get? b=some o):b∉X.fs:=fun hb=>by
 have:=(ok.funs.mem hb).1
 rw[e] at this;cases this
theorem Inv.bs (I:Inv X pins σ H s):∀b o,X.base.get? b=some o->s.heap.get? b=some o/\H b=none:=fun b o e=>
 ⟨I.base.keep b o (I.ok.bs b o e).1 (I.ok.bs b o e).2 (I.ok.nofr e) (I.ok.noex b o e),I.base.free b o (I.ok.bs b o e).1 (I.ok.bs b o e).2 (I.ok.noex b o e)⟩
theorem Inv.bk (I:Inv X pins σ H s):∀b o,X.base.get? b=some o->s.heap.get? b=some o:=fun b o e=>(I.bs b o e).1
theorem Inv.mod (I:Inv X pins σ H s):Mod X.K X.mg X.base:=I.ok.mod
theorem Inv.kIn (I:Inv X pins σ H s):X.K.In s.heap:=I.ok.mod.kin.keeps I.bk
theorem Inv.lt (I:Inv X pins σ H s):X.env.locals<s.heap.objs.size:=let ⟨_,hn,_⟩:=I.loc;hn.lt
theorem Inv.sz (I:Inv X pins σ H s):X.s₀.heap.objs.size<=s.heap.objs.size:=lKi I.ok.above (lVg I.lt)
theorem Inv.nofs (I:Inv X pins σ H s) {a:Addr} (h:s.heap.objs.size<=a):a∉X.fs:=fun hb=>by
 obtain⟨_,o,ho,_⟩:=I.ok.funs.mem hb
 exact absurd (lJ6 (lJg ho) (lKi I.sz h)) (lKt _)
theorem Inv.cne (I:Inv X pins σ H s):∀x c,X.env.cells.lookup x=some c->c≠X.env.locals:=fun x c e z=>by
 obtain⟨v,o,ho,hd⟩:=I.cell x c e
 obtain⟨m,⟨o',es,ep,ho',hd',_⟩,_⟩:=I.loc
 rw[z,ho'] at ho;cases ho;rw[hd'] at hd;cases hd
theorem Inv.funs (I:Inv X pins σ H s):s.heap.FunFrames X.base X.outer:=by
 have all:∀(l:List Env),(∀b∈frs l,b∈X.fs)->X.s₀.heap.FunFrames X.base l->s.heap.FunFrames X.base l:=by
  intro l
  induction l with
  | nil=>intro _ _;trivial
  | cons env r ih=>
   intro hs hl
   obtain⟨hk,⟨L,o,hf,hn,ho,hd⟩,hr⟩:=hl
   have hL:L∈X.fs:=hs L (by unfold frs;rw[lKu,hf];exact lJ7)
   obtain⟨sl,e⟩:=I.base.slot L o ho (I.ok.frf L hL) hL fun z=>I.ok.exfs L z hL
   exact⟨hk,⟨L,_,hf,hn,e,hd⟩,ih (fun b hb=>hs b (by unfold frs;rw[lKu,hf];exact lJ3 _ hb)) hr⟩
 exact all X.outer (fun _ hb=>hb) I.ok.funs
theorem Inv.stack (I:Inv X pins σ H s):s.heap.FunFrames X.base X.stack:=by
 rcases I.ok.stk with e | ⟨e,hf⟩
 ·rw[e];exact I.funs
 ·rw[e]
  obtain⟨m,hn,_⟩:=I.loc
  refine .cons (by rw[I.ok.kind];decide) hf hn ?_ I.funs
  exact Heap.get?_none_of_le (lKi I.ok.bsz I.ok.above)
theorem Inv.stkSub (I:Inv X pins σ H s):∀b∈frs X.stack,b∈X.env.locals::X.fs:=fun b hb=>by
 rcases I.ok.stk with e | ⟨e,hf⟩
 ·rw[e] at hb;exact lJ3 _ hb
 ·rw[e] at hb
  unfold frs at hb
  rw[lKu,hf] at hb
  exact hb
theorem Inv.stkFree (I:Inv X pins σ H s):∀b∈frs X.stack,H b=none:=fun b hb=>by
 rcases lJj.mp (I.stkSub b hb) with e | hb
 ·rw[e];exact I.free
 ·obtain⟨_,o,ho,_⟩:=I.ok.funs.mem hb
  exact I.base.free b o ho (I.ok.frf b hb) fun z=>I.ok.exfs b z hb
theorem Inv.step {g':Array GenState} {t':Nat} {d':Drawn} {ch:List Addr} (I:Inv X pins σ H s)
  (hch:∀b∈ch,(b∈X.ex\/X.s₀.heap.objs.size<=b)/\b≠X.env.locals/\(∀x c,X.env.cells.lookup x=some c->c≠b)/\∀p∈X.pn++pins,p.1≠b)
  (keep:∀b o,b≠X.env.locals->b∉X.fs->b∉ch->s.heap.get? b=some o->H b=none->h'.get? b=some o)
  (slot:∀b o,b≠X.env.locals->b∈X.fs->b∉ch->s.heap.get? b=some o->H b=none->∃sl,h'.get? b=some {o with slots:=sl}) (free:∀b o,b∉ch->s.heap.get? b=some o->H b=none->H' b=none)
  (there:∀b o,b∉ch->s.heap.get? b=some o->∃o',h'.get? b=some o')
  (tups:∀b xs,H b=some (.tup xs)->H' b=some (.tup xs)) (frzs:∀b o u,H b=some (.frz o u)->H' b=some (.frz o u)) (tbls:∀b ps,H b=some (.tbl ps)->∃more,H' b=some (.tbl (ps++more)))
  (ns:∀m,s.heap.Ns X.env.locals m->h'.Ns X.env.locals m) (hok:HOk X.prog X.w H' h') (hg:AllBare g'):
  Inv X pins σ H' {s with heap:=h',gens:=g',drawn:=d',toks:=t'}:=by
 have neL:∀b o,X.s₀.heap.get? b=some o->b≠X.env.locals:=fun b o e=>lJw (lJ6 (lJg e) I.ok.above)
 have neC:∀b o,X.s₀.heap.get? b=some o->b∉X.ex->b∉ch:=fun b o e hx hb=>by
  rcases (hch b hb).1 with z | z
  ·exact hx z
  ·exact absurd (lJ6 (lJg e) z) (lKt _)
 have cellK:∀x c,X.env.cells.lookup x=some c->∀v,s.heap.IsCell c v->h'.IsCell c v:=fun x c e v ⟨o,ho,hd⟩=>by
  have nch:c∉ch:=fun z=>(hch c z).2.2.1 x c e rfl
  by_cases hc:c∈X.fs
  ·obtain⟨sl,q⟩:=slot c o (I.cne x c e) hc nch ho (I.freeC x c e)
   exact⟨_,q,hd⟩
  ·exact⟨o,keep c o (I.cne x c e) hc nch ho (I.freeC x c e),hd⟩
 refine⟨I.ok,I.os,hg,⟨fun b o e n hb hx=> ?_,fun b o e n hb hx=> ?_,fun b o e n hx=> ?_,fun b o e hx=> ?_,fun b xs e=>tups b xs (I.base.tups b xs e),fun b o xs e=>frzs b o xs (I.base.frzs b o xs e),fun b ps e=> ?_⟩,?_,fun x c e=> ?_,?_,fun x c e=> ?_,fun p hp=> ?_,hok,I.len⟩
 ·exact keep b o (neL b o e) hb (neC b o e hx) (I.base.keep b o e n hb hx) (I.base.free b o e n hx)
 ·obtain⟨sl,e1⟩:=I.base.slot b o e n hb hx
  obtain⟨sl',e2⟩:=slot b _ (neL b o e) hb (neC b o e hx) e1 (I.base.free b o e n hx)
  exact⟨sl',e2⟩
 ·obtain⟨o',e1⟩:=I.base.there b o e hx
  exact free b o' (neC b o e hx) e1 (I.base.free b o e n hx)
 ·obtain⟨o',e1⟩:=I.base.there b o e hx
  exact there b o' (neC b o e hx) e1
 ·obtain⟨m1,e1⟩:=I.base.tbls b ps e
  obtain⟨m2,e2⟩:=tbls b _ e1
  exact⟨m1++m2,by rw[e2,Array.append_assoc]⟩
 ·obtain⟨m,hn,hl⟩:=I.loc
  refine⟨m,ns m hn,fun i x v e1 e2 e3=> ?_⟩
  obtain⟨u,r,l⟩:=hl i x v e1 e2 e3
  refine⟨u,r,?_⟩
  rcases l with l | ⟨k,c,e,z⟩
  ·exact .inl l
  ·exact .inr ⟨k,c,e,cellK x c e _ z⟩
 ·obtain⟨v,z⟩:=I.cell x c e
  exact⟨v,cellK x c e v z⟩
 ·obtain⟨m,⟨o,_,_,ho,_⟩,_⟩:=I.loc
  exact free _ o (fun z=>(hch _ z).2.1 rfl) ho I.free
 ·obtain⟨v,o,ho,hd⟩:=I.cell x c e
  exact free c o (fun z=>(hch c z).2.2.1 x c e rfl) ho (I.freeC x c e)
 ·obtain⟨e,n,ne,nf,d⟩:=I.pin p hp
  have nch:p.1∉ch:=fun z=>(hch p.1 z).2.2.2 p hp rfl
  exact⟨keep p.1 p.2 ne nf nch e n,free p.1 p.2 nch e n,ne,nf,d⟩
theorem Inv.un {t':Nat} (I:Inv X pins σ H s) (u:Un X.fs [] H H' s.heap h') (hok:HOk X.prog X.w H' h'):Inv X pins σ H' {s with heap:=h',toks:=t'}:=by
 obtain⟨m,⟨o,es,ep,ho,r⟩,_⟩:=id I.loc
 obtain⟨sl,hL⟩:=u.any ho I.free (by simp)
 exact I.step (g':=s.gens) (d':=s.drawn) (ch:=[]) (fun _ z=>nomatch z) (fun b o _ hb _ e n=>u.keep b o e n hb (by simp)) (fun b o _ hb _ e n=>u.slot b o e n hb (by simp)) (fun b o _ e n=>u.free b o e n (by simp)) (fun b o _ e=>u.there b o e (by simp)) u.tups u.frzs u.tbls (fun m' hm=>by
  obtain⟨o',es',ep',ho',r'⟩:=hm
  rw[ho] at ho';cases ho'
  exact⟨_,es',ep',hL,r'⟩) hok I.bare
theorem Inv.call {g':Array GenState} {t':Nat} {d':Drawn} {ch:List Addr} (I:Inv X pins σ H s) (u:Un (frs X.stack) ch H H' s.heap h') (hok:HOk X.prog X.w H' h') (hg:AllBare g')
  (hch:∀b∈ch,(b∈X.ex\/X.s₀.heap.objs.size<=b)/\b≠X.env.locals/\(∀x c,X.env.cells.lookup x=some c->c≠b)/\∀p∈X.pn++pins,p.1≠b):
  Inv X pins σ H' {s with heap:=h',gens:=g',drawn:=d',toks:=t'}:=by
 obtain⟨m,⟨o,es,ep,ho,r⟩,_⟩:=id I.loc
 obtain⟨sl,hL⟩:=u.any ho I.free fun z=>(hch _ z).2.1 rfl
 exact I.step (ch:=ch) hch (fun b o hL hb hc e n=>u.keep b o e n (fun z=>(lJj.mp (I.stkSub b z)).elim hL hb) hc) (fun b o _ _ hc e n=>u.any e n hc) (fun b o hc e n=>u.free b o e n hc) (fun b o hc e=>u.there b o e hc) u.tups u.frzs u.tbls (fun m' hm=>by
  obtain⟨o',es',ep',ho',r'⟩:=hm
  rw[ho] at ho';cases ho'
  exact⟨_,es',ep',hL,r'⟩) hok hg
theorem Inv.turned {t':Nat} {it:Addr} (I:Inv X pins σ H s) (k:∀b o,b≠it->s.heap.get? b=some o->h'.get? b=some o) (hn:H it=none) (hL:it≠X.env.locals)
  (h1:it∈X.ex\/X.s₀.heap.objs.size<=it) (h2:∀x c,X.env.cells.lookup x=some c->c≠it) (h3:∀p∈X.pn++pins,p.1≠it):Inv X pins σ H {s with heap:=h',toks:=t'}:=by
 have nit:∀b u,H b=some u->b≠it:=fun b u e z=>by rw[z,hn] at e;cases e
 refine I.step (g':=s.gens) (d':=s.drawn) (ch:=[it]) (fun b hb=> ?_) (fun b o _ _ hc e _=>k b o (fun z=>hc (by simp[z])) e) (fun b o _ _ hc e _=>⟨o.slots,k b o (fun z=>hc (by simp[z])) e⟩) (fun _ _ _ _ n=>n)
  (fun b o hc e=>⟨o,k b o (fun z=>hc (by simp[z])) e⟩) (fun _ _ e=>e) (fun _ _ _ e=>e) (fun b ps e=>⟨#[],by rw[e];simp⟩) (fun m hm=> ?_) (fun b u e=> ?_) I.bare
 ·have e:b=it:=by simpa using hb
  subst e
  exact⟨h1,hL,h2,h3⟩
 ·obtain⟨o,es,ep,ho,r⟩:=hm
  exact⟨o,es,ep,k _ o (Ne.symm hL) ho,r⟩
 ·refine (I.hok b u e).stay (fun c v hc q=>k c v ?_ q) (fun _ q=>q) fun _ _ q=>q
  rcases hc with z | z
  ·rw[z];exact nit b u e
  ·exact nit c _ z
theorem Inv.tok (I:Inv X pins σ H s) (t:Nat):Inv X pins σ H {s with toks:=t}:=I.un (h':=s.heap) (t':=t) Un.refl I.hok
theorem Inv.kept {t':Nat} (I:Inv X pins σ H s) (k:∀b u,s.heap.get? b=some u->h'.get? b=some u):Inv X pins σ H {s with heap:=h',toks:=t'}:=I.un (Un.kept k) (I.hok.kept k)
theorem Inv.laid {a:Addr} {o:HO} {t':Nat} (I:Inv X pins σ H s) (k:∀b u,s.heap.get? b=some u->h'.get? b=some u) (hp:s.heap.objs.size<=a) (new:ObjOk X.prog X.w (upd H a o) h' a o):
  Inv X pins σ (upd H a o) {s with heap:=h',toks:=t'}:=I.un (Un.laid k hp (I.hok.fresh hp)) (I.hok.laid k hp new)
theorem Inv.write {x e:Addr} {o:HO} {t':Nat} (I:Inv X pins σ H s) (mu:Mut (H x)) (he:e=x\/H e=some (.own x)) (k:∀b u,b≠e->s.heap.get? b=some u->h'.get? b=some u) (heo:∃u,h'.get? e=some u)
  (new:ObjOk X.prog X.w (upd H x o) h' x o):Inv X pins σ (upd H x o) {s with heap:=h',toks:=t'}:=I.un (Un.write mu he k heo) (I.hok.write mu he k heo new)
theorem Inv.weak {σ':List (Option V)} (I:Inv X pins σ H s) (hl:σ'.length=σ.length) (w:∀(i:Nat) v,σ'[i]? =some (some v)->σ[i]? =some (some v)):Inv X pins σ' H s:=
 ⟨I.ok,I.os,I.bare,I.base,let ⟨m,hn,hl'⟩:=I.loc;⟨m,hn,fun i x v e1 e2 e3=>hl' i x v e1 (w i v e2) e3⟩,I.cell,I.free,I.freeC,I.pin,I.hok,hl.trans I.len⟩
theorem Inv.pins_of {pins':List (Addr×Obj)} (I:Inv X pins σ H s) (h:∀p∈pins',s.heap.get? p.1=some p.2/\H p.1=none/\p.1≠X.env.locals/\p.1∉X.fs/\∀v,p.2.data≠ .cell v):Inv X pins' σ H s:=
 ⟨I.ok,I.os,I.bare,I.base,I.loc,I.cell,I.free,I.freeC,fun p hp=>(lJ1.mp hp).elim (fun z=>I.pin p (lK2 _ z)) (h p),I.hok,I.len⟩
theorem kJv {N:List Str} (hN:N.Nodup) {i j:Nat} {x:Str} (a:N[i]? =some x) (b:N[j]? =some x):i=j:=by
 obtain⟨h1,e1⟩:=lJh.mp a
 obtain⟨h2,e2⟩:=lJh.mp b
 exact (List.getElem_inj hN).mp (e1.trans e2.symm)
theorem kX2 {M:Model} {A:Around} {E:Value->Shared->Prop} {i:Nat} {x:Str} {v:V} {u:Value} {Q:Unit->Shared->Prop} (I:Inv X pins σ H s) (hN:X.N.Nodup) (hi:X.N[i]? =some x) (hx:Loc X.env.scope x) (r:RelV v u)
  (h:∀s',Inv X pins (σ.set i (some v)) H s'->(∃a,Heap.SameBut a s.heap s'.heap/\(a=X.env.locals\/X.env.cells.lookup x=some a))->Q () s') (hf:X.fn x=true\/X.env.scope.names.lookup x=some .local:=by first | exact .inl rfl | exact .inr rfl | assumption):wpAny M A (storeName X.env x u) Q E s:=by
 obtain⟨m,hn,hl⟩:=id I.loc
 have hcls:(X.env.scope.kind == .class||(X.env.scope.kind == .module&&X.env.locals != X.env.globals))=false:=by rw[I.ok.kind];rfl
 have hiσ:i<σ.length:=by rw[I.len];exact (lJh.mp hi).1
 have cne:=I.cne
 have tracked:∀ {a:Addr} {h':Heap},(∃o,s.heap.get? a=some o/\H a=none)->Heap.SameBut a s.heap h'->HOk X.prog X.w H h':=fun {a h'} ha hs b ob e=>by
  obtain⟨_,_,hfree⟩:=ha
  refine (I.hok b ob e).stay (fun c w' hc q=>(hs.2 c ?_).trans q) (fun _ q=>q) fun _ _ q=>q
  rintro rfl
  rcases hc with rfl | hc
  ·rw[hfree] at e;cases e
  ·rw[hfree] at hc;cases hc
 rcases hx with hk | hk
 ·refine wpAny_storeName_local hk hn (fun h' hn' hs=> ?_) hcls
  obtain⟨oL,_,_,hoL,_⟩:=id hn
  refine h _ ⟨I.ok,I.os,I.bare,⟨fun b o e n hb hx=> ?_,fun b o e n hb hx=> ?_,I.base.free,fun b o e hx=> ?_,I.base.tups,I.base.frzs,I.base.tbls⟩,⟨_,hn',fun j y v' e1 e2 e3=> ?_⟩,fun y c e=> ?_,I.free,I.freeC,fun p hp=> ?_,tracked ⟨oL,hoL,I.free⟩ hs,by simpa using I.len⟩ ⟨_,hs,.inl rfl⟩
  ·exact (hs.2 b (lJw (lJ6 (lJg e) I.ok.above))).trans (I.base.keep b o e n hb hx)
  ·obtain⟨sl,e1⟩:=I.base.slot b o e n hb hx
   exact⟨sl,(hs.2 b (lJw (lJ6 (lJg e) I.ok.above))).trans e1⟩
  ·obtain⟨o',e1⟩:=I.base.there b o e hx
   exact⟨o',(hs.2 b (lJw (lJ6 (lJg e) I.ok.above))).trans e1⟩
  ·by_cases hj:j=i
   ·subst hj
    rw[hi] at e1;cases e1
    rw[lK7 hiσ] at e2
    cases e2
    exact⟨u,r,.inl ⟨hk,by simp⟩⟩
   ·rw[lK9 (Ne.symm hj)] at e2
    obtain⟨u',r',q⟩:=hl j y v' e1 e2 e3
    refine⟨u',r',?_⟩
    rcases q with ⟨k,e⟩ | ⟨k,c,e,z⟩
    ·refine .inl ⟨k,?_⟩
     have:y≠x:=fun e=>hj (kJv hN e1 (e▸hi))
     simp[this,e]
    ·exact .inr ⟨k,c,e,z.sameBut hs (cne y c e)⟩
  ·obtain⟨w',z⟩:=I.cell y c e
   exact⟨w',z.sameBut hs (cne y c e)⟩
  ·obtain⟨e,n,ne,nf,d⟩:=I.pin p hp
   exact⟨(hs.2 p.1 ne).trans e,n,ne,nf,d⟩
 ·have hfn:X.fn x=true:=by
   rcases hf with z | z
   ·exact z
   ·rw[z] at hk;cases hk
  obtain⟨c,hc⟩:=I.ok.has x (.inl hk)
  obtain⟨w',z⟩:=I.cell x c hc
  refine wpAny_storeName_cell I.ok.kind hk hc z (fun h' hc' hs=> ?_)
  obtain⟨oc,hoc,hocd⟩:=id z
  refine h {s with heap:=h'} ⟨I.ok,I.os,I.bare,⟨fun b o e n hb hx=> ?_,fun b o e n hb hx=> ?_,I.base.free,fun b o e hx=> ?_,I.base.tups,I.base.frzs,I.base.tbls⟩,⟨m,hn.sameBut hs (Ne.symm (cne x c hc)),fun j y v' e1 e2 e3=> ?_⟩,fun y c' e=> ?_,I.free,I.freeC,fun p hp=> ?_,tracked ⟨oc,hoc,I.freeC x c hc⟩ hs,by simpa using I.len⟩ ⟨c,hs,.inr hc⟩
  ·exact (hs.2 b (lJw (lJ6 (lJg e) (I.ok.cab x c hfn hc)))).trans (I.base.keep b o e n hb hx)
  ·obtain⟨sl,e1⟩:=I.base.slot b o e n hb hx
   exact⟨sl,(hs.2 b (lJw (lJ6 (lJg e) (I.ok.cab x c hfn hc)))).trans e1⟩
  ·obtain⟨o',e1⟩:=I.base.there b o e hx
   exact⟨o',(hs.2 b (lJw (lJ6 (lJg e) (I.ok.cab x c hfn hc)))).trans e1⟩
  ·by_cases hj:j=i
   ·subst hj
    rw[hi] at e1;cases e1
    rw[lK7 hiσ] at e2
    cases e2
    exact⟨u,r,.inr ⟨.inl hk,c,hc,hc'⟩⟩
   ·rw[lK9 (Ne.symm hj)] at e2
    obtain⟨u',r',q⟩:=hl j y v' e1 e2 e3
    refine⟨u',r',?_⟩
    rcases q with q | ⟨k,c',e,z'⟩
    ·exact .inl q
    ·refine .inr ⟨k,c',e,z'.sameBut hs ?_⟩
     rintro rfl
     exact hj (kJv hN e1 (I.ok.inj _ _ _ e hc▸hi))
  ·by_cases hcc:c'=c
   ·subst hcc;exact⟨_,hc'⟩
   ·obtain⟨w2,z2⟩:=I.cell y c' e
    exact⟨w2,z2.sameBut hs hcc⟩
  ·obtain⟨e,n,ne,nf,d⟩:=I.pin p hp
   refine⟨(hs.2 p.1 ?_).trans e,n,ne,nf,d⟩
   intro q
   rw[q,hoc] at e
   have q':oc=p.2:=lKb e
   exact d w' (by rw[<-q'];exact hocd)
theorem jU4 {M:Model} {A:Around} {E:Value->Shared->Prop} {i:Nat} {x:Str} {v:V} {u:Value} {Q:Unit->Shared->Prop} (I:Inv X pins σ H s) (hN:X.N.Nodup) (hi:X.N[i]? =some x) (hx:Loc X.env.scope x) (r:RelV v u)
  (h:∀s',Inv X pins (σ.set i (some v)) H s'->Q () s') (hf:X.fn x=true\/X.env.scope.names.lookup x=some .local:=by first | exact .inl rfl | exact .inr rfl | assumption):wpAny M A (storeName X.env x u) Q E s:=
 kX2 I hN hi hx r (fun s' I' _=>h s' I') hf
theorem Inv.call' {s':Shared} {ch:List Addr} (I:Inv X pins σ H s) (ho:s'.os=s.os) (u:Un (frs X.stack) ch H H' s.heap s'.heap) (hok:HOk X.prog X.w H' s'.heap) (hg:AllBare s'.gens)
  (hch:∀b∈ch,(b∈X.ex\/X.s₀.heap.objs.size<=b)/\b≠X.env.locals/\(∀x c,X.env.cells.lookup x=some c->c≠b)/\∀p∈X.pn++pins,p.1≠b):Inv X pins σ H' s':=by
 obtain⟨h',g',d',t',o'⟩:=s'
 have e:o'=s.os:=ho
 subst e
 exact I.call (g':=g') (t':=t') (d':=d') u hok hg hch
end
abbrev XK:=Value->Option Addr->Hp->Prop
abbrev St:=List (Option V)
abbrev VK:=V->Hp->Prop
abbrev TE:=St->Hp->VK->Prop
abbrev TT:=St->Hp->(Bool->Hp->Prop)->Prop
abbrev TA:=St->Hp->(List V->Hp->Prop)->Prop
structure Ends where
 nx:St->Hp->Prop
 rt:VK
 bk:St->Hp->Prop:=fun _ _=>False
 ct:St->Hp->Prop:=fun _ _=>False
abbrev TS:=Ends->St->Hp->Prop
def EP (X:Cx) (pins:List (Addr×Obj)) (σ:St) (Q:VK) (u:Value) (s':Shared):Prop:=∃v H',Inv X pins σ H' s'/\RelV v u/\Q v H'
def TP (X:Cx) (pins:List (Addr×Obj)) (σ:St) (Q:Bool->Hp->Prop) (b:Bool) (s':Shared):Prop:=∃H',Inv X pins σ H' s'/\Q b H'
def SP (X:Cx) (pins:List (Addr×Obj)) (D:Ends) (f:Flow) (s':Shared):Prop:=
 match f with
 | .next=>∃ σ' H',Inv X pins σ' H' s'/\D.nx σ' H'
 | .brk=>∃ σ' H',Inv X pins σ' H' s'/\D.bk σ' H'
 | .cont=>∃ σ' H',Inv X pins σ' H' s'/\D.ct σ' H'
 | .ret u=>∃v σ' H',Inv X pins σ' H' s'/\RelV v u/\D.rt v H'
def PE (X:Cx) (e:Expr) (t:TE):Prop:=
 ∀(pins:List (Addr×Obj)) (s:Shared) (σ:St) (H:Hp) (Q:VK),Inv X pins σ H s->t σ H Q->wpAny (model X.prog X.w) X.A (eval e X.env) (EP X pins σ Q) X.xe s
def PSs (X:Cx) (st:List Stmt) (t:TS):Prop:=
 ∀(pins:List (Addr×Obj)) (s:Shared) (σ:St) (H:Hp) (D:Ends),Inv X pins σ H s->t D σ H->wpAny (model X.prog X.w) X.A (execs st X.env) (SP X pins D) X.xe s
theorem thn {α:Type} {t:Sem α} {Q Q':α->Shared->Prop} {M:Model} {A:Around} {E:Value->Shared->Prop} {s:Shared} (h:wpAny M A t Q E s) (hQ:∀a s,Q a s->Q' a s):wpAny M A t Q' E s:=lKn h hQ fun _ _ x=>x
section
variable {X:Cx}
def tVar (i:Nat):TE:=fun σ H Q=>∃v,σ[i]? =some (some v)/\Q v H
def tC (v:V):TE:=fun _ H Q=>Q v H
theorem pe_var {i:Nat} {x:Str} {pos:Pos} (hN:X.N[i]? =some x) (hv:Vis X.env.scope x) (hd:(x == ("__debug__":Str))=false:=by decide) (hcd:(x == ("__classdict__":Str))=false:=by decide):PE X (.Name x pos) (tVar i):=by
 intro pins s σ H Q I h
 obtain⟨v,e,h⟩:=h
 obtain⟨m,hn,hl⟩:=I.loc
 obtain⟨u,r,l⟩:=hl i x v hN e hv
 have fin:EP X pins σ Q u s:=⟨v,H,I,r,h⟩
 rcases l with ⟨hk,hm⟩ | ⟨hk,c,hc,hcell⟩
 ·exact wpAny_Name (wpAny_loadName_local I.ok.kind hk hn hm fin) hd
 ·rcases hk with hk | hk
  ·exact wpAny_Name (wpAny_loadName_cell I.ok.kind hk hc hcell fin) hd
  ·exact wpAny_Name (wpAny_loadName_free I.ok.kind hk hc hcell fin hcd) hd
theorem pe_int {i j pos}:PE X (.Constant (.int i) j pos) (tC (.int i)):=fun _ _ _ H _ I h=>wpAny_Constant_int ⟨.int i,H,I.tok _,⟨_,rfl⟩,h⟩
theorem pe_bl {b j pos}:PE X (.Constant (.bool b) j pos) (tC (.bl b)):=fun _ _ _ H _ I h=>Constant_bool ⟨.bl b,H,I,rfl,h⟩
theorem pe_non {j pos}:PE X (.Constant .none j pos) (tC .non):=fun _ _ _ H _ I h=>Constant_none ⟨.non,H,I,rfl,h⟩
theorem pe_str {x j pos}:PE X (.Constant (.str x) j pos) (tC (.str x)):=fun _ _ _ H _ I h=>Calls.Constant_str ⟨.str x,H,I.tok _,⟨_,rfl⟩,h⟩
def Gl (X:Cx) (x:Str):Prop:=X.env.kindOf x=some .globalImplicit
theorem jXo {E:Value->Shared->Prop} {pins:List (Addr×Obj)} {s:Shared} {σ:St} {H:Hp} {x:Str} {u:Value} {pos:Pos} {Q:Value->Shared->Prop} (I:Inv X pins σ H s) (hg:Gl X x) (hm:X.mg x=some u) (h:Q u s)
  (hd:(x == ("__debug__":Str))=false:=by decide):wpAny (model X.prog X.w) X.A (eval (.Name x pos) X.env) Q E s:=
 Calls.Name_function_global I.ok.kind hg (Calls.loadGlobal_global (by rw[I.ok.glob];exact I.mod.glob.keeps I.bk) hm h) hd
theorem jUk {E:Value->Shared->Prop} {pins:List (Addr×Obj)} {s:Shared} {σ:St} {H:Hp} {x:Str} {u:Value} {pos:Pos} {Q:Value->Shared->Prop} (I:Inv X pins σ H s) (hg:Gl X x) (hm:X.mg x=none) (hv:bootBuiltins x=some u) (h:Q u s)
  (hn:x≠"__name__":=by decide) (hd:(x == ("__debug__":Str))=false:=by decide):wpAny (model X.prog X.w) X.A (eval (.Name x pos) X.env) Q E s:=by
 obtain⟨mb,h1,h2⟩:=I.mod.blt
 exact Calls.Name_function_global I.ok.kind hg (Calls.loadGlobal_builtin (by rw[I.ok.glob];exact I.mod.glob.keeps I.bk) hm (by rw[I.ok.blt];exact h1.keeps I.bk) ((h2 x hn).trans hv) h) hd
theorem qVa {x:Str} {v:V} {u:Value} {pos:Pos} (hg:Gl X x) (hm:X.mg x=some u) (r:RelV v u) (hd:(x == ("__debug__":Str))=false:=by decide):PE X (.Name x pos) (tC v):=
 fun _ _ _ H _ I h=>jXo I hg hm ⟨v,H,I,r,h⟩ hd
theorem qVb {x:Str} {v:V} {u:Value} {pos:Pos} (hg:Gl X x) (hm:X.mg x=none) (hv:bootBuiltins x=some u) (r:RelV v u) (hn:x≠"__name__":=by decide) (hd:(x == ("__debug__":Str))=false:=by decide):PE X (.Name x pos) (tC v):=
 fun _ _ _ H _ I h=>jUk I hg hm hv ⟨v,H,I,r,h⟩ hn hd
variable {a b:Expr} {ta tb:TE} {pos:Pos}
def tB (t:TE):TT:=fun σ H Q=>t σ H fun x H1=>∃c,x= .bl c/\Q c H1
variable {tA tB':TT} {rest:List Expr}
def tOrV (ta tb:TE):TE:=fun σ H Q=>ta σ H fun x H1=>∃c,x= .bl c/\if c=true then Q (.bl true) H1 else tb σ H1 Q
def tNotV (ta:TE):TE:=fun σ H Q=>ta σ H fun x H1=>∃c,x= .bl c/\Q (.bl (!c)) H1
end
def SqL (K:PySem.W.Frag) (H:Hp) (a:Addr) (xs:List V):Prop:=
 Rd H a (.lst xs)\/
  ∃(o:Obj) (its:Array Value) (n:Nat),K.lookup a=some o/\o.cls= .type "list"/\o.dict=none/\o.data= .seq its n/\its.size<=sizeLine/\Vals xs its.toList
def SqT (K:PySem.W.Frag) (H:Hp) (a:Addr) (xs:List V):Prop:=
 Rd H a (.tup xs)\/
  ∃(o:Obj) (its:Array Value) (n:Nat),K.lookup a=some o/\o.cls= .type "tuple"/\o.data= .seq its n/\its.size<=sizeLine/\Vals xs its.toList
noncomputable def absV:Value->Option V
 | .none=>some .non
 | .bool b=>some (.bl b)
 | .int i _=>some (.int i)
 | .str x _=>some (.str x)
 | .bytes b _=>some (.byt b)
 | .float b _=>some (.flt b)
 | .ref a=>some (.ref a)
 | .type n=>some (.ty n)
 | _=>none
theorem RelV.abs {x:V} {u:Value} (r:RelV x u):absV u=some x:=by
 cases x with
 | non=>cases r;rfl
 | bl _=>cases r;rfl
 | int _=>obtain⟨t,rfl⟩:=r;rfl
 | str _=>obtain⟨t,rfl⟩:=r;rfl
 | byt _=>obtain⟨t,rfl⟩:=r;rfl
 | flt _=>obtain⟨t,rfl⟩:=r;rfl
 | ref _=>cases r;rfl
 | ty _=>cases r;rfl
theorem RelV.inj {x y:V} {u:Value} (r:RelV x u) (q:RelV y u):x=y:=lKb (r.abs.symm.trans q.abs)
theorem Vals.inj {xs ys:List V} {us:List Value} (h:Vals xs us) (g:Vals ys us):xs=ys:=by
 induction h generalizing ys with
 | nil=>(cases g;rfl)
 | cons r _ ih=>(cases g with | cons r' t'=>rw[r.inj r',ih t'])
section
variable {X:Cx} {pins:List (Addr×Obj)} {σ:St} {H:Hp} {s:Shared} {a:Addr} {xs ys:List V}
theorem SqL.of {K:PySem.W.Frag} (h:H a=some (.lst xs)):SqL K H a xs:= .inl (.inl h)
theorem SqT.of {K:PySem.W.Frag} (h:H a=some (.tup xs)):SqT K H a xs:= .inl (.inl h)
theorem Inv.list (I:Inv X pins σ H s) (h:SqL X.K H a xs):∃its:List Value,Vals xs its/\PlainL s.heap a its.toArray/\xs.length<=sizeLine:=by
 rcases h with h | ⟨o,its,n,hk,hc,hd,hs,hz,r⟩
 ·obtain⟨z,its,n,r,e⟩:=h.ok I.hok
  exact⟨its,r,⟨_,n,e,rfl,rfl,rfl⟩,z⟩
 ·refine⟨its.toList,r,⟨o,n,I.kIn a o hk,hc,hd,by simpa using hs⟩,?_⟩
  have e:=r.length
  simp only[lQs] at e
  omega
theorem Inv.tuple (I:Inv X pins σ H s) (h:SqT X.K H a xs):∃its:List Value,Vals xs its/\IsTup s.heap a its.toArray/\xs.length<=sizeLine:=by
 rcases h with h | ⟨o,its,n,hk,hc,hs,hz,r⟩
 ·obtain⟨z,its,r,p⟩:=h.ok I.hok
  exact⟨its,r,p.is,z⟩
 ·refine⟨its.toList,r,⟨o,I.kIn a o hk,hc,n,by simpa using hs⟩,?_⟩
  have e:=r.length
  simp only[lQs] at e
  omega
theorem Inv.list_inj (I:Inv X pins σ H s) (h:SqL X.K H a xs) (h':SqL X.K H a ys):xs=ys:=by
 obtain⟨its,r,⟨o,n,e,_,_,d⟩,_⟩:=I.list h
 obtain⟨its',r',⟨o',n',e',_,_,d'⟩,_⟩:=I.list h'
 rw[e] at e';cases e'
 rw[d] at d'
 injection d' with d1 _
 have:its=its':=by simpa using lKl Array.toList d1
 subst this
 exact r.inj r'
theorem Inv.tuple_inj (I:Inv X pins σ H s) (h:SqT X.K H a xs) (h':SqT X.K H a ys):xs=ys:=by
 obtain⟨its,r,⟨o,e,_,n,d⟩,_⟩:=I.tuple h
 obtain⟨its',r',⟨o',e',_,n',d'⟩,_⟩:=I.tuple h'
 rw[e] at e';cases e'
 rw[d] at d'
 injection d' with d1 _
 have:its=its':=by simpa using lKl Array.toList d1
 subst this
 exact r.inj r'
end
abbrev Cx.wish (X:Cx) (E:Value->Shared->Prop):Cx:={X with xe:=E}
abbrev Cx.nox (X:Cx):Cx:=X.wish fun _ _=>False
theorem Cx.Ok.wish {X:Cx} (ok:X.Ok) (E:Value->Shared->Prop):(X.wish E).Ok:=
 ⟨ok.mod,ok.kind,ok.glob,ok.blt,ok.above,ok.inj,ok.has,ok.cab,ok.hd,ok.gd,ok.frames,ok.stk,ok.exf,ok.bs,ok.bsz,ok.noex,ok.exfs,ok.funs,ok.frf⟩
theorem Cx.Ok.unwish {X:Cx} {E:Value->Shared->Prop} (ok:(X.wish E).Ok):X.Ok:=
 ⟨ok.mod,ok.kind,ok.glob,ok.blt,ok.above,ok.inj,ok.has,ok.cab,ok.hd,ok.gd,ok.frames,ok.stk,ok.exf,ok.bs,ok.bsz,ok.noex,ok.exfs,ok.funs,ok.frf⟩
section
variable {X:Cx} {pins:List (Addr×Obj)} {σ:St} {H:Hp} {s:Shared} {E:Value->Shared->Prop}
theorem Inv.wish (I:Inv X pins σ H s) (E:Value->Shared->Prop):Inv (X.wish E) pins σ H s:=⟨I.ok.wish E,I.os,I.bare,I.base,I.loc,I.cell,I.free,I.freeC,I.pin,I.hok,I.len⟩
theorem Inv.unwish (I:Inv (X.wish E) pins σ H s):Inv X pins σ H s:=⟨I.ok.unwish,I.os,I.bare,I.base,I.loc,I.cell,I.free,I.freeC,I.pin,I.hok,I.len⟩
theorem SP.unwish {D:Ends} {f:Flow} {s':Shared} (h:SP (X.wish E) pins D f s'):SP X pins D f s':=by
 cases f with
 | next=>obtain⟨σ',H',I,q⟩:=h;exact⟨σ',H',I.unwish,q⟩
 | brk=>obtain⟨σ',H',I,q⟩:=h;exact⟨σ',H',I.unwish,q⟩
 | cont=>obtain⟨σ',H',I,q⟩:=h;exact⟨σ',H',I.unwish,q⟩
 | ret u=>obtain⟨v,σ',H',I,r,q⟩:=h;exact⟨v,σ',H',I.unwish,r,q⟩
theorem PSs.nox {st:List Stmt} {t:TS} (h:PSs X.nox st t):PSs X st t:=fun pins s σ H D I hw=>
 lKn (h pins s σ H D (I.wish _) hw) (fun _ _ q=>q.unwish) fun _ _ z=>False.elim z
end
section
variable {X:Cx} {st:Stmt} {rest:List Stmt} {t u:TS} {e:Expr} {te:TE} {pos:Pos}
theorem Inv.quiet {pins:List (Addr×Obj)} {σ:St} {H:Hp} {s:Shared} (I:Inv X pins σ H s):interactive X.env=false:=by simp[interactive,I.ok.kind]
def tRetN:TS:=fun D _ H=>D.rt .non H
end
abbrev TSet:=V->V->V->Hp->(Hp->Prop)->Prop
def PSet (X:Cx) (t:TSet):Prop:=
 ∀(pins:List (Addr×Obj)) (s:Shared) (σ:St) (H:Hp) (o i v:V) (ov iv u:Value) (Q:Hp->Prop),Inv X pins σ H s->RelV o ov->RelV i iv->RelV v u->t o i v H Q->
  wpAny (model X.prog X.w) X.A (setItem ov iv u) (fun _ s'=>∃H',Inv X pins σ H' s'/\Q H') X.xe s
section
variable {X:Cx} {pos:Pos}
def tPar (i j:Nat) (ta:TA):TS:=fun D σ H=>ta σ H fun vs H1=>∃v w,vs=[v,w]/\D.nx ((σ.set i (some v)).set j (some w)) H1
end
section
variable {X:Cx} {pos:Pos}
end
structure It where
 go:Nat->Hp->Prop
 yld:Nat->Hp->V->Hp->Prop
 stop:Nat->Hp->Prop
def FpOk (X:Cx) (pins:List (Addr×Obj)) (H:Hp) (b:Addr):Prop:=
 H b=none/\b≠X.env.locals/\b∉X.fs/\(b∈X.ex\/X.s₀.heap.objs.size<=b)/\(∀x c,X.env.cells.lookup x=some c->c≠b)/\∀p∈X.pn++pins,p.1≠b
theorem Inv.fpOk {X:Cx} {pins:List (Addr×Obj)} {σ:St} {H H':Hp} {s:Shared} {b:Addr} (I:Inv X pins σ H s) (hb:s.heap.objs.size<=b) (hn:H' b=none):FpOk X pins H' b:=by
 refine⟨hn,lQa (lJ6 I.lt hb),I.nofs hb,.inr (lKi I.sz hb),fun x c e z=> ?_,fun p hp z=> ?_⟩
 ·obtain⟨v,q⟩:=I.cell x c e
  exact absurd (lJ6 q.lt (by rw[z];exact hb)) (lKt _)
 ·exact absurd (lJ6 (lJg (I.pin p hp).1) (by rw[z];exact hb)) (lKt _)
structure Turn (P:Program) (w:World) (K:PySem.W.Frag) (tg:Expr) (J:It) (fp:List Addr) (it:Addr) (tn:Nat->Heap->Prop):Prop where
 mem:it∈fp
 obj:∀i h,tn i h->∀b∈fp,∃o,h.get? b=some o/\∀v,o.data≠ .cell v
 keep:∀i h h',tn i h->(∀b∈fp,∀o,h.get? b=some o->h'.get? b=some o)->tn i h'
 item:∀(X:Cx),X.prog=P->X.w=w->X.K=K->X.calm=true->∀(i:Nat) (pins:List (Addr×Obj)) (s:Shared) (σ:St) (H:Hp) (E:Value->Shared->Prop),Inv X pins σ H s->(∀b∈fp,FpOk X pins H b)->tn i s.heap->J.go i H->
  wpAny (model P w) X.A (pyNext (.ref it)) (fun r s1=>∃u,r=some u/\
   wpAny (model P w) X.A (letOwnedTupleGo tg (.ref it) u) (fun _ s2=>∃x H',Inv X pins σ H' s2/\RelV x u/\J.yld i H x H'/\tn (i+1) s2.heap/\∀b∈fp,H' b=none) E s1) E s
 done:∀(X:Cx),X.prog=P->X.w=w->X.K=K->X.calm=true->∀(i:Nat) (pins:List (Addr×Obj)) (s:Shared) (σ:St) (H:Hp) (E:Value->Shared->Prop),Inv X pins σ H s->(∀b∈fp,FpOk X pins H b)->tn i s.heap->J.stop i H->
  wpAny (model P w) X.A (pyNext (.ref it)) (fun r s1=>r=none/\Inv X pins σ H s1) E s
 self:∀(A:Around) (i:Nat) (s:Shared) (Q:Value->Shared->Prop) (E:Value->Shared->Prop),tn i s.heap->Q (.ref it) s->wpAny (model P w) A (pyIter (.ref it)) Q E s
abbrev TI:=St->Hp->(It->Hp->Prop)->Prop
def PIE (X:Cx) (pins:List (Addr×Obj)) (σ:St) (tg:Expr) (R:It->Hp->Prop) (itv:Value) (s2:Shared):Prop:=
 ∃(it:Addr) (fp:List Addr) (tn:Nat->Heap->Prop) (J:It) (H':Hp),itv= .ref it/\Inv X pins σ H' s2/\Turn X.prog X.w X.K tg J fp it tn/\tn 0 s2.heap/\(∀b∈fp,FpOk X pins H' b)/\R J H'
theorem qQl {M:Model} {A:Around} {E:Value->Shared->Prop} {s:Shared} {tg:Expr} {it:Addr} {u:Value} {o:Obj} {n:String} {vs:Array Value} {Q:Unit->Shared->Prop} (ho:s.heap.get? it=some o) (hc:o.cls= .type n) (hd:o.data= .fields vs)
  (hn:["enumerate","zip","dict_itemiterator","dict_reverseitemiterator","odict_iterator","itertools.zip_longest","itertools.pairwise"].contains n=false) (hQ:Q () s):wpAny M A (letOwnedTupleGo tg (.ref it) u) Q E s:=by
 unfold letOwnedTupleGo
 cases tg<;>first
  | exact lJd hQ
  | (cases u<;>first
    | exact lJd hQ
    | (refine lJc (wpAny_load ho ?_)
       rw[hc,hd]
       show wpAny M A (if (["enumerate","zip","dict_itemiterator","dict_reverseitemiterator","odict_iterator","itertools.zip_longest","itertools.pairwise"].contains n&&vs[0]? == some (rawInt _))=true then _ else _) Q E s
       rw[lJb (by intro h;rw[hn,Bool.false_and] at h;cases h)]
       exact lJd hQ))
noncomputable def Itl (K:PySem.W.Frag) (a:Addr):It:=
 ⟨fun i H=>∃xs x,SqL K H a xs/\xs[i]? =some x,fun i H x H'=>H'=H/\∀xs,SqL K H a xs->xs[i]? =some x,fun i H=>∃xs,SqL K H a xs/\xs.length<=i⟩
noncomputable def Itt (K:PySem.W.Frag) (a:Addr):It:=
 ⟨fun i H=>∃xs x,SqT K H a xs/\xs[i]? =some x,fun i H x H'=>H'=H/\∀xs,SqT K H a xs->xs[i]? =some x,fun i H=>∃xs,SqT K H a xs/\xs.length<=i⟩
def Itr (lo:Int) (n:Nat):It:=⟨fun i _=>i<n,fun i H x H'=>H'=H/\x= .int (lo+i),fun i _=>n<=i⟩
theorem kXv {P:Program} {w:World} {K:PySem.W.Frag} {tg:Expr} (a it:Addr):Turn P w K tg (Itl K a) [it] it (fun i h=>h.IsListIter it a i) where
 mem:=by simp
 obj:=fun i h st b hb=>by
  have e:b=it:=by simpa using hb
  subst e
  obtain⟨o,e,c,d⟩:=st
  exact⟨o,e,fun v z=>by rw[d] at z;cases z⟩
 keep:=fun i h h' st k=>st.at fun o e=>k it (by simp) o e
 item:=by
  intro X hP hw hK hc i pins s σ H E I hf st hg
  subst hP hw hK
  obtain⟨xs,x,hq,hx⟩:=hg
  obtain⟨its,rv,p,hz⟩:=I.list hq
  obtain⟨u,hu,ru⟩:=rv.get hx
  obtain⟨f0,f1,f2,f3,f4,f5⟩:=hf it (by simp)
  refine wpAny_pyNext_list_item st p.isList (x:=u) (by simpa using hu) fun h' st' sb=> ?_
  have I1:Inv X pins σ H {s with heap:=h'}:=I.turned (t':=s.toks) (fun b o hb e=>(sb.2 b hb).trans e) f0 f1 f3 f4 f5
  obtain⟨o,e,c,d⟩:=id st'
  exact⟨u,rfl,qQl (s:={s with heap:=h'}) e c d (by decide) ⟨x,H,I1,ru,⟨rfl,fun ys hy=>by rw[I.list_inj hy hq];exact hx⟩,st',fun b hb=>(hf b hb).1⟩⟩
 done:=by
  intro X hP hw hK hc i pins s σ H E I hf st hg
  subst hP hw hK
  obtain⟨xs,hq,hx⟩:=hg
  obtain⟨its,rv,p,hz⟩:=I.list hq
  obtain⟨f0,f1,f2,f3,f4,f5⟩:=hf it (by simp)
  have hl:=rv.length
  exact wpAny_pyNext_list_end (I.ok.hd hc) st p.isList (by simp;omega) fun h' eb=>⟨rfl,I.turned (t':=s.toks) (fun b o hb e=>eb b o hb e) f0 f1 f3 f4 f5⟩
 self:=fun _ _ _ _ _ st h=>wpAny_pyIter_listiter st h
theorem kVs {P:Program} {w:World} {K:PySem.W.Frag} {tg:Expr} (a it:Addr):Turn P w K tg (Itt K a) [it] it (fun i h=>h.IsTupleIter it a i) where
 mem:=by simp
 obj:=fun i h st b hb=>by
  have e:b=it:=by simpa using hb
  subst e
  obtain⟨o,e,c,d⟩:=st
  exact⟨o,e,fun v z=>by rw[d] at z;cases z⟩
 keep:=fun i h h' st k=>st.at fun o e=>k it (by simp) o e
 item:=by
  intro X hP hw hK hc i pins s σ H E I hf st hg
  subst hP hw hK
  obtain⟨xs,x,hq,hx⟩:=hg
  obtain⟨its,rv,p,hz⟩:=I.tuple hq
  obtain⟨u,hu,ru⟩:=rv.get hx
  obtain⟨f0,f1,f2,f3,f4,f5⟩:=hf it (by simp)
  refine wpAny_pyNext_tuple_item st (show s.heap.IsTuple a its.toArray from p) (x:=u) (by simpa using hu) fun h' st' sb=> ?_
  have I1:Inv X pins σ H {s with heap:=h'}:=I.turned (t':=s.toks) (fun b o hb e=>(sb.2 b hb).trans e) f0 f1 f3 f4 f5
  obtain⟨o,e,c,d⟩:=id st'
  exact⟨u,rfl,qQl (s:={s with heap:=h'}) e c d (by decide) ⟨x,H,I1,ru,⟨rfl,fun ys hy=>by rw[I.tuple_inj hy hq];exact hx⟩,st',fun b hb=>(hf b hb).1⟩⟩
 done:=by
  intro X hP hw hK hc i pins s σ H E I hf st hg
  subst hP hw hK
  obtain⟨xs,hq,hx⟩:=hg
  obtain⟨its,rv,p,hz⟩:=I.tuple hq
  obtain⟨f0,f1,f2,f3,f4,f5⟩:=hf it (by simp)
  have hl:=rv.length
  exact wpAny_pyNext_tuple_end (I.ok.hd hc) st (show s.heap.IsTuple a its.toArray from p) (by simp;omega) fun h' eb=>⟨rfl,I.turned (t':=s.toks) (fun b o hb e=>eb b o hb e) f0 f1 f3 f4 f5⟩
 self:=fun _ _ _ _ _ st h=>wpAny_pyIter_tupleiter st h
theorem kVt {P:Program} {w:World} {K:PySem.W.Frag} {tg:Expr} (it:Addr) (lo:Int) (n:Nat):Turn P w K tg (Itr lo n) [it] it (fun i h=>IsRangeIter h it (lo+(i:Nat)*1) ((n:Int)-(i:Nat)) 1) where
 mem:=by simp
 obj:=fun i h st b hb=>by
  have e:b=it:=by simpa using hb
  subst e
  exact⟨_,st,fun v z=>by
   have z':Data.fields _=Data.cell v:=z
   cases z'⟩
 keep:=fun i h h' st k=>k it (by simp) _ st
 item:=by
  intro X hP hw hK hc i pins s σ H E I hf st hg
  subst hP hw hK
  obtain⟨f0,f1,f2,f3,f4,f5⟩:=hf it (by simp)
  have W:=Walks.range (prog:=X.prog) (w:=X.w) (I.ok.hd hc) it lo 1 n
  refine W.item i s _ _ hg st fun v h' tk hv st' kk=> ?_
  obtain⟨t,rfl⟩:=hv
  have I1:Inv X pins σ H {s with heap:=h',toks:=tk}:=I.turned (fun b o hb e=>kk b o (by simpa using hb) e) f0 f1 f3 f4 f5
  refine⟨_,rfl,qQl (s:={s with heap:=h',toks:=tk}) (n:="range_iterator") st' rfl rfl (by decide) ⟨.int (lo+i),H,I1,⟨t,?_⟩,⟨rfl,rfl⟩,st',fun b hb=>(hf b hb).1⟩⟩
  rw[Int.mul_one]
 done:=by
  intro X hP hw hK hc i pins s σ H E I hf st hg
  subst hP hw hK
  obtain⟨f0,f1,f2,f3,f4,f5⟩:=hf it (by simp)
  exact wpAny_pyNext_range_end (I.ok.hd hc) st (by have:n<=i:=hg;omega) fun h' eb=>⟨rfl,I.turned (t':=s.toks) (fun b o hb e=>eb b o hb e) f0 f1 f3 f4 f5⟩
 self:=fun _ _ _ _ _ st h=>wpAny_pyIter_rangeiter st h
section
variable {X:Cx} {tg:Expr}
theorem qKj {pins:List (Addr×Obj)} {σ:St} {H:Hp} {s:Shared} {R:It->Hp->Prop} {E:Value->Shared->Prop} {lo hi:Int} {t u v:Tok} {tk:Nat} (I:Inv X pins σ H s) (h1: -(2^62)<=lo) (h2:lo<2^62) (h3: -(2^62)<=hi) (h4:hi<2^62)
  (q:R (Itr lo (hi-lo).toNat) H):wpAny (model X.prog X.w) X.A (pyIter (.ref s.heap.objs.size)) (PIE X pins σ tg R) E {s with heap:=s.heap.push {cls:= .type "range",data:= .fields #[.int lo t,.int hi u,.int 1 v]},toks:=tk}:=by
 refine wpAny_pyIter_range (IsRange.new ..) (small_one h1 h2 h3 h4) ?_
 have I1:Inv X pins σ H {s with heap:=s.heap.push {cls:= .type "range",data:= .fields #[.int lo t,.int hi u,.int 1 v]},toks:=tk}:=I.kept fun b o e=>lJo _ e
 refine⟨(s.heap.push {cls:= .type "range",data:= .fields #[.int lo t,.int hi u,.int 1 v]}).objs.size,[(s.heap.push {cls:= .type "range",data:= .fields #[.int lo t,.int hi u,.int 1 v]}).objs.size],_,_,H,rfl,
  I1.kept (t':=tk) fun b o e=>lJo _ e,kVt _ lo (hi-lo).toNat,?_,fun b hb=> ?_,q⟩
 ·have e1:lo+((0:Nat):Int)*1=lo:=by simp
  have e2:(((hi-lo).toNat:Nat):Int)-((0:Nat):Int)=Builtin.Range.rangeSize lo hi 1:=by rw[rangeSize_one];split<;>omega
  show IsRangeIter _ _ (lo+((0:Nat):Int)*1) ((((hi-lo).toNat:Nat):Int)-((0:Nat):Int)) 1
  rw[e1,e2]
  exact lJ5 _ rfl
 ·have e:b=(s.heap.push {cls:= .type "range",data:= .fields #[.int lo t,.int hi u,.int 1 v]}).objs.size:=by simpa using hb
  subst e
  exact I1.fpOk (lJe _) (I1.hok.fresh (lJe _))
def jVe (fp:List Addr) (h:Heap):List (Addr×Obj):=fp.filterMap fun b=>(h.get? b).map fun o=>(b,o)
theorem jU8 {fp:List Addr} {h:Heap} {b:Addr} {o:Obj} (hb:b∈fp) (e:h.get? b=some o):(b,o)∈jVe fp h:=List.mem_filterMap.mpr ⟨b,hb,by rw[e];rfl⟩
theorem kYv {fp:List Addr} {h:Heap} {p:Addr×Obj} (hp:p∈jVe fp h):p.1∈fp/\h.get? p.1=some p.2:=by
 obtain⟨b,hb,e⟩:=List.mem_filterMap.mp hp
 cases q:h.get? b with
 | none=>rw[q] at e;cases e
 | some o=>
  rw[q] at e
  have e':(b,o)=p:=lKb e
  subst e'
  exact⟨hb,q⟩
theorem Inv.pinned {pins:List (Addr×Obj)} {σ:St} {H:Hp} {s:Shared} {fp:List Addr} (I:Inv X pins σ H s) (hf:∀b∈fp,FpOk X pins H b) (ho:∀b∈fp,∃o,s.heap.get? b=some o/\∀v,o.data≠ .cell v):Inv X (pins++jVe fp s.heap) σ H s:=
 I.pins_of fun p hp=>(lJ1.mp hp).elim (fun z=>I.pin p (lKv _ z)) fun z=>by
  obtain⟨hb,e⟩:=kYv z
  obtain⟨f0,f1,f2,_⟩:=hf p.1 hb
  obtain⟨o,e',d⟩:=ho p.1 hb
  rw[e] at e';cases e'
  exact⟨e,f0,f1,f2,d⟩
theorem Inv.unpinned {pins pl:List (Addr×Obj)} {σ:St} {H:Hp} {s:Shared} (I:Inv X (pins++pl) σ H s):Inv X pins σ H s:=I.pins_of fun p hp=>I.pin p (lKv _ (lK2 _ hp))
end
abbrev R2:=V->V->Hp->VK->Prop
def OpR (X:Cx) (f:Value->Value->Sem Value) (r:R2):Prop:=
 ∀(pins:List (Addr×Obj)) (s:Shared) (σ:St) (H:Hp) (x y:V) (v u:Value) (Q:VK),Inv X pins σ H s->RelV x v->RelV y u->r x y H Q->
  wpAny (model X.prog X.w) X.A (f v u) (EP X pins σ Q) X.xe s
def UnR (X:Cx) (f:Value->Sem Value) (r:V->Hp->VK->Prop):Prop:=
 ∀(pins:List (Addr×Obj)) (s:Shared) (σ:St) (H:Hp) (x:V) (v:Value) (Q:VK),Inv X pins σ H s->RelV x v->r x H Q->
  wpAny (model X.prog X.w) X.A (f v) (EP X pins σ Q) X.xe s
def jZo (X:Cx) (f:Value) (r:List V->Hp->VK->Prop):Prop:=
 ∀(pins:List (Addr×Obj)) (s:Shared) (σ:St) (H:Hp) (xs:List V) (us:List Value) (Q:VK),Inv X pins σ H s->Vals xs us->r xs H Q->
  wpAny (model X.prog X.w) X.A (call f us) (EP X pins σ Q) X.xe s
def TruR (X:Cx) (r:V->Hp->(Bool->Hp->Prop)->Prop):Prop:=
 ∀(pins:List (Addr×Obj)) (s:Shared) (σ:St) (H:Hp) (x:V) (v:Value) (Q:Bool->Hp->Prop),Inv X pins σ H s->RelV x v->r x H Q->
  wpAny (model X.prog X.w) X.A (truthy v) (TP X pins σ Q) X.xe s
def rI (C:Int->Int->Prop) (g:Int->Int->V):R2:=fun x y H Q=>∃i j,x= .int i/\y= .int j/\C i j/\Q (g i j) H
def rI0 (g:Int->Int->V):R2:=fun x y H Q=>∃i j,x= .int i/\y= .int j/\Q (g i j) H
def rU (g:Int->V):V->Hp->VK->Prop:=fun x H Q=>∃i,x= .int i/\Q (g i) H
section
variable {X:Cx} {a b c:Expr} {ta tb tc:TE} {pos:Pos}
theorem opI {f:Value->Value->Sem Value} {C:Int->Int->Prop} {g:Int->Int->Int}
  (rule:∀(i j:Int) (t u:Tok) (s:Shared) (Q:Value->Shared->Prop) (E:Value->Shared->Prop),C i j->Q (.int (g i j) s.toks) {s with toks:=s.toks+1}->wpAny (model X.prog X.w) X.A (f (.int i t) (.int j u)) Q E s):
  OpR X f (rI C fun i j=> .int (g i j)):=by
 intro pins s σ H x y v u Q I rx ry h
 obtain⟨i,j,rfl,rfl,hc,q⟩:=h
 obtain⟨t,rfl⟩:=rx
 obtain⟨t',rfl⟩:=ry
 exact rule i j t t' s _ _ hc ⟨.int (g i j),H,I.tok _,⟨_,rfl⟩,q⟩
theorem opI0 {f:Value->Value->Sem Value} {g:Int->Int->Int}
  (rule:∀(i j:Int) (t u:Tok) (s:Shared) (Q:Value->Shared->Prop) (E:Value->Shared->Prop),Q (.int (g i j) s.toks) {s with toks:=s.toks+1}->wpAny (model X.prog X.w) X.A (f (.int i t) (.int j u)) Q E s):
  OpR X f (rI0 fun i j=> .int (g i j)):=by
 intro pins s σ H x y v u Q I rx ry h
 obtain⟨i,j,rfl,rfl,q⟩:=h
 obtain⟨t,rfl⟩:=rx
 obtain⟨t',rfl⟩:=ry
 exact rule i j t t' s _ _ ⟨.int (g i j),H,I.tok _,⟨_,rfl⟩,q⟩
theorem opB0 {f:Value->Value->Sem Value} {g:Int->Int->Bool}
  (rule:∀(i j:Int) (t u:Tok) (s:Shared) (Q:Value->Shared->Prop) (E:Value->Shared->Prop),Q (.bool (g i j)) s->wpAny (model X.prog X.w) X.A (f (.int i t) (.int j u)) Q E s):
  OpR X f (rI0 fun i j=> .bl (g i j)):=by
 intro pins s σ H x y v u Q I rx ry h
 obtain⟨i,j,rfl,rfl,q⟩:=h
 obtain⟨t,rfl⟩:=rx
 obtain⟨t',rfl⟩:=ry
 exact rule i j t t' s _ _ ⟨.bl (g i j),H,I,rfl,q⟩
def CDiv (i j:Int):Prop:=0<j/\j<1073741824
def CPow (i j:Int):Prop:=0<=j/\j<=1000000/\i.natAbs<2^64
def CMul (i j:Int):Prop:=(-(2^64)<i/\i<2^64)\/(-(2^64)<j/\j<2^64)
theorem CMul.ok {i j:Int} (h:CMul i j):IntMulOk i j:=by
 rcases h with ⟨h1,h2⟩ | ⟨h1,h2⟩
 ·exact .of_left (intBits_le_64 h1 h2)
 ·exact .of_right (intBits_le_64 h1 h2)
theorem op_add:OpR X (binaryOp .Add) (rI0 fun i j=> .int (i+j)):=opI0 fun _ _ _ _ _ _ _ q=>add_int q
theorem op_sub:OpR X (binaryOp .Sub) (rI0 fun i j=> .int (i-j)):=opI0 fun _ _ _ _ _ _ _ q=>sub_int q
theorem op_mul:OpR X (binaryOp .Mult) (rI CMul fun i j=> .int (i*j)):=opI fun _ _ _ _ _ _ _ hc q=>mul_int q hc.ok
theorem qVe:OpR X (binaryOp .FloorDiv) (rI CDiv fun i j=> .int (i / j)):=opI fun i j _ _ _ _ _ hc q=>by
 have h1:(0:Int)<j:=hc.1
 have h2:j<1073741824:=hc.2
 exact floordiv_int (by omega) (by rw[Int.fdiv_eq_ediv_of_nonneg i (by omega)];exact q) (.inl (PyProof.noPylong_small (by omega)))
theorem op_mod:OpR X (binaryOp .Mod) (rI (fun _ j=>0<j) fun i j=> .int (i%j)):=opI fun i j _ _ _ _ _ hc q=>by
 have h1:(0:Int)<j:=hc
 exact mod_int' (by omega) (by rw[Int.fmod_eq_emod_of_nonneg i (by omega)];exact q)
theorem op_pow:OpR X (binaryOp .Pow) (rI CPow fun i j=> .int (i^j.toNat)):=opI fun _ _ _ _ _ _ _ hc q=>pow_int_small hc.1 hc.2.1 hc.2.2 q
theorem unI {f:Value->Sem Value} {g:Int->Int}
  (rule:∀(i:Int) (t:Tok) (s:Shared) (Q:Value->Shared->Prop) (E:Value->Shared->Prop),Q (.int (g i) s.toks) {s with toks:=s.toks+1}->wpAny (model X.prog X.w) X.A (f (.int i t)) Q E s):
  UnR X f (rU fun i=> .int (g i)):=by
 intro pins s σ H x v Q I rx h
 obtain⟨i,rfl,q⟩:=h
 obtain⟨t,rfl⟩:=rx
 exact rule i t s _ _ ⟨.int (g i),H,I.tok _,⟨_,rfl⟩,q⟩
theorem un_neg:UnR X (unaryOp .USub) (rU fun i=> .int (-i)):=unI fun _ _ _ _ _ q=>neg_int q
end
section
variable {X:Cx} {a b c:Expr} {ta tb tc:TE} {pos:Pos}
theorem qUo {pins:List (Addr×Obj)} {σ:St} {H:Hp} {s:Shared} {Q:VK} {k k':Bool} (I:Inv X pins σ H s) (q:Q (.bl k) H) (e:k=k'):EP X pins σ Q (.bool k') s:=by
 subst e
 exact⟨.bl k,H,I,rfl,q⟩
theorem op_lt:OpR X (compareOp .Lt) (rI0 fun i j=> .bl (decide (i<j))):=opB0 fun _ _ _ _ _ _ _ q=>lt_int q
theorem op_le:OpR X (compareOp .LtE) (rI0 fun i j=> .bl (decide (i<=j))):=opB0 fun _ _ _ _ _ _ _ q=>le_int q
theorem op_gt:OpR X (compareOp .Gt) (rI0 fun i j=> .bl (decide (j<i))):=opB0 fun _ _ _ _ _ _ _ q=>gt_int q
theorem op_ge:OpR X (compareOp .GtE) (rI0 fun i j=> .bl (decide (j<=i))):=opB0 fun _ _ _ _ _ _ _ q=>ge_int q
theorem op_isN:OpR X (compareOp .Is) (fun x y H Q=>y= .non/\Q (.bl (decide (x= .non))) H):=by
 intro pins s σ H x y v u Q I rx ry h
 obtain⟨rfl,q⟩:=h
 cases ry
 refine is_none_gen (qUo I q ?_)
 cases x<;>first
  | (cases rx;rfl)
  | (obtain⟨t,rfl⟩:=rx;rfl)
theorem qVd:OpR X (compareOp .IsNot) (fun x y H Q=>y= .non/\Q (.bl (!decide (x= .non))) H):=by
 intro pins s σ H x y v u Q I rx ry h
 obtain⟨rfl,q⟩:=h
 cases ry
 refine isnot_none_gen (qUo I q ?_)
 cases x<;>first
  | (cases rx;rfl)
  | (obtain⟨t,rfl⟩:=rx;rfl)
theorem nomark (b:Expr) {op:CmpOp} (h:op≠ .In:=by decide) (h2:op≠ .NotIn:=by decide):behindInMarks op b=false:=by
 have e1:(op == CmpOp.In)=false:=by cases op<;>first | rfl | exact absurd rfl h
 have e2:(op == CmpOp.NotIn)=false:=by cases op<;>first | rfl | exact absurd rfl h2
 cases b<;>simp[behindInMarks,e1,e2]
def TruV (K:PySem.W.Frag) (x:V) (H:Hp) (k:Bool):Prop:=
 match x with
 | .non=>k=false
 | .bl b=>k=b
 | .int i=>k=(i != 0)
 | .str y=>y.length<=sizeLine/\k=((y.length:Int) != 0)
 | .byt y=>y.size<=sizeLine/\k=((y.size:Int) != 0)
 | .ref p=>(∃xs,SqL K H p xs/\k= !xs.isEmpty)\/(∃xs,SqT K H p xs/\k= !xs.isEmpty)\/∃kvs,H p=some (.dK kvs)/\k= !kvs.isEmpty
 | _=>False
theorem kXf {κ:Type} {kvs:List (κ×V)} {vs:List (κ×Value)} (r:KV kvs vs):(!vs.isEmpty)= !kvs.isEmpty:=by
 cases r<;>rfl
theorem jZv {xs:List V} {its:List Value} (r:Vals xs its):(!its.toArray.isEmpty)= !xs.isEmpty:=by
 cases r<;>simp
theorem jYz:(sizeLine:Nat)<2^63:=by rw[lKo];decide
theorem tru_ok:TruR X (fun x H Q=>∃k,TruV X.K x H k/\Q k H):=by
 intro pins s σ H x v Q I rx h
 obtain⟨k,e,q⟩:=h
 have hl:=jYz
 have hs:sizeLine=16777216:=lKo
 cases x with
 | non=>
  cases rx
  have e':k=false:=e
  subst e'
  exact truthy_none ⟨H,I,q⟩
 | bl b=>
  cases rx
  have e':k=b:=e
  subst e'
  exact lVa ⟨H,I,q⟩
 | int i=>
  obtain⟨t,rfl⟩:=rx
  have e':k=(i != 0):=e
  subst e'
  exact PySem.P.truthy_int ⟨H,I,q⟩
 | str y=>
  obtain⟨t,rfl⟩:=rx
  obtain⟨hy,e'⟩:y.length<=sizeLine/\k=((y.length:Int) != 0):=e
  subst e'
  exact PySem.P.truthy_str (by omega) ⟨H,I.tok _,q⟩
 | byt y=>
  obtain⟨t,rfl⟩:=rx
  obtain⟨hy,e'⟩:y.size<=sizeLine/\k=((y.size:Int) != 0):=e
  subst e'
  exact PySem.W.truthy_bytes (by omega) ⟨H,I.tok _,q⟩
 | ref p=>
  cases rx
  have e':(∃xs,SqL X.K H p xs/\k= !xs.isEmpty)\/(∃xs,SqT X.K H p xs/\k= !xs.isEmpty)\/∃kvs,H p=some (.dK kvs)/\k= !kvs.isEmpty:=e
  rcases e' with ⟨xs,hx,e'⟩ | ⟨xs,hx,e'⟩ | ⟨kvs,hx,e'⟩
  ·subst e'
   obtain⟨its,r,pl,hz⟩:=I.list hx
   have hlen:=r.length
   exact wpAny_truthy_list pl.isList (by simp only[lJk];omega) ⟨H,I.tok _,by rw[jZv r];exact q⟩
  ·subst e'
   obtain⟨its,r,pl,hz⟩:=I.tuple hx
   have hlen:=r.length
   exact truthy_tuple pl (by simp only[lJk];omega) ⟨H,I.tok _,by rw[jZv r];exact q⟩
  ·subst e'
   obtain⟨hz,hS,vs,r,m⟩:kvs.length<=sizeLine/\(p == sysModules)=false/\∃vs,KV kvs vs/\s.heap.DictOf (jKg X.prog X.w) p vs:=I.hok p _ hx
   have hlen:kvs.length=vs.length:=lQ4 r
   exact wpAny_truthy_dict hS m (by omega) ⟨H,I.tok _,by rw[kXf r];exact q⟩
 | _=>exact (show False from e).elim
theorem kKb {x:V} {us:List Value} (r:Vals [x] us):∃u,us=[u]/\RelV x u:=by
 cases r with
 | cons r1 r2=>cases r2;exact⟨_,rfl,r1⟩
theorem vals2 {x y:V} {us:List Value} (r:Vals [x,y] us):∃u w',us=[u,w']/\RelV x u/\RelV y w':=by
 cases r with
 | cons r1 r2=>
  cases r2 with
  | cons r3 r4=>cases r4;exact⟨_,_,rfl,r1,r3⟩
theorem qQx:jZo X (.builtin "abs") (fun xs H Q=>∃i,xs=[.int i]/\Q (.int (if i<0 then -i else i)) H):=by
 intro pins s σ H xs us Q I r h
 obtain⟨i,rfl,q⟩:=h
 obtain⟨u,rfl,t,rfl⟩:=kKb r
 exact call_abs_int fun u tk=>⟨.int (if i<0 then -i else i),H,I.tok _,⟨_,rfl⟩,q⟩
theorem qJf (hc:X.calm=true):jZo X (.builtin "max") (fun xs H Q=>∃i j,xs=[.int i,.int j]/\Q (.int (if j>i then j else i)) H):=by
 intro pins s σ H xs us Q I r h
 obtain⟨i,j,rfl,q⟩:=h
 obtain⟨u,w',rfl,⟨t,rfl⟩,⟨t',rfl⟩⟩:=vals2 r
 refine max_two_ints (I.ok.hd hc) fun h' tk k=>⟨_,H,I.kept k,?_,q⟩
 by_cases hj:j>i
 ·rw[lJa hj,lJa hj];exact⟨_,rfl⟩
 ·rw[lJb hj,lJb hj];exact⟨_,rfl⟩
theorem qJe (hc:X.calm=true):jZo X (.builtin "min") (fun xs H Q=>∃i j,xs=[.int i,.int j]/\Q (.int (if j<i then j else i)) H):=by
 intro pins s σ H xs us Q I r h
 obtain⟨i,j,rfl,q⟩:=h
 obtain⟨u,w',rfl,⟨t,rfl⟩,⟨t',rfl⟩⟩:=vals2 r
 refine min_two_ints (I.ok.hd hc) fun h' tk k=>⟨_,H,I.kept k,?_,q⟩
 by_cases hj:j<i
 ·rw[lJa hj,lJa hj];exact⟨_,rfl⟩
 ·rw[lJb hj,lJb hj];exact⟨_,rfl⟩
theorem qJg:jZo X (.type "int") (fun xs H Q=>(∃i,xs=[.int i]/\Q (.int i) H)\/∃k,xs=[.bl k]/\Q (.int (if k then 1 else 0)) H):=by
 intro pins s σ H xs us Q I r h
 rcases h with ⟨i,rfl,q⟩ | ⟨k,rfl,q⟩
 ·obtain⟨u,rfl,t,rfl⟩:=kKb r
  exact call_int_int ⟨.int i,H,I,⟨_,rfl⟩,q⟩
 ·obtain⟨u,rfl,r1⟩:=kKb r
  cases r1
  exact call_int_bool ⟨.int (if k then 1 else 0),H,I.tok _,⟨_,rfl⟩,q⟩
end
section
variable {prog:Program} {w:World} {A:Around} {E:Value->Shared->Prop} {s:Shared} {K:PySem.W.Frag} {x dx C f:Addr} {mA:Str->Option Value} {name:Str} {v:Value}
end
theorem RelO.some_of {v:V} {o:Option Value} (r:RelO (some v) o):∃u,o=some u/\RelV v u:=by
 cases o with
 | none=>exact (show False from r).elim
 | some u=>exact⟨u,rfl,r⟩
section
variable {P:Program} {w:World} {H H':Hp} {h h':Heap} {a C dx:Addr} {fs fs':List (Str×V)}
end
section
variable {X:Cx} {pins:List (Addr×Obj)} {σ:St} {H:Hp} {s:Shared} {a C dx:Addr} {fs:List (Str×V)} {f:Str} {v:V} {A:Around} {E:Value->Shared->Prop}
end
section
variable {X:Cx} {o e value:Expr} {f:Str} {pos pos' tpos:Pos} {ta tv:TE}
end
section
variable {X:Cx} {pins:List (Addr×Obj)} {σ:St} {H:Hp} {s:Shared} {A:Around} {E:Value->Shared->Prop} {Q:Value->Shared->Prop} {c:Value} {b:Bool}
end
structure Room (k:Nat) (A:Around):Prop where
 hd:A.handled=none
 gd:A.guards=some []
 dp:A.depth+3*k+5<recursionLimit
 un:A.units+16*k+200<cLine
theorem Room.mono {j k:Nat} {A:Around} (r:Room k A) (h:j<=k):Room j A:=⟨r.hd,r.gd,by have:=r.dp;omega,by have:=r.un;omega⟩
theorem Room.deeper {k:Nat} {A:Around} (r:Room (k+1) A) (env:Env):Room k (A.deeper env):=
 ⟨r.hd,r.gd,by have:=r.dp;show A.depth+1+3*k+5<_;omega,by have:=r.un;show A.units+3+16*k+200<_;omega⟩
theorem Room.in1 {k:Nat} {A:Around} (r:Room (k+1) A):Room k A.in1:=
 ⟨r.hd,r.gd,by have:=r.dp;show A.depth+3*k+5<_;omega,by have:=r.un;show A.units+1+16*k+200<_;omega⟩
theorem Room.depth {k:Nat} {A:Around} (r:Room k A):A.depth<recursionLimit:=by have:=r.dp;omega
theorem Room.units {k:Nat} {A:Around} (r:Room k A):A.units+64<cLine:=by have:=r.un;omega
section
variable {X:Cx} {e:Expr} {es:List Expr} {te:TE} {t:TA} {pos:Pos}
end
abbrev Sp:=List V->Hp->VK->XK->Prop
abbrev CXT:=List Env->Hp->Shared->XK->Value->Shared->Prop
structure Env0 (P:Program) (w:World) (K:PySem.W.Frag) (mg:Str->Option Value) (base:Heap) (A:Around) (outer:List Env) (s:Shared) (H:Hp):Prop where
 frames:A.frames=some outer
 mod:Mod K mg base
 bs:∀b o,base.get? b=some o->s.heap.get? b=some o/\H b=none
 bsz:base.objs.size<=s.heap.objs.size
 funs:s.heap.FunFrames base outer
 frf:∀b∈frs outer,H b=none
 hok:HOk P w H s.heap
 bare:AllBare s.gens
def CE (outer:List Env) (P:Program) (w:World) (H:Hp) (s:Shared) (Q:VK) (u:Value) (s':Shared):Prop:=
 ∃v H',s'.os=s.os/\AllBare s'.gens/\Un (frs outer) [] H H' s.heap s'.heap/\HOk P w H' s'.heap/\RelV v u/\Q v H'
def CR (CX:CXT) (outer:List Env) (P:Program) (w:World) (H:Hp) (s:Shared) (Q:VK) (E:XK) (r:Result) (s':Shared):Prop:=
 match r with
 | .ok (.ret u)=>CE outer P w H s Q u s'
 | .ok _=>False
 | .error e=>CX outer H s E e s'
structure FnOk (P:Program) (w:World) (K:PySem.W.Frag) (mg:Str->Option Value) (base:Heap) (CX:CXT) (k:Nat) (f:Addr) (fd:FuncData) (ps:List Str) (sp:Sp):Prop where
 len:∀vs H Q E,sp vs H Q E->vs.length=ps.length
 run:∀(A:Around) (outer:List Env) (s:Shared) (H:Hp) (args:Args) (us:List Value) (vs:List V) (Q:VK) (E:XK),Room k A->Env0 P w K mg base A outer s H->BindsTo s fd args (ps.zip us)->Vals vs us->sp vs H Q E->
  codeAny (model P w) A (.call (.ref f) args) (CR CX outer P w H s Q E) s
theorem Env0.in1 {P:Program} {w:World} {K:PySem.W.Frag} {mg:Str->Option Value} {base:Heap} {A:Around} {outer:List Env} {s:Shared} {H:Hp} (e:Env0 P w K mg base A outer s H):
  Env0 P w K mg base A.in1 outer s H:=⟨e.frames,e.mod,e.bs,e.bsz,e.funs,e.frf,e.hok,e.bare⟩
section
variable {X:Cx} {pins:List (Addr×Obj)} {σ:St} {H:Hp} {s s':Shared}
theorem Inv.env0 (I:Inv X pins σ H s):Env0 X.prog X.w X.K X.mg X.base X.A X.stack s H:=
 ⟨I.ok.frames,I.ok.mod,I.bs,lKi I.ok.bsz I.sz,I.stack,I.stkFree,I.hok,I.bare⟩
theorem Inv.after {Q:VK} {u:Value} (I:Inv X pins σ H s) (h:CE X.stack X.prog X.w H s Q u s'):EP X pins σ Q u s':=by
 obtain⟨v,H',os,bare,un,hok,r,q⟩:=h
 obtain⟨hh,g,d,t,os'⟩:=s'
 obtain rfl:os'=s.os:=os
 exact⟨v,H',I.call (h':=hh) (g':=g) (d':=d) (t':=t) (ch:=[]) un hok bare (fun b z=>absurd z (by simp)),r,q⟩
end
def Binds (K:PySem.W.Frag) (fd:FuncData) (ps:List Str) (ds:List Value):Prop:=
 ∀(s:Shared) (us:List Value),K.In s.heap->(us++ds).length=ps.length->BindsTo s fd ⟨us,[]⟩ (ps.zip (us++ds))
theorem Binds.all {K:PySem.W.Frag} {fd:FuncData} {ps:List Str} (h:∀us:List Value,us.length=ps.length->bindArgs fd ⟨us,[]⟩=pure (ps.zip us)):Binds K fd ps []:=fun s us _ hl=>by
 rw[lKh] at hl ⊢
 exact .of_eq (h us hl)
def qUp (CX:CXT) (X:Cx) (E:XK):Prop:=∀(pins:List (Addr×Obj)) (σ:St) (H:Hp) (s:Shared) (e:Value) (s':Shared),Inv X pins σ H s->CX X.stack H s E e s'->X.xe e s'
section
variable {X:Cx} {CX:CXT} {k:Nat} {f C:Addr} {fd:FuncData} {ps:List Str} {sp:Sp} {dvs:List V} {ds:List Value} {E:XK} {x m:Str} {p pos apos:Pos} {e o:Expr} {es:List Expr} {ta:TE} {t:TA}
theorem run_fn {pins:List (Addr×Obj)} {σ:St} {H:Hp} {s:Shared} {Q:VK} {us:List Value} {vs:List V} (F:FnOk X.prog X.w X.K X.mg X.base CX k f fd ps sp) (hr:Room k X.A) (hb:Binds X.K fd ps ds) (hd:Vals dvs ds) (hx:qUp CX X E)
  (I:Inv X pins σ H s) (r:Vals vs us) (h:sp (vs++dvs) H Q E):wpAny (model X.prog X.w) X.A (call (.ref f) us) (EP X pins σ Q) X.xe s:=by
 have r2:Vals (vs++dvs) (us++ds):=r.append hd
 have hl:(us++ds).length=ps.length:=by rw[<-r2.length];exact F.len _ _ _ _ h
 refine wpAny_call (codeAny_mono (F.run X.A X.stack s H ⟨us,[]⟩ (us++ds) (vs++dvs) Q E hr I.env0 (hb s us I.kIn hl) r2 h) fun r s' hq=> ?_)
 cases r with
 | error e=>exact hx pins σ H s e s' I hq
 | ok fl=>
  cases fl with
  | ret u=>exact I.after hq
  | next=>exact False.elim hq
  | brk=>exact False.elim hq
  | cont=>exact False.elim hq
end
section
variable {X:Cx} {CX:CXT} {k:Nat} {f C:Addr} {fd:FuncData} {ps ks:List Str} {sp:Sp} {E:XK} {x m:Str} {p pos apos kpos:Pos} {e o:Expr} {es:List Expr} {kws:List Keyword} {te ta:TE} {t tk:TA} {nm:Option Str}
variable {g:List Value->List Value->List Value} {gV:List V->List V->List V}
end
structure FnScope (N P:List Str) (sc:Scope):Prop where
 kind:sc.kind= .function
 co:sc.isCoroutine=false
 gen:sc.isGenerator=false
 nd:N.Nodup
 pre:N.take P.length=P
 par:∀x∈P,sc.names.lookup x=some .local\/sc.names.lookup x=some .cell
 nofree:∀y∈sc.names,y.2≠ .free
theorem kQf {kindOf:Str->Option NameKind} {x:Str}:∀ {binds:List (Str×Value)} {m:Str->Option Value},(∀v,(x,v)∉binds)->bindL kindOf binds m x=m x
 | [],_,_=>rfl
 | (n,v)::r,m,h=>by
  unfold bindL
  rw[kQf fun w hw=>h w (lJ3 _ hw)]
  split
  ·have:x≠n:=by rintro rfl;exact h v lJ7
   simp[this]
  ·rfl
theorem kQh {kindOf:Str->Option NameKind} {x:Str}:∀ {binds:List (Str×Value)} {m:Str->Option Value},(∀v,(x,v)∉binds)->bindC kindOf binds m x=m x
 | [],_,_=>rfl
 | (n,v)::r,m,h=>by
  unfold bindC
  rw[kQh fun w hw=>h w (lJ3 _ hw)]
  split
  ·rfl
  ·have:x≠n:=by rintro rfl;exact h v lJ7
   simp[this]
theorem kQg {kindOf:Str->Option NameKind} {x:Str} {v:Value}:∀ {P:List Str} {vs:List Value} {i:Nat} {m:Str->Option Value},P.Nodup->P[i]? =some x->vs[i]? =some v->kindOf x=some .local->
  bindL kindOf (P.zip vs) m x=some v
 | [],_,_,_,_,h,_,_=>by simp at h
 | _::_,[],_,_,_,_,h,_=>by simp at h
 | p::P,w::vs,0,m,nd,h1,h2,hk=>by
  simp at h1 h2;subst h1;subst h2
  show bindL kindOf ((p,w)::P.zip vs) m p=_
  unfold bindL
  rw[kQf fun v hv=>(lKp.mp nd).1 (List.of_mem_zip hv).1,lJa hk]
  simp
 | p::P,w::vs,i+1,m,nd,h1,h2,hk=>by
  show bindL kindOf ((p,w)::P.zip vs) m x=_
  unfold bindL
  exact kQg (i:=i) (lKp.mp nd).2 (by simpa using h1) (by simpa using h2) hk
theorem kQi {kindOf:Str->Option NameKind} {x:Str} {v:Value}:∀ {P:List Str} {vs:List Value} {i:Nat} {m:Str->Option Value},P.Nodup->P[i]? =some x->vs[i]? =some v->kindOf x≠some .local->
  bindC kindOf (P.zip vs) m x=some v
 | [],_,_,_,_,h,_,_=>by simp at h
 | _::_,[],_,_,_,_,h,_=>by simp at h
 | p::P,w::vs,0,m,nd,h1,h2,hk=>by
  simp at h1 h2;subst h1;subst h2
  show bindC kindOf ((p,w)::P.zip vs) m p=_
  unfold bindC
  rw[kQh fun v hv=>(lKp.mp nd).1 (List.of_mem_zip hv).1,lJb hk]
  simp
 | p::P,w::vs,i+1,m,nd,h1,h2,hk=>by
  show bindC kindOf ((p,w)::P.zip vs) m x=_
  unfold bindC
  exact kQi (i:=i) (lKp.mp nd).2 (by simpa using h1) (by simpa using h2) hk
def start (N:List Str) (vs:List V):St:=vs.map some++List.replicate (N.length-vs.length) none
noncomputable def cxOf (CX:CXT) (P:Program) (w:World) (K:PySem.W.Frag) (mg:Str->Option Value) (base:Heap) (N:List Str) (qual:Str) (scope:Scope) (f:Addr) (cd:Value) (A:Around) (outer:List Env) (s:Shared) (H:Hp) (E:XK):Cx where
 prog:=P
 w:=w
 K:=K
 mg:=mg
 base:=base
 A:=A.deeper (envOfC qual scope s.heap.objs.size f cd)
 N:=N
 s₀:=s
 H₀:=H
 env:=envOfC qual scope s.heap.objs.size f cd
 outer:=outer
 stack:=envOfC qual scope s.heap.objs.size f cd::outer
 ex:=[]
 calm:=true
 fn:=fun _=>true
 pn:=[]
 xe:=fun e s'=>wpAny (model P w) (A.deeper (envOfC qual scope s.heap.objs.size f cd)) (leaving (envOfC qual scope s.heap.objs.size f cd) e) (fun _ s''=>CX outer H s E e s'') (fun e' s''=>CX outer H s E e' s'') s'
theorem kVl {sc:Scope} {n:Nat} {x:Str} (h:sc.names.lookup x=some .cell):∃c,(cellsFrom n sc.names []).lookup x=some c:=by
 have q:=PySem.W.cellsFrom_some sc.names n [] (.inl h)
 exact lKq.mp q
theorem kK2 {CX:CXT} {P:Program} {w:World} {K:PySem.W.Frag} {mg:Str->Option Value} {base:Heap} {N ps:List Str} {qual:Str} {scope:Scope} {f:Addr} {cd:Value} {A:Around} {outer:List Env} {s s1:Shared} {H:Hp} {E:XK} {us:List Value} {vs:List V}
  (S:FnScope N ps scope) (hd:A.handled=none/\A.guards=some []) (e0:Env0 P w K mg base A outer s H) (hl:vs.length=ps.length) (r:Vals vs us)
  (x:InCallC s s.heap.objs.size (bindL (envOfC qual scope s.heap.objs.size f cd).kindOf (ps.zip us) fun _=>none) (cellsFrom (s.heap.objs.size+1) scope.names []) (bindC (envOfC qual scope s.heap.objs.size f cd).kindOf (ps.zip us) fun _=>none) s1):
  Inv (cxOf CX P w K mg base N qual scope f cd A outer s H E) [] (start N vs) H s1:=by
 have hpl:ps.length<=N.length:=by have:=lKl List.length S.pre;rw[lKw] at this;omega
 obtain⟨h1,tk,rfl,hk⟩:=x.done
 have noA:∀b:Addr,b∉(cxOf CX P w K mg base N qual scope f cd A outer s H E).ex:=fun b z=>absurd (show b∈([]:List Addr) from z) (by simp)
 refine⟨⟨e0.mod,S.kind,rfl,rfl,lJe _,fun y z c h1 h2=> ?_,fun y hy=> ?_,fun y c _ h=> ?_,fun _=>hd.1,fun _=>hd.2,Around.frames_deeper e0.frames,.inr ⟨rfl,rfl⟩,fun b z=>absurd z (noA b),e0.bs,e0.bsz,fun b _ _=>noA b,fun b z=>absurd z (noA b),e0.funs,e0.frf⟩,
  rfl,e0.bare,Un.kept hk,⟨_,x.toInCall.ns,fun i y v h1 h2 h3=> ?_⟩,fun y c h=>⟨_,x.cell y c h⟩,e0.hok.fresh (lJe _),fun y c h=> ?_,fun p hp=>absurd (show p∈([]:List (Addr×Obj)) from hp) (by simp),e0.hok.kept hk,?_⟩
 ·exact name_of_addr x.apart (lVh h1) (lVh h2)
 ·have hy:scope.names.lookup y=some .cell\/scope.names.lookup y=some .free:=hy
  rcases hy with hy | hy
  ·exact kVl hy
  ·exact absurd rfl (S.nofree _ (lVh hy))
 ·exact lVg (x.above y c (lVh h))
 ·have hi:i<vs.length:=by
   unfold start at h2
   by_cases hi:i<vs.length
   ·exact hi
   ·rw[lVu (by simpa using hi)] at h2
    rw[List.getElem?_replicate] at h2
    split at h2<;>cases h2
  have ha:vs[i]? =some v:=by
   unfold start at h2
   rw[lQi (by simpa using hi),lJx] at h2
   cases e:vs[i]? with
   | none=>rw[e] at h2;cases h2
   | some a=>rw[e] at h2;cases h2;rfl
  obtain⟨u,hu,rv⟩:=r.get ha
  have hp:ps[i]? =some y:=by
   rw[<-S.pre,List.getElem?_take_of_lt (by omega)];exact h1
  have ndP:ps.Nodup:=by rw[<-S.pre];exact S.nd.sublist (List.take_sublist _ _)
  refine⟨u,rv,?_⟩
  rcases S.par y (lJz hp) with k | k
  ·exact .inl ⟨k,kQg ndP hp hu k⟩
  ·obtain⟨c,e⟩:=kVl (n:=s.heap.objs.size+1) k
   refine .inr ⟨.inl k,c,e,?_⟩
   have q:=x.cell y c e
   rw[kQi ndP hp hu (by show scope.names.lookup y≠_;rw[k];decide)] at q
   exact q
 ·exact e0.hok.fresh (lVg (x.above y c (lVh h)))
 ·unfold start
  show _=N.length
  rw[lKd,lJf,List.length_replicate]
  omega
theorem qV8 {CX:CXT} {P:Program} {w:World} {K:PySem.W.Frag} {mg:Str->Option Value} {base:Heap} {k:Nat} {f:Addr} {name qual:Str} {params:Arguments} {body:List Stmt} {scope:Scope} {dV kV doc pm cdv ct oc:Value} {an od:Option Addr}
  {osl:Array (Option Value)} {N ps:List Str} {sp:Sp} (lk:K.lookup f=some ⟨oc,od,.func (PySem.W.fnOf name qual params body scope dV kV doc pm an cdv ct),osl⟩) (hcd:PySem.W.codeIn K cdv qual=true) (S:FnScope N ps scope)
  (len:∀vs H Q E,sp vs H Q E->vs.length=ps.length)
  (hbody:∀(A:Around) (outer:List Env) (s:Shared) (H:Hp) (vs:List V) (Q:VK) (E:XK),Room k (A.deeper (envOfC qual scope s.heap.objs.size f cdv))->sp vs H Q E->
   ∃t,PSs (cxOf CX P w K mg base N qual scope f cdv A outer s H E) body t/\t {nx:=fun _ H'=>Q .non H',rt:=Q} (start N vs) H):
  FnOk P w K mg base CX (k+1) f (PySem.W.fnOf name qual params body scope dV kV doc pm an cdv ct) ps sp:=by
 refine⟨len,fun A outer s H args us vs Q E hr e0 hb r hsp=> ?_⟩
 have hl:=len _ _ _ _ hsp
 have KX:K.In s.heap:=e0.mod.kin.keeps fun b o e=>(e0.bs b o e).1
 have lim:s.heap.NoLimit:=e0.mod.nolimit.keeps fun b o e=>(e0.bs b o e).1
 have hkind:∀y∈ps.zip us,scope.names.lookup y.1=some .local\/(scope.names.lookup y.1=some .cell/\((cellsFrom (s.heap.objs.size+1) scope.names []).lookup y.1).isSome=true):=fun ⟨n,v⟩ hy=>by
  rcases S.par n (List.of_mem_zip hy).1 with q | q
  ·exact .inl q
  ·exact .inr ⟨q,PySem.W.cellsFrom_some _ _ _ (.inl q)⟩
 refine codeAny_call_function hr.depth (KX _ _ lk) rfl S.co S.gen rfl (PySem.W.codeRec_of KX hcd) (hb _ _ _ _ ?_)
 refine wpAny_newFunctionEnv_cells S.kind hkind fun env he s1 x=> ?_
 subst he
 refine⟨lim.keeps x.toInCall.keep,codeAny_func ?_⟩
 obtain⟨t,ht,hq⟩:=hbody A outer s H vs Q E (hr.deeper _) hsp
 have I:Inv (cxOf CX P w K mg base N qual scope f cdv A outer s H E) [] (start N vs) H s1:=kK2 S ⟨hr.hd,hr.gd⟩ e0 hl r x
 refine lKn (ht [] s1 (start N vs) H _ I hq) (fun fl s' hs=> ?_) fun e s' hs=>hs
 have fin:∀ {σ':St} {H':Hp} {v:V} {u:Value},Inv (cxOf CX P w K mg base N qual scope f cdv A outer s H E) [] σ' H' s'->RelV v u->Q v H'->CE outer P w H s Q u s':=
  fun {σ' H' v u} J rv q=>⟨v,H',J.os,J.bare,J.base,J.hok,rv,q⟩
 cases fl with
 | ret u=>
  obtain⟨v,σ',H',J,rv,q⟩:=hs
  exact fin J rv q
 | next=>
  obtain⟨σ',H',J,q⟩:=hs
  exact fin (v:=V.non) (u:=Value.none) J rfl q
 | brk=>
  obtain⟨_,_,_,q⟩:=hs
  exact False.elim q
 | cont=>
  obtain⟨_,_,_,q⟩:=hs
  exact False.elim q
section
variable {X:Cx} {x:Str} {p pos:Pos} {e:Expr} {es:List Expr} {t:TA} {id T:String} {r:List V->Hp->VK->Prop}
end
end L2
namespace HT
open PySem PyProof.Rows
theorem qQq (A:Around) (s:Shared) (a:Int) (t:Tok) (c:Int) (u:Tok):∃e,SeqAt.EqAt A s (.int a t) (.int c u) e/\(e=true↔a=c):=
 ⟨(a == c),SeqAt.EqAt.int_int a t c u,by simp⟩
section
open PySem.SeqAt
open PySem.AutoSeq1 (wpAny_loadPart')
open PySem.MeetsSeq PySem.MeetsSeq2 PySem.MeetsSeq3
end
section
variable {prog:Program} {w:World} {A:Around} {E:Value->Shared->Prop} {s:Shared}
theorem cat_tup {t b:Addr} {vs ws:List Value} {Q:Value->Shared->Prop} (ht:IsTup s.heap t vs.toArray) (hb:IsTup s.heap b ws.toArray) (hv:vs≠[])
  (h1:ws=[]->Q (.ref t) s) (h2:ws≠[]->Q (.ref s.heap.objs.size) {s with heap:=s.heap.push {cls:= .type "tuple",data:= .seq (vs++ws).toArray} })
  (hsz:vs.length+ws.length<=sizeLine):wpAny (model prog w) A (binaryOp .Add (.ref t) (.ref b)) Q E s:=by
 obtain⟨⟨cls,dd,data,sl⟩,ho,hc,n,hd⟩:=id ht
 obtain⟨⟨cls2,dd2,data2,sl2⟩,ho2,hc2,n2,hd2⟩:=id hb
 simp only at hc hd hc2 hd2
 subst hc hd hc2 hd2
 have e:vs.toArray++ws.toArray=(vs++ws).toArray:=by simp
 by_cases hw:ws=[]
 ·exact concat_meets ⟨_,ho,rfl⟩ ⟨_,ho2,rfl⟩ noFill_tuple_add seq_tuple_add PySem.F.slot_tuple_add PySem.F.entry_tuple_add (lXk _ _)
   (tuple_addW1 t b vs.toArray ws.toArray n n2 dd dd2 sl sl2 (by simpa using hv) (by simp[hw])) ⟨ho,ho2,h1 hw⟩
 ·refine concat_meets ⟨_,ho,rfl⟩ ⟨_,ho2,rfl⟩ noFill_tuple_add seq_tuple_add PySem.F.slot_tuple_add PySem.F.entry_tuple_add (lXk _ _)
   (tuple_addW2 t b vs.toArray ws.toArray n n2 dd dd2 sl sl2 (by simpa using hv) (by simpa using hw) (by rw[lJk,lJk];exact hsz)) ⟨ho,ho2,?_⟩
  rw[e]
  exact h2 hw
def sIx (n d:Nat):Option Int->Nat
 | none=>d
 | some v=>if v<0 then (v+(n:Int)).toNat else min v.toNat n
theorem sIx_none (n d:Nat):sIx n d none=d:=rfl
theorem sIx_nat (n d k:Nat):sIx n d (some (k:Int))=min k n:=by
 show (if (k:Int)<0 then ((k:Int)+(n:Int)).toNat else min (k:Int).toNat n)=min k n
 rw[lJb (by omega),Int.toNat_natCast]
theorem sIx_le (n d:Nat) (hd:d<=n) (o:Option Int):sIx n d o<=n:=by
 cases o with
 | none=>exact hd
 | some v=>
  show (if v<0 then (v+(n:Int)).toNat else min v.toNat n)<=n
  by_cases hv:v<0
  ·rw[lJa hv];omega
  ·rw[lJb hv];exact Nat.min_le_right _ _
theorem qJb (v:Int) (n d:Nat):(if v<0 then max (v+(n:Int)) 0 else min v (n:Int))=((sIx n d (some v):Nat):Int):=by
 show (if v<0 then max (v+(n:Int)) 0 else min v (n:Int))=(((if v<0 then (v+(n:Int)).toNat else min v.toNat n):Nat):Int)
 by_cases hv:v<0
 ·simp only[lJa hv];omega
 ·simp only[lJb hv];omega
theorem kXm (lo hi:Option Int) (n:Nat):Builtin.Slice.sliceAdjust lo hi 1 (n:Int)=(((sIx n 0 lo:Nat):Int),((sIx n n hi:Nat):Int)):=by
 have h1:¬ ((1:Int)<0):=by omega
 unfold Builtin.Slice.sliceAdjust
 simp only[h1,lKk]
 refine Prod.ext ?_ ?_
 ·cases lo with
  | none=>rfl
  | some v=>exact qJb v n 0
 ·cases hi with
  | none=>rfl
  | some v=>exact qJb v n n
theorem kV1 (i j:Nat):Builtin.Slice.slicePlaces (i:Int) (j:Int) 1=j-i:=by
 unfold Builtin.Slice.slicePlaces
 have h1:(1:Int)>0:=by omega
 simp only[h1,lK5,Int.ediv_one]
 split<;>omega
theorem jZq {v:Value} {o:Option Int} {Q:Option Int->Shared->Prop} (p:IsPart v o) (h:Q o s):wpAny (model prog w) A (Builtin.Slice.slicePartIndex v) Q E s:=by
 cases p with
 | none=>exact slicePart_none h
 | int i t=>exact slicePart_int h
theorem jUj {sl:Addr} {vl vu:Value} {lo hi:Option Int} {n:Nat} {Q:Int×Int×Nat->Shared->Prop} (hs:s.heap.IsSliceOf sl vl vu .none) (pl:IsPart vl lo) (pu:IsPart vu hi)
  (h:Q (((sIx n 0 lo:Nat):Int),1,sIx n n hi-sIx n 0 lo) s):wpAny (model prog w) A (Builtin.Slice.sliceApplied (.ref sl) (pure (n:Int))) Q E s:=by
 obtain⟨os,hos,hcs,hds⟩:=id hs
 unfold Builtin.Slice.sliceApplied Builtin.Slice.sliceFields
 refine lJc (lJc (lQf hos hds (x:=vl) rfl (lJc (lQf hos hds (x:=vu) rfl (lJc (lQf hos hds (x:= .none) rfl (lJd ?_)))))))
 refine lJc (slicePart_none ?_)
 show wpAny _ _ (if ((1:Int) == 0)=true then _ else _) _ _ s
 rw[lJb (by decide)]
 refine lJc (jZq pl (lJc (jZq pu (lJc (lJd ?_)))))
 show wpAny _ _ (match Builtin.Slice.sliceAdjust lo hi 1 (n:Int) with | (lo,hi)=>pure (lo,(1:Int),Builtin.Slice.slicePlaces lo hi 1)) _ _ s
 rw[kXm lo hi n]
 show wpAny _ _ (pure (((sIx n 0 lo:Nat):Int),(1:Int),Builtin.Slice.slicePlaces ((sIx n 0 lo:Nat):Int) ((sIx n n hi:Nat):Int) 1)) _ _ s
 rw[kV1]
 exact lJd h
theorem qKo (xs:Array Value) (i k:Nat):((List.range k).filterMap fun (m:Nat)=>xs[((i:Int)+(m:Int)*1).toNat]?).toArray=((xs.toList.drop i).take k).toArray:=by
 have e:(fun (m:Nat)=>xs[((i:Int)+(m:Int)*1).toNat]?)=fun m=>xs[i+m]? :=by
  funext m
  have:((i:Int)+(m:Int)*1).toNat=i+m:=by omega
  rw[this]
 rw[e]
 have:=pick_run xs i k
 rw[List.filterMap_map] at this
 have e2:((fun x=>xs[x]?)∘fun x=>i+x)=fun m=>xs[i+m]? :=rfl
 rw[e2] at this
 rw[this]
theorem getItem_tuple_cut {t sl:Addr} {items:Array Value} {vl vu:Value} {lo hi:Option Int} {Q:Value->Shared->Prop} (ht:IsTup s.heap t items) (hs:s.heap.IsSliceOf sl vl vu .none) (pl:IsPart vl lo) (pu:IsPart vu hi)
  (hw:¬ (sIx items.size 0 lo=0/\sIx items.size items.size hi=items.size))
  (h:Q (.ref s.heap.objs.size) {s with heap:=s.heap.push {cls:= .type "tuple",data:= .seq ((items.toList.drop (sIx items.size 0 lo)).take (sIx items.size items.size hi-sIx items.size 0 lo)).toArray} })
  (hsz:items.size<=sizeLine):wpAny (model prog w) A (getItem (.ref t) (.ref sl)) Q E s:=by
 have htake:sizeOk (.seq ((items.toList.drop (sIx items.size 0 lo)).take (sIx items.size items.size hi-sIx items.size 0 lo)).toArray):=by
  show ((items.toList.drop (sIx items.size 0 lo)).take (sIx items.size items.size hi-sIx items.size 0 lo)).toArray.size<=sizeLine
  rw[lJk,lKw,lVv,lQs]
  omega
 have hj:sIx items.size items.size hi<=items.size:=sIx_le _ _ (lJe _) hi
 obtain⟨os,hos,hcs,hds⟩:=id hs
 have hTs:s.TypeIs (.ref sl) "slice":=⟨os,hos,hcs⟩
 unfold getItem
 try with_reducible refine lQg ?_
 first | refine lJc (lJd ?_) | skip
 refine lJc (wpAny_sequenceKey ht.typeIs (by decide) ?_)
 refine lJc (lVq (name:=Str.ofString "__getitem__") ht.typeIs lVi
  (lVr lVi ht.typeIs entry_tuple_getitem ?_ (args_tuple_getitem _ _)))
 show wpAny _ _ (Builtin.Tuple.tupleItemsOf (.ref t) >>= _) _ _ s
 refine lJc (tupleItemsOf_ ht ?_)
 refine lJc (wpAny_typeOf hTs ?_)
 rw[lJa (by decide)]
 refine lJc (jUj hs pl pu ?_)
 have hno:¬ ((((sIx items.size 0 lo:Nat):Int) == 0&&(1:Int) == 1&&(sIx items.size items.size hi-sIx items.size 0 lo) == items.size)=true):=by
  intro q
  rw[lKy,lKy] at q
  have q1:((sIx items.size 0 lo:Nat):Int)=0:=eq_of_beq q.1.1
  have q2:sIx items.size items.size hi-sIx items.size 0 lo=items.size:=eq_of_beq q.2
  exact hw ⟨by omega,by omega⟩
 show wpAny _ _ (if (((sIx items.size 0 lo:Nat):Int) == 0&&(1:Int) == 1&&(sIx items.size items.size hi-sIx items.size 0 lo) == items.size)=true then _ else _) _ _ s
 rw[lJb hno,qKo]
 first
  | exact lJc (m:=Builtin.Tuple.tupleExact _) (lVc (lJd ⟨_,rfl,lJd h⟩) htake)
  | exact lJc (m:=Builtin.Tuple.tupleExact _) (lVc (lJc (lJd (lJd ⟨_,rfl,lJd h⟩))) htake)
  | exact lJc (lJc (m:=Builtin.Tuple.tupleExact _) (lVc (lJd (lJd ⟨_,rfl,lJd h⟩)) htake))
  | exact lJc (lJc (m:=Builtin.Tuple.tupleExact _) (lVc (lJd ⟨_,rfl,lJd h⟩) htake))
end
end HT
namespace L2
open PySem PySem.Spec PyProof.Rows
abbrev TO:=St->Hp->(Option Int->Hp->Prop)->Prop
theorem jZw {ns:List Int}:∀ {us:List Value},Vals (ns.map V.int) us->IntsAre us ns:=by
 induction ns with
 | nil=>intro us r;rw[List.map_nil] at r;cases r;exact .nil
 | cons n ns ih=>
  intro us r
  rw[lJn] at r
  cases r with
  | cons r1 r2=>
   obtain⟨t,e⟩:=r1
   subst e
   exact .cons n t (ih r2)
section
variable {X:Cx} {e:Expr} {te:TE} {lo hi:Option Expr} {tl th:TO} {pos p2:Pos}
def SlR (X:Cx) (r:V->Option Int->Option Int->Hp->VK->Prop):Prop:=
 ∀(pins:List (Addr×Obj)) (s:Shared) (σ:St) (H:Hp) (x:V) (v vl vu:Value) (lo hi:Option Int) (sl:Addr) (Q:VK),Inv X pins σ H s->RelV x v->s.heap.IsSliceOf sl vl vu .none->IsPart vl lo->IsPart vu hi->r x lo hi H Q->
  ∃T id,typeLookup (.type T) "__getitem__"=pure (some (.builtin id))/\s.TypeIs v T/\wpAny (model X.prog X.w) X.A (getItem v (.ref sl)) (EP X pins σ Q) X.xe s
def cutV (xs:List V) (lo hi:Option Int):List V:=(xs.drop (HT.sIx xs.length 0 lo)).take (HT.sIx xs.length xs.length hi-HT.sIx xs.length 0 lo)
theorem jY8 (xs:List V) (lo hi:Option Int):(cutV xs lo hi).length<=xs.length:=by
 unfold cutV
 rw[lKw,lVv]
 omega
noncomputable def rSlT (K:PySem.W.Frag):V->Option Int->Option Int->Hp->VK->Prop:=fun x lo hi H Q=>∃a xs,x= .ref a/\SqT K H a xs/\
 ¬ (HT.sIx xs.length 0 lo=0/\HT.sIx xs.length xs.length hi=xs.length)/\∀p,H p=none->Q (.ref p) (upd H p (.tup (cutV xs lo hi)))
theorem sl_tup:SlR X (rSlT X.K):=by
 intro pins s σ H x v vl vu lo hi sl Q I rx hs pl pu h
 obtain⟨a,xs,rfl,hx,hw,q⟩:=h
 cases rx
 obtain⟨its,r,ht,hz⟩:=I.tuple hx
 have hlen:its.toArray.size=xs.length:=by rw[lJk];exact r.length.symm
 refine⟨"tuple",_,lVi.lookup,ht.typeIs,?_⟩
 refine HT.getItem_tuple_cut ht hs pl pu (by rw[hlen];exact hw) ?_ (by rw[hlen];exact hz)
 rw[hlen]
 refine⟨.ref s.heap.objs.size,_,I.laid (t':=s.toks) (o:= .tup (cutV xs lo hi)) (fun b ob q=>lJo _ q) (lJe _) ?_,rfl,q _ (I.hok.fresh (lJe _))⟩
 exact⟨lKi (jY8 xs lo hi) hz,_,(r.drop (HT.sIx xs.length 0 lo)).take (HT.sIx xs.length xs.length hi-HT.sIx xs.length 0 lo),TupD.new _ _⟩
noncomputable def qKm (K:PySem.W.Frag):R2:=fun x y H Q=>∃a b xs ys,x= .ref a/\y= .ref b/\SqT K H a xs/\SqT K H b ys/\xs≠[]/\xs.length+ys.length<=sizeLine/\
 (ys=[]->Q (.ref a) H)/\(ys≠[]->∀p,H p=none->Q (.ref p) (upd H p (.tup (xs++ys))))
theorem Vals.nil_iff {xs:List V} {us:List Value} (r:Vals xs us):us=[]↔xs=[]:=by
 cases r with
 | nil=>simp
 | cons _ _=>simp
theorem qVf:OpR X (binaryOp .Add) (qKm X.K):=by
 intro pins s σ H x y v u Q I rx ry h
 obtain⟨a,b,xs,ys,rfl,rfl,ha,hb,hx,hz,q1,q2⟩:=h
 cases rx
 cases ry
 obtain⟨its,r1,p1,_⟩:=I.tuple ha
 obtain⟨its2,r2,p2,_⟩:=I.tuple hb
 refine HT.cat_tup p1 p2 (fun z=>hx (r1.nil_iff.mp z)) (fun z=>⟨.ref a,H,I,rfl,q1 (r2.nil_iff.mp z)⟩) (fun z=> ?_) (by rw[<-r1.length,<-r2.length];exact hz)
 refine⟨.ref s.heap.objs.size,_,I.laid (t':=s.toks) (o:= .tup (xs++ys)) (fun b ob q=>lJo _ q) (lJe _) ?_,rfl,q2 (fun w=>z (r2.nil_iff.mpr w)) _ (I.hok.fresh (lJe _))⟩
 exact⟨by rw[lKd];exact hz,_,r1.append r2,TupD.new _ _⟩
end
def ixN (n:Nat) (i:Int):Option Nat:=if 0<=i then (if i<n then some i.toNat else none) else if -(n:Int)<=i then some (i+n).toNat else none
def atI {α:Type} (xs:List α) (i:Int):Option α:=(ixN xs.length i).bind fun j=>xs[j]?
theorem kZf {n:Nat} {i:Int} {j:Nat} (h:ixN n i=some j):seqIndex? i n=some j/\j<n/\ -(n:Int)<=i/\i<n:=by
 unfold ixN at h
 by_cases h0:0<=i
 ·rw[lJa h0] at h
  by_cases h1:i<n
  ·rw[lJa h1] at h
   have e:i.toNat=j:=lKb h
   exact⟨by rw[seqIndex_of h0 h1,e],by omega,by omega,h1⟩
  ·rw[lJb h1] at h;cases h
 ·rw[lJb h0] at h
  by_cases h1: -(n:Int)<=i
  ·rw[lJa h1] at h
   have e:(i+n).toNat=j:=lKb h
   exact⟨by rw[seqIndex_neg (by omega) h1,e],by omega,h1,by omega⟩
  ·rw[lJb h1] at h;cases h
theorem qJm {α:Type} {xs:List α} {i:Int} {v:α} (h:atI xs i=some v):∃j,seqIndex? i xs.length=some j/\xs[j]? =some v/\j<xs.length/\ -(xs.length:Int)<=i/\i<xs.length:=by
 unfold atI at h
 cases e:ixN xs.length i with
 | none=>rw[e] at h;cases h
 | some j=>
  rw[e] at h
  obtain⟨h1,h2,h3,h4⟩:=kZf e
  exact⟨j,h1,h,h2,h3,h4⟩
def qXl (b:Expr):Prop:=∀o i,subscripted b false o i=operate [o,i] (getItem o i)
def IxR (X:Cx) (r:R2):Prop:=
 ∀(value slice:Expr) (pins:List (Addr×Obj)) (s:Shared) (σ:St) (H:Hp) (x y:V) (v u:Value) (Q:VK),Inv X pins σ H s->RelV x v->RelV y u->r x y H Q->
  subscripted slice false v u=operate [v,u] (getItem v u)->wpAny (model X.prog X.w) X.A (subscriptTail value slice v u) (EP X pins σ Q) X.xe s
def MtR (X:Cx) (id:String) (r:V->List V->Hp->VK->Prop):Prop:=
 ∀(pins:List (Addr×Obj)) (s:Shared) (σ:St) (H:Hp) (x:V) (xs:List V) (v:Value) (us:List Value) (Q:VK),Inv X pins σ H s->RelV x v->Vals xs us->r x xs H Q->
  wpAny (model X.prog X.w) X.A (call (.builtin id) (v::us)) (EP X pins σ Q) X.xe s
section
variable {X:Cx} {a b:Expr} {ta tb:TE} {pos:Pos}
theorem IxR.or {r r':R2} (h:IxR X r) (h':IxR X r'):IxR X (fun x y H Q=>r x y H Q\/r' x y H Q):=by
 intro value slice pins s σ H x y v u Q I rx ry q hs
 rcases q with q | q
 ·exact h value slice pins s σ H x y v u Q I rx ry q hs
 ·exact h' value slice pins s σ H x y v u Q I rx ry q hs
def rIxL (K:PySem.W.Frag):R2:=fun x y H Q=>∃p xs i v,x= .ref p/\y= .int i/\SqL K H p xs/\atI xs i=some v/\Q v H
def rIxT (K:PySem.W.Frag):R2:=fun x y H Q=>∃p xs i v,x= .ref p/\y= .int i/\SqT K H p xs/\atI xs i=some v/\Q v H
theorem ix_list:IxR X (rIxL X.K):=by
 intro value slice pins s σ H x y v u Q I rx ry h hs
 obtain⟨p,xs,i,z,rfl,rfl,hq,he,q⟩:=h
 cases rx
 obtain⟨t,rfl⟩:=ry
 obtain⟨its,r,pl,hz⟩:=I.list hq
 obtain⟨j,h1,h2,h3,h4,h5⟩:=qJm he
 obtain⟨w,ew,rw'⟩:=r.get h2
 have hl:=r.length
 have hn:=jYz
 have fin:EP X pins σ Q w s:=⟨z,H,I,rw',q⟩
 by_cases h0:0<=i
 ·have hj:i.toNat=j:=by
   rw[seqIndex_of h0 h5] at h1
   exact lKb h1
  exact item_listR pl.isList h0 (by omega) (by rw[hj];simpa using ew) fin hs
 ·have hj:(i+(its.toArray.size:Int)).toNat=j:=by
   rw[seqIndex_neg (by omega) h4] at h1
   rw[lJk,<-hl]
   exact lKb h1
  exact subscriptTail_builtinR (x:=w) pl.isList.typeIs slot_list_getitem.lookup
   (wpAny_getItem_list_neg (Q:=fun r s'=>r=w/\EP X pins σ Q r s') pl.isList (by omega) (by rw[lJk]<;>omega) (by omega) (by rw[hj];simpa using ew) ⟨rfl,fin⟩) hs
theorem ix_tup:IxR X (rIxT X.K):=by
 intro value slice pins s σ H x y v u Q I rx ry h hs
 obtain⟨p,xs,i,z,rfl,rfl,hq,he,q⟩:=h
 cases rx
 obtain⟨t,rfl⟩:=ry
 obtain⟨its,r,pl,hz⟩:=I.tuple hq
 obtain⟨j,h1,h2,h3,h4,h5⟩:=qJm he
 obtain⟨w,ew,rw'⟩:=r.get h2
 have hl:=r.length
 have hn:=jYz
 have fin:EP X pins σ Q w s:=⟨z,H,I,rw',q⟩
 exact subscriptTail_builtinR (x:=w) pl.typeIs slot_tuple_getitem.lookup
  (getItem_tuple (j:=j) (Q:=fun r s'=>r=w/\EP X pins σ Q r s') pl (by omega) (by omega) (by rw[lJk,<-hl];exact h1) (by simpa using ew) ⟨rfl,fin⟩) hs
theorem kXa (its:List Value) (n j:Nat) (u:Value):Obj.mapSeq (·.setIfInBounds j u) {cls:= .type "list",data:= .seq its.toArray n}={cls:= .type "list",data:= .seq (its.set j u).toArray n}:=by
 simp[Obj.mapSeq]
theorem Inv.lst {pins:List (Addr×Obj)} {σ:St} {H:Hp} {s:Shared} {p:Addr} {xs:List V} (I:Inv X pins σ H s) (h:H p=some (.lst xs)):
  ∃(its:List Value) (n:Nat),Vals xs its/\s.heap.get? p=some {cls:= .type "list",data:= .seq its.toArray n}/\xs.length<=sizeLine:=by
 obtain⟨z,its,n,r,e⟩:=I.hok p _ h
 exact⟨its,n,r,e,z⟩
theorem Inv.lstUpd {pins:List (Addr×Obj)} {σ:St} {H:Hp} {s:Shared} {p:Addr} {xs ys:List V} {its its':List Value} {n n':Nat} {f:Obj->Obj} (I:Inv X pins σ H s) (h:H p=some (.lst xs))
  (ho:s.heap.get? p=some {cls:= .type "list",data:= .seq its.toArray n}) (hf:f {cls:= .type "list",data:= .seq its.toArray n}={cls:= .type "list",data:= .seq its'.toArray n'}) (r:Vals ys its') (hz:ys.length<=sizeLine) (t:Nat):
  Inv X pins σ (upd H p (.lst ys)) {s with heap:=s.heap.update p f,toks:=t}:=by
 have e:(s.heap.update p f).get? p=some {cls:= .type "list",data:= .seq its'.toArray n'}:=by
  rw[Heap.get?_update_self f ho (by rw[hf]<;>rfl),hf]
 refine I.write (x:=p) (e:=p) (by rw[h];trivial) (.inl rfl) (fun b u hb q=>(Heap.get?_update_other _ _ (Ne.symm hb)).trans q) ⟨_,e⟩ ?_
 exact⟨hz,its',n',r,e⟩
def qKl:V->V->V->Hp->(Hp->Prop)->Prop:=fun o i v H Q=>∃p xs k j,o= .ref p/\i= .int k/\H p=some (.lst xs)/\ixN xs.length k=some j/\Q (upd H p (.lst (xs.set j v)))
theorem qJ9:PSet X qKl:=by
 intro pins s σ H o i v ov iv u Q I ro ri rv h
 obtain⟨p,xs,k,j,rfl,rfl,hp,hj,q⟩:=h
 cases ro
 obtain⟨t,rfl⟩:=ri
 obtain⟨its,n,r,ho,hz⟩:=I.lst hp
 obtain⟨h1,h2,h3,h4⟩:=kZf hj
 have hl:=r.length
 have hn:=jYz
 have I':Inv X pins σ (upd H p (.lst (xs.set j v))) {s with heap:=s.heap.update p (Obj.mapSeq (·.setIfInBounds j u))}:=
  I.lstUpd hp ho (kXa its n j u) (r.set rv j) (by rw[lVj];exact hz) s.toks
 by_cases h0:0<=k
 ·have hk:k.toNat=j:=by
   rw[seqIndex_of h0 h4] at h1
   exact lKb h1
  exact PySem.W.ki_setAt ho h0 (by omega) (by rw[lJk,<-hl];exact h4) (by rw[hk];exact⟨_,I',q⟩)
 ·have hk:(k+(its.toArray.size:Int)).toNat=j:=by
   rw[seqIndex_neg (by omega) h3] at h1
   rw[lJk,<-hl]
   exact lKb h1
  exact PySem.W.ki_setBack ho (by omega) (by rw[lJk,<-hl];exact h3) (by omega) (by rw[hk];exact⟨_,I',q⟩)
theorem kKi (lo hi:Option Int) (n:Nat):(sliceBounds lo hi none n).1=((HT.sIx n 0 lo:Nat):Int)/\(sliceBounds lo hi none n).2.1=((HT.sIx n n hi:Nat):Int)/\(sliceBounds lo hi none n).2.2=1:=by
 refine⟨?_,?_,rfl⟩
 ·cases lo with
  | none=>simp[sliceBounds,HT.sIx]
  | some i=>
   simp only[sliceBounds,HT.sIx,Option.getD_none,show (1:Int)>0 by decide,lK5]
   by_cases h:i<0
   ·simp only[h,lK5]<;>omega
   ·simp only[h,lKk]<;>omega
 ·cases hi with
  | none=>simp[sliceBounds,HT.sIx]
  | some i=>
   simp only[sliceBounds,HT.sIx,Option.getD_none,show (1:Int)>0 by decide,lK5]
   by_cases h:i<0
   ·simp only[h,lK5]<;>omega
   ·simp only[h,lKk]<;>omega
theorem kJf (its:List Value) (lo hi:Option Int):slicePick its.toArray lo hi none=((its.drop (HT.sIx its.length 0 lo)).take (HT.sIx its.length its.length hi-HT.sIx its.length 0 lo)).toArray:=by
 obtain⟨h1,h2,h3⟩:=kKi lo hi its.toArray.size
 unfold slicePick
 rw[h1,h2,h3]
 simp only[sliceRange_one,pick_run,lJk]<;>rfl
def rSlL (K:PySem.W.Frag):V->Option Int->Option Int->Hp->VK->Prop:=fun x lo hi H Q=>∃a xs,x= .ref a/\SqL K H a xs/\∀p,H p=none->Q (.ref p) (upd H p (.lst (cutV xs lo hi)))
theorem qUz:SlR X (rSlL X.K):=by
 intro pins s σ H x v vl vu lo hi sl Q I rx hs pl pu h
 obtain⟨a,xs,rfl,hx,q⟩:=h
 cases rx
 obtain⟨its,r,ht,hz⟩:=I.list hx
 have hlen:=r.length
 refine⟨"list",_,slot_list_getitem.lookup,ht.isList.typeIs,?_⟩
 refine wpAny_getItem_list_slice ht.isList hs pl pu .none (by simp) ?_ (by rw[lJk]<;>omega)
 rw[kJf,<-hlen]
 refine⟨.ref s.heap.objs.size,_,I.laid (t':=s.toks) (o:= .lst (cutV xs lo hi)) (fun b ob q=>lJo _ q) (lJe _) ?_,rfl,q _ (I.hok.fresh (lJe _))⟩
 exact⟨lKi (jY8 xs lo hi) hz,_,0,(r.drop (HT.sIx xs.length 0 lo)).take (HT.sIx xs.length xs.length hi-HT.sIx xs.length 0 lo),lJ5 _ rfl⟩
def jZn:V->Bool
 | .non=>true
 | .bl _=>true
 | .int _=>true
 | .str _=>true
 | _=>false
noncomputable def eqV:V->V->Bool
 | .non,.non=>true
 | .bl a,.bl b=>a == b
 | .bl a,.int b=>(if a then 1 else 0) == b
 | .int a,.bl b=>a == (if b then 1 else 0)
 | .int a,.int b=>a == b
 | .str a,.str b=>a == b
 | _,_=>false
theorem eqAt_V {A:Around} {s:Shared} {y x:V} {u v:Value} (ry:RelV y u) (rx:RelV x v) (fy:jZn y=true) (fx:jZn x=true):SeqAt.EqAt A s u v (eqV y x):=by
 cases y with
 | non=>
  cases ry
  cases x with
  | non=>cases rx;exact SeqAt.EqAt.same _
  | bl b=>cases rx;exact SeqAt.EqAt.none_bool b
  | int b=>obtain⟨t,rfl⟩:=rx;exact SeqAt.EqAt.none_int b t
  | str b=>obtain⟨t,rfl⟩:=rx;exact SeqAt.EqAt.none_str b t
  | _=>exact absurd (show false=true from fx) lJp
 | bl a=>
  cases ry
  cases x with
  | non=>cases rx;exact SeqAt.EqAt.bool_none a
  | bl b=>cases rx;exact SeqAt.EqAt.bool_bool a b
  | int b=>obtain⟨t,rfl⟩:=rx;exact SeqAt.EqAt.bool_int a b t
  | str b=>obtain⟨t,rfl⟩:=rx;exact SeqAt.EqAt.bool_str a b t
  | _=>exact absurd (show false=true from fx) lJp
 | int a=>
  obtain⟨t',rfl⟩:=ry
  cases x with
  | non=>cases rx;exact SeqAt.EqAt.int_none a t'
  | bl b=>cases rx;exact SeqAt.EqAt.int_bool a t' b
  | int b=>obtain⟨t,rfl⟩:=rx;exact SeqAt.EqAt.int_int a t' b t
  | str b=>obtain⟨t,rfl⟩:=rx;exact SeqAt.EqAt.int_str a t' b t
  | _=>exact absurd (show false=true from fx) lJp
 | str a=>
  obtain⟨t',rfl⟩:=ry
  cases x with
  | non=>cases rx;exact SeqAt.EqAt.str_none a t'
  | bl b=>cases rx;exact SeqAt.EqAt.str_bool a t' b
  | int b=>obtain⟨t,rfl⟩:=rx;exact SeqAt.EqAt.str_int a t' b t
  | str b=>obtain⟨t,rfl⟩:=rx;exact SeqAt.EqAt.str_str a t' b t
  | _=>exact absurd (show false=true from fx) lJp
 | _=>exact absurd (show false=true from fy) lJp
def eqU (x:V) (u:Value):Bool:=match u with
 | .none=>eqV .non x
 | .bool b=>eqV (.bl b) x
 | .int i _=>eqV (.int i) x
 | .str z _=>eqV (.str z) x
 | _=>false
theorem kVg {x y:V} {u:Value} (r:RelV y u) (f:jZn y=true):eqU x u=eqV y x:=by
 cases y with
 | non=>cases r;rfl
 | bl b=>cases r;rfl
 | int i=>obtain⟨t,rfl⟩:=r;rfl
 | str z=>obtain⟨t,rfl⟩:=r;rfl
 | _=>exact absurd (show false=true from f) lJp
theorem jZc {x:V}:∀ {xs:List V} {us:List Value},Vals xs us->xs.all jZn=true->us.any (eqU x)=xs.any fun y=>eqV y x
 | _,_,.nil,_=>rfl
 | y::xs,u::us,.cons r t,f=>by
  rw[lQj,lKy] at f
  rw[lQb,lQb,kVg r f.1,jZc t f.2]
theorem jUg {A:Around} {s:Shared} {x:V} {v:Value} (rx:RelV x v) (fx:jZn x=true):∀ {xs:List V} {us:List Value},Vals xs us->xs.all jZn=true->∀u∈us,SeqAt.EqAt A s u v (eqU x u)
 | _,_,.nil,_=>fun u hu=>by cases hu
 | y::xs,u::us,.cons r t,f=>fun u' hu=>by
  rw[lQj,lKy] at f
  rcases (lJj.mp hu) with rfl | hu
  ·rw[kVg r f.1];exact eqAt_V r rx f.1 fx
  ·exact jUg rx fx t f.2 u' hu
def inV (x:V) (xs:List V):Bool:=xs.any fun y=>eqV y x
def rIn (K:PySem.W.Frag) (neg:Bool):R2:=fun x y H Q=>∃p xs,y= .ref p/\(SqL K H p xs\/SqT K H p xs)/\jZn x=true/\xs.all jZn=true/\Q (.bl (if neg then !inV x xs else inV x xs)) H
theorem kYp:OpR X (compareOp .In) (rIn X.K false):=by
 intro pins s σ H x y v u Q I rx ry h
 obtain⟨p,xs,rfl,hq,fx,fs,q⟩:=h
 cases ry
 rcases hq with hq | hq
 ·obtain⟨its,r,pl,hz⟩:=I.list hq
  refine SeqAt.in_listAt (eqU x) pl.isList (fun w hw=>jUg rx fx r fs w (by simpa using hw)) ⟨.bl _,H,I,rfl,?_⟩
  rw[show its.toArray.any (eqU x)=its.any (eqU x) by simp,jZc r fs]
  exact q
 ·obtain⟨its,r,pl,hz⟩:=I.tuple hq
  refine SeqAt.in_tupleAt (eqU x) pl (fun w hw=>jUg rx fx r fs w (by simpa using hw)) ⟨.bl _,H,I,rfl,?_⟩
  rw[show its.toArray.any (eqU x)=its.any (eqU x) by simp,jZc r fs]
  exact q
theorem kKt:OpR X (compareOp .NotIn) (rIn X.K true):=by
 intro pins s σ H x y v u Q I rx ry h
 obtain⟨p,xs,rfl,hq,fx,fs,q⟩:=h
 cases ry
 rcases hq with hq | hq
 ·obtain⟨its,r,pl,hz⟩:=I.list hq
  refine SeqAt.notIn_listAt (eqU x) pl.isList (fun w hw=>jUg rx fx r fs w (by simpa using hw)) ⟨.bl _,H,I,rfl,?_⟩
  rw[show its.toArray.any (eqU x)=its.any (eqU x) by simp,jZc r fs]
  exact q
 ·obtain⟨its,r,pl,hz⟩:=I.tuple hq
  refine SeqAt.notIn_tupleAt (eqU x) pl (fun w hw=>jUg rx fx r fs w (by simpa using hw)) ⟨.bl _,H,I,rfl,?_⟩
  rw[show its.toArray.any (eqU x)=its.any (eqU x) by simp,jZc r fs]
  exact q
theorem kQe:jZo X (.builtin "len") (fun xs H Q=>∃p ys,xs=[.ref p]/\(SqL X.K H p ys\/SqT X.K H p ys)/\Q (.int ys.length) H):=by
 intro pins s σ H xs us Q I r h
 obtain⟨p,ys,rfl,hq,q⟩:=h
 obtain⟨u,rfl,rx⟩:=kKb r
 cases rx
 have hn:=jYz
 rcases hq with hq | hq
 ·obtain⟨its,r',pl,hz⟩:=I.list hq
  have hlen:=r'.length
  exact Calls.call_len_list pl.isList (by simp only[lJk]<;>omega) ⟨.int ys.length,H,I.tok _,⟨s.toks+1,by rw[lJk,hlen]⟩,q⟩
 ·obtain⟨its,r',pl,hz⟩:=I.tuple hq
  have hlen:=r'.length
  exact len_tuple pl (by simp only[lJk]<;>omega) ⟨.int ys.length,H,I.tok _,⟨s.toks+1,by rw[lJk,hlen]⟩,q⟩
theorem kQd:jZo X (.type "list") (fun xs H Q=>∃p ys,xs=[.ref p]/\(SqL X.K H p ys\/SqT X.K H p ys)/\∀l,H l=none->Q (.ref l) (upd H l (.lst ys))):=by
 intro pins s σ H xs us Q I r h
 obtain⟨p,ys,rfl,hq,q⟩:=h
 obtain⟨u,rfl,rx⟩:=kKb r
 cases rx
 have fin:∀(its:List Value),Vals ys its->ys.length<=sizeLine->∀(h':Heap) (c':Nat),(∀b o',s.heap.get? b=some o'->h'.get? b=some o')->
   h'.get? s.heap.objs.size=some {cls:= .type "list",dict:=none,data:= .seq its.toArray c',slots:= #[]}->EP X pins σ Q (.ref s.heap.objs.size) {s with heap:=h'}:=fun its r' hz h' c' kp e=>
  ⟨.ref s.heap.objs.size,_,I.laid (t':=s.toks) kp (lJe _) (show ObjOk X.prog X.w _ h' _ (.lst ys) from⟨hz,its,c',r',e⟩),rfl,q _ (I.hok.fresh (lJe _))⟩
 rcases hq with hq | hq
 ·obtain⟨its,r',pl,hz⟩:=I.list hq
  have hlen:=r'.length
  obtain⟨o,ho,hc,n,hd⟩:=pl.isList
  exact call_list_seq p (.inl rfl) ho hc hd (fun h' c' kp e=>fin its r' hz h' c' kp e) (by simp only[lJk]<;>omega)
 ·obtain⟨its,r',pl,hz⟩:=I.tuple hq
  have hlen:=r'.length
  obtain⟨o,ho,hc,n,hd⟩:=pl
  exact call_list_seq p (.inr rfl) ho hc hd (fun h' c' kp e=>fin its r' hz h' c' kp e) (by simp only[lJk]<;>omega)
theorem kJ6:jZo X (.type "tuple") (fun xs H Q=>∃p ys,xs=[.ref p]/\((SqL X.K H p ys/\∀l,H l=none->Q (.ref l) (upd H l (.tup ys)))\/(SqT X.K H p ys/\Q (.ref p) H))):=by
 intro pins s σ H xs us Q I r h
 obtain⟨p,ys,rfl,h⟩:=h
 obtain⟨u,rfl,rx⟩:=kKb r
 cases rx
 rcases h with ⟨hq,q⟩ | ⟨hq,q⟩
 ·obtain⟨its,r',pl,hz⟩:=I.list hq
  have hlen:=r'.length
  refine call_tuple_list pl.isList (fun h' kp=> ?_) (by simp only[lJk]<;>omega)
  have I1:Inv X pins σ H {s with heap:=h'}:=I.kept (t':=s.toks) kp
  have I2:Inv X pins σ (upd H h'.objs.size (.tup ys)) {s with heap:=h'.push {cls:= .type "tuple",data:= .seq its.toArray} }:=
   I1.laid (t':=s.toks) (fun b o e=>lJo _ e) (lJe _) (show ObjOk X.prog X.w _ _ _ (.tup ys) from⟨hz,its,r',TupD.new _ _⟩)
  exact⟨.ref h'.objs.size,_,I2,rfl,q _ (I1.hok.fresh (lJe _))⟩
 ·obtain⟨its,r',pl,hz⟩:=I.tuple hq
  exact call_tuple_same pl ⟨.ref p,H,I,rfl,q⟩
def tyV (K:PySem.W.Frag) (T:String) (x:V) (H:Hp):Prop:=match x with
 | .str _=>T="str"
 | .int _=>T="int"
 | .ref p=>(T="list"/\∃xs,SqL K H p xs)\/(T="tuple"/\∃o,K.lookup p=some o/\o.cls= .type "tuple"/\o.dict=none)\/
   (T="dict"/\((∃kvs,H p=some (.dK kvs))\/∃kvs,H p=some (.dT kvs)))\/(T="set"/\∃S n,H p=some (.set S n))
 | _=>False
theorem qQ9 {pins:List (Addr×Obj)} {σ:St} {H:Hp} {s:Shared} {T:String} {x:V} {v:Value} (I:Inv X pins σ H s) (r:RelV x v) (ty:tyV X.K T x H):
  s.TypeIs v T/\∀a,v= .ref a->∃ob,s.heap.get? a=some ob/\ob.dict=none:=by
 cases x with
 | str z=>
  obtain⟨t,rfl⟩:=r
  cases (show T="str" from ty)
  exact⟨typeIs_str s z t,fun _ e=>nomatch e⟩
 | int i=>
  obtain⟨t,rfl⟩:=r
  cases (show T="int" from ty)
  exact⟨typeIs_int s i t,fun _ e=>nomatch e⟩
 | ref p=>
  cases r
  rcases ty with ⟨rfl,xs,hq⟩ | ⟨rfl,o,hk,hc,hd⟩ | ⟨rfl,hk⟩ | ⟨rfl,S,n,hk⟩
  ·obtain⟨its,_,pl,_⟩:=I.list hq
   refine⟨pl.isList.typeIs,fun a e=> ?_⟩
   cases e
   obtain⟨o,n,e,c,hd,_⟩:=pl
   exact⟨o,e,hd⟩
  ·refine⟨⟨o,I.kIn p o hk,hc⟩,fun a e=> ?_⟩
   cases e
   exact⟨o,I.kIn _ o hk,hd⟩
  ·have z:∃o,s.heap.get? p=some o/\o.ExactDict:=by
    rcases hk with ⟨kvs,hk⟩ | ⟨kvs,hk⟩
    ·obtain⟨_,_,_,_,o,_,_,e,ex,_⟩:=I.hok p _ hk
     exact⟨o,e,ex⟩
    ·obtain⟨_,_,_,_,o,_,_,e,ex,_⟩:=I.hok p _ hk
     exact⟨o,e,ex⟩
   obtain⟨o,e,ex⟩:=z
   refine⟨⟨o,e,ex.1⟩,fun a e2=> ?_⟩
   cases e2
   exact⟨o,e,ex.2.1⟩
  ·obtain⟨o,_,_,_,e,ex,_⟩:=I.hok p _ hk
   refine⟨⟨o,e,ex.1⟩,fun a e2=> ?_⟩
   cases e2
   exact⟨o,e,ex.2.1⟩
 | _=>exact False.elim ty
variable {o e:Expr} {es:List Expr} {to:TE} {t:TA} {name:Str} {apos cpos:Pos} {T id:String} {r:V->List V->Hp->VK->Prop}
end
def MtM (X:Cx) (id:String) (r:V->List V->Hp->VK->Prop):Prop:=
 ∀(pins:List (Addr×Obj)) (s:Shared) (σ:St) (H:Hp) (x:V) (xs:List V) (v:Value) (us:List Value) (Q:VK),Inv X pins σ H s->RelV x v->Vals xs us->r x xs H Q->
  wpAny (model X.prog X.w) X.A (call (.builtin id) (v::us)) (EP X pins σ Q) X.xe s
theorem Vals.one {x:V} {us:List Value} (h:Vals [x] us):∃u,us=[u]/\RelV x u:=by
 cases h with | cons r t=>(cases t;exact⟨_,rfl,r⟩)
theorem Vals.two {x y:V} {us:List Value} (h:Vals [x,y] us):∃u v,us=[u,v]/\RelV x u/\RelV y v:=by
 cases h with | cons r t=>(cases t with | cons q t=>(cases t;exact⟨_,_,rfl,r,q⟩))
theorem Vals.zero:∀ {us:List Value},Vals [] us->us=[]
 | _,.nil=>rfl
theorem Vals.dropLast {xs:List V} {us:List Value} (h:Vals xs us):Vals xs.dropLast us.dropLast:=by
 induction h with
 | nil=>exact .nil
 | cons r t ih=>
  cases t with
  | nil=>exact .nil
  | cons q t'=>exact .cons r ih
theorem Vals.rep {xs:List V} {us:List Value} (h:Vals xs us):∀k:Nat,Vals (List.replicate k xs).flatten (List.replicate k us).flatten
 | 0=> .nil
 | k+1=>by
  rw[lVk,lVk,lXd,lXd]
  exact Vals.append h (Vals.rep h k)
theorem kXg {α:Type} (l:List α):l.eraseIdx (l.length-1)=l.dropLast:=by
 induction l with
 | nil=>rfl
 | cons a r ih=>
  cases r with
  | nil=>rfl
  | cons b r=>
   have e:(a::b::r).length-1=((b::r).length-1)+1:=by
    have h1:(a::b::r).length=r.length+2:=rfl
    have h2:(b::r).length=r.length+1:=rfl
    omega
   rw[e,List.eraseIdx_cons_succ,ih]
   all_goals rfl
theorem kK3 (its:List Value):∀(k:Nat) (acc:List Value),
  List.foldl (fun x1 x2=>x1++x2) acc.toArray (List.replicate k its.toArray)=(acc++(List.replicate k its).flatten).toArray
 | 0,acc=>by simp
 | k+1,acc=>by
  have e:acc.toArray++its.toArray=(acc++its).toArray:=by simp
  have e2:(acc++its)++(List.replicate k its).flatten=acc++(List.replicate (k+1) its).flatten:=by
   rw[lVk,lXd,lVl]
  rw[<-e2,<-kK3 its k (acc++its),<-e,lVk,List.foldl_cons]
section
variable {X:Cx} {pins:List (Addr×Obj)} {σ:St} {H:Hp} {s:Shared} {l b:Addr} {xs ys zs:List V}
theorem Inv.lset {its its':List Value} {n:Nat} {f:Array Value->Array Value} {t':Nat} (I:Inv X pins σ H s) (hH:H l=some (.lst xs))
  (e:s.heap.get? l=some {cls:= .type "list",data:= .seq its.toArray n}) (hf:f its.toArray=its'.toArray) (hv:Vals ys its') (hz:ys.length<=sizeLine):
  Inv X pins σ (upd H l (.lst ys)) {s with heap:=s.heap.update l (Obj.mapSeq f),toks:=t'}:=by
 have q:=PySem.IsL.update e f
 rw[hf] at q
 refine I.write (x:=l) (e:=l) (by rw[hH];exact trivial) (.inl rfl) (fun b' u hb hu=>(Heap.get?_update_other s.heap (Obj.mapSeq f) (Ne.symm hb)).trans hu) ⟨_,q⟩ ?_
 exact⟨hz,its',_,hv,q⟩
theorem Inv.lnew {its:List Value} {t':Nat} (I:Inv X pins σ H s) (hv:Vals ys its) (hz:ys.length<=sizeLine):
  Inv X pins σ (upd H s.heap.objs.size (.lst ys)) {s with heap:=s.heap.push {cls:= .type "list",data:= .seq its.toArray},toks:=t'}:=
 I.laid (fun _ _ q=>lJo _ q) (lJe _) ⟨hz,its,0,hv,lJ5 _ rfl⟩
theorem Inv.fresh (I:Inv X pins σ H s):H s.heap.objs.size=none:=I.hok.fresh (lJe _)
theorem Inv.lstM (I:Inv X pins σ H s) (hH:H l=some (.lst xs)):xs.length<=sizeLine/\∃(its:List Value) (n:Nat),Vals xs its/\xs.length=its.length/\s.heap.get? l=some {cls:= .type "list",data:= .seq its.toArray n}:=by
 obtain⟨z,its,n,r,e⟩:=I.hok l _ hH
 exact⟨z,its,n,r,r.length,e⟩
theorem qKy {n:Nat} (h:n<=sizeLine):Builtin.List.listTooLong n=false:=by
 unfold Builtin.List.listTooLong
 exact lJu (by omega)
end
section
variable {X:Cx}
def jJ8:V->List V->Hp->VK->Prop:=fun x vs H Q=>∃l xs y,x= .ref l/\vs=[y]/\H l=some (.lst xs)/\xs.length<sizeLine/\Q .non (upd H l (.lst (xs++[y])))
theorem kYz:MtM X "list.append" jJ8:=by
 intro pins s σ H x vs v us Q I rx rv h
 obtain⟨l,xs,y,rfl,rfl,hH,hz,q⟩:=h
 cases rx
 obtain⟨u,rfl,ru⟩:=rv.one
 obtain⟨z,its,n,r,hl,e⟩:=I.lstM hH
 refine lQ1 F.slot_list_append ⟨_,e,rfl⟩ F.entry_list_append (F.args_list_append_2 _ _) (PySem.list_append l its.toArray n u (by rw[lJk];omega)) ⟨e,?_⟩
 refine⟨.non,_,I.lset (its':=its++[u]) hH e (by simp) (r.append (.cons ru .nil)) ?_,rfl,q⟩
 rw[lKd,lQt]
 omega
def rPop:V->List V->Hp->VK->Prop:=fun x vs H Q=>∃l xs y,x= .ref l/\vs=[]/\H l=some (.lst xs)/\xs[xs.length-1]? =some y/\Q y (upd H l (.lst xs.dropLast))
theorem mt_pop:MtM X "list.pop" rPop:=by
 intro pins s σ H x vs v us Q I rx rv h
 obtain⟨l,xs,y,rfl,rfl,hH,hy,q⟩:=h
 cases rx
 have hus:=rv.zero
 subst hus
 obtain⟨z,its,n,r,hl,e⟩:=I.lstM hH
 obtain⟨u,hu,ru⟩:=r.get hy
 have hy':its.toArray[its.toArray.size-1]? =some u:=by
  show its.toArray[its.length-1]? =some u
  rw[<-Array.getElem?_toList,<-hl]
  exact hu
 refine lQ1 F.slot_list_pop ⟨_,e,rfl⟩ F.entry_list_pop (F.args_list_pop_1 _) (MeetsSeq.list_pop_last l its.toArray n u hy' (by rw[lJk];omega)) ⟨e,?_⟩
 refine⟨y,_,I.lset (its':=its.dropLast) hH e ?_ r.dropLast ?_,ru,q⟩
 ·show its.toArray.eraseIdxIfInBounds (its.toArray.size-1)=its.dropLast.toArray
  rw[lJk,List.eraseIdxIfInBounds_toArray,kXg]
 ·rw[List.length_dropLast]
  omega
noncomputable def rCat:R2:=fun x y H Q=>∃l b xs zs,x= .ref l/\y= .ref b/\H l=some (.lst xs)/\H b=some (.lst zs)/\xs.length+zs.length<=sizeLine/\∀p,H p=none->Q (.ref p) (upd H p (.lst (xs++zs)))
theorem op_cat:OpR X (binaryOp .Add) rCat:=by
 intro pins s σ H x y v u Q I rx ry h
 obtain⟨l,b,xs,zs,rfl,rfl,hH,hB,hz,q⟩:=h
 cases rx
 cases ry
 obtain⟨z,its,n,r,hl,e⟩:=I.lstM hH
 obtain⟨z2,its2,n2,r2,hl2,e2⟩:=I.lstM hB
 refine PySem.P.add_list e e2 ?_ (by rw[lJk,lJk];omega)
 have ea:its.toArray++its2.toArray=(its++its2).toArray:=by simp
 rw[ea]
 exact⟨.ref _,_,I.lnew (t':=s.toks) (r.append r2) (by rw[lKd];omega),rfl,q _ I.fresh⟩
noncomputable def rRep:R2:=fun x y H Q=>∃l k xs,x= .ref l/\y= .int k/\H l=some (.lst xs)/\ -(2^63)<=k/\k<2^63/\xs.length*k.toNat<=sizeLine/\
 ∀p,H p=none->Q (.ref p) (upd H p (.lst (List.replicate k.toNat xs).flatten))
theorem qVt {α:Type} (xs:List α) (k:Nat):(List.replicate k xs).flatten.length=k*xs.length:=by
 induction k with
 | zero=>simp
 | succ k ih=>rw[lVk,lXd,lKd,ih,Nat.succ_mul,Nat.add_comm]
theorem op_rep:OpR X (binaryOp .Mult) rRep:=by
 intro pins s σ H x y v u Q I rx ry h
 obtain⟨l,k,xs,rfl,rfl,hH,h1,h2,hz,q⟩:=h
 cases rx
 obtain⟨t,rfl⟩:=ry
 obtain⟨z,its,n,r,hl,e⟩:=I.lstM hH
 have hlen:its.toArray.size*k.toNat<=sizeLine:=by rw[lJk,<-hl];exact hz
 have hcap:¬ its.toArray.size*k.toNat>(2^63-1) / 8:=by
  have:(sizeLine:Nat)<=(2^63-1) / 8:=by decide
  omega
 have hfit:¬ (!Builtin.List.listFitsIndex k)=true:=by
  rw[fitsIndex_both h1 h2]
  exact lJp
 have hlong:¬ Builtin.List.listTooLong (its.toArray.size*k.toNat)=true:=by
  rw[qKy hlen]
  exact lJp
 have hnew:List.foldl (fun x1 x2=>x1++x2) #[] (List.replicate (if its.toArray.isEmpty=true then 0 else k.toNat) its.toArray)=(List.replicate k.toNat its).flatten.toArray:=by
  have f0:∀m:Nat,List.foldl (fun x1 x2=>x1++x2) #[] (List.replicate m its.toArray)=(List.replicate m its).flatten.toArray:=fun m=>by
   have:=kK3 its m []
   rw[List.nil_append] at this
   exact this
  rw[f0]
  cases its with
  | nil=>simp
  | cons a r'=>rw[lJb (by simp)]
 refine wpAny_binaryOp_repeat_ref (T:="list") (U:="int") (by decide) ⟨_,e,rfl⟩ (fun s'=>typeIs_int s' k t) noFill_list_mul F.fills_int_mul F.slot_int_rmul repeat_list F.slot_int_index.lookup
  (lQ1 F.slot_int_rmul (typeIs_int s k t) F.entry_int_rmul (F.args_int_rmul_2 _ _) (int___rmul___int_list k t l its.toArray n)
   ⟨e,rfl,⟨_,e,rfl⟩,lQ1 F.slot_list_mul ⟨_,e,rfl⟩ F.entry_list_mul (F.args_list_mul_2 _ _) (AutoListH.list___mul___list_int_3 l its.toArray n k t hfit hcap hlong) ⟨e,?_⟩⟩)
 rw[hnew]
 exact⟨.ref _,_,I.lnew (t':=s.toks) (r.rep k.toNat) (by rw[qVt,Nat.mul_comm];exact hz),rfl,q _ I.fresh⟩
end
section
variable {prog:Program} {w:World} {A:Around} {E:Value->Shared->Prop} {s:Shared}
end
section
variable {X:Cx}
end
section
variable {κ:Type} [DecidableEq κ]
def valV (kvs:List (κ×V)) (k:κ):Option V:=(kvs.find? fun kv=>decide (kv.1=k)).map (·.2)
def putK (kvs:List (κ×V)) (k:κ) (v:V):List (κ×V):=
 if (kvs.any fun kv=>decide (kv.1=k))=true then kvs.map (fun kv=>if kv.1=k then (kv.1,v) else kv) else kvs++[(k,v)]
theorem jX5 {p:κ×V} {r:List (κ×V)} {k:κ} (e:p.1=k):valV (p::r) k=some p.2:=by simp[valV,lQc,e]
theorem jX6 {p:κ×V} {r:List (κ×V)} {k:κ} (e:¬ p.1=k):valV (p::r) k=valV r k:=by simp[valV,lQc,e]
theorem kUr (k:κ):∀kvs:List (κ×V),(kvs.any fun kv=>decide (kv.1=k))=(valV kvs k).isSome
 | []=>rfl
 | p::r=>by
  rw[lQb]
  by_cases e:p.1=k
  ·simp only[jX5 e,lJs e,Bool.true_or,Option.isSome_some]
  ·rw[jX6 e,lJu e,Bool.false_or];exact kUr k r
theorem jVl (kvs:List (κ×V)) (k:κ) (v:V):(putK kvs k v).length<=kvs.length+1:=by
 unfold putK
 split
 ·rw[lJf];omega
 ·rw[lKd,lKe,lQk];omega
theorem RelO.isSome_eq {o:Option V} {u:Option Value} (r:RelO o u):o.isSome=u.isSome:=by
 cases o with
 | none=>cases u with
  | none=>rfl
  | some _=>exact (show False from r).elim
 | some _=>cases u with
  | none=>exact (show False from r).elim
  | some _=>rfl
theorem KV.val {kvs:List (κ×V)} {vs:List (κ×Value)} (r:KV kvs vs) (k:κ):RelO (valV kvs k) (valueAt vs k):=by
 unfold KV at r
 induction r with
 | nil=>exact True.intro
 | @cons p q ps qs h t ih=>
  obtain⟨h1,h2⟩:=h
  by_cases e:p.1=k
  ·have e':q.1=k:=h1.symm.trans e
   have b:valueAt (q::qs) k=some q.2:=by simp[valueAt,lQc,e']
   rw[jX5 e,b];exact h2
  ·have e':¬ q.1=k:=fun z=>e (h1.trans z)
   have b:valueAt (q::qs) k=valueAt qs k:=by simp[valueAt,lQc,e']
   rw[jX6 e,b];exact ih
theorem KV.any {kvs:List (κ×V)} {vs:List (κ×Value)} (r:KV kvs vs) (k:κ):(kvs.any fun kv=>decide (kv.1=k))=vs.any fun kv=>decide (kv.1=k):=by
 unfold KV at r
 induction r with
 | nil=>rfl
 | cons h t ih=>rw[lQb,lQb,ih,h.1]
theorem KV.repl {kvs:List (κ×V)} {vs:List (κ×Value)} (r:KV kvs vs) (k:κ) {y:V} {u:Value} (ry:RelV y u):
  KV (kvs.map fun kv=>if kv.1=k then (kv.1,y) else kv) (vs.map fun kv=>if kv.1=k then (kv.1,u) else kv):=by
 unfold KV at r ⊢
 induction r with
 | nil=>exact .nil
 | @cons p q ps qs h t ih=>
  rw[lJn,lJn]
  refine .cons ?_ ih
  obtain⟨h1,h2⟩:=h
  by_cases e:p.1=k
  ·rw[lJa e,lJa (h1.symm.trans e)];exact⟨h1,ry⟩
  ·rw[lJb e,lJb (fun z=>e (h1.trans z))];exact⟨h1,h2⟩
theorem KV.put {kvs:List (κ×V)} {vs:List (κ×Value)} (r:KV kvs vs) (k:κ) {y:V} {u:Value} (ry:RelV y u):KV (putK kvs k y) (stored vs k u):=by
 unfold putK stored
 rw[r.any k]
 by_cases e:(vs.any fun kv=>decide (kv.1=k))=true
 ·rw[lJa e,lJa e];exact r.repl k ry
 ·rw[lJb e,lJb e];exact Paired.snoc r ⟨rfl,ry⟩
theorem KV.length {kvs:List (κ×V)} {vs:List (κ×Value)} (r:KV kvs vs):kvs.length=vs.length:=lQ4 r
end
theorem kK0 {P:Program} {w:World} {k:Key} {u:Value} (r:RelV (kV k) u):(jKg P w).is k u=true:=by
 cases k with
 | inl i=>obtain⟨t,e⟩:=(show ∃t,u=Value.int i t from r);subst e;exact kQ8 P w i t
 | inr x=>obtain⟨t,e⟩:=(show ∃t,u=Value.str x t from r);subst e;exact kQ7 P w x t
abbrev KT (H:Hp):List (TKey×V)->List (TKey×Addr×Value)->Prop:=Paired fun p q=>p.1=q.1/\TKeyAt H p.1 q.2.1/\RelV p.2 q.2.2
theorem KT.val {H:Hp} {kvs:List (TKey×V)} {xs:List (TKey×Addr×Value)} (r:KT H kvs xs) (k:TKey):RelO (valV kvs k) ((atKey xs k).map (·.2)):=by
 induction r with
 | nil=>exact True.intro
 | @cons p q ps qs h t ih=>
  obtain⟨h1,_,h2⟩:=h
  by_cases e:p.1=k
  ·have e':q.1=k:=h1.symm.trans e
   have b:atKey (q::qs) k=some q.2:=by simp[atKey,lQc,e']
   rw[jX5 e,b];exact h2
  ·have e':¬ q.1=k:=fun z=>e (h1.trans z)
   have b:atKey (q::qs) k=atKey qs k:=by simp[atKey,lQc,e']
   rw[jX6 e,b];exact ih
theorem KT.repl {H:Hp} {kvs:List (TKey×V)} {xs:List (TKey×Addr×Value)} (r:KT H kvs xs) (k:TKey) {y:V} {u:Value} (ry:RelV y u):
  KT H (kvs.map fun kv=>if kv.1=k then (kv.1,y) else kv) (xs.map (putAt k u)):=by
 induction r with
 | nil=>exact .nil
 | @cons p q ps qs h t ih=>
  rw[lJn,lJn]
  refine .cons ?_ ih
  obtain⟨h1,h2,h3⟩:=h
  unfold putAt
  by_cases e:p.1=k
  ·rw[lJa e,lJa (h1.symm.trans e)];exact⟨h1,h2,ry⟩
  ·rw[lJb e,lJb (fun z=>e (h1.trans z))];exact⟨h1,h2,h3⟩
theorem KT.put {H:Hp} {kvs:List (TKey×V)} {xs:List (TKey×Addr×Value)} (r:KT H kvs xs) (k:TKey) {b:Addr} {y:V} {u:Value} (hb:TKeyAt H k b) (ry:RelV y u):
  KT H (putK kvs k y) (storedH xs k b u):=by
 have e:(kvs.any fun kv=>decide (kv.1=k))=(atKey xs k).isSome:=by
  rw[kUr,(r.val k).isSome_eq,lVw]
 unfold putK storedH
 rw[e]
 by_cases q:(atKey xs k).isSome=true
 ·rw[lJa q,lJa q];exact r.repl k ry
 ·rw[lJb q,lJb q];exact Paired.snoc r ⟨rfl,hb,ry⟩
theorem KT.keeps {H H':Hp} {kvs:List (TKey×V)} {xs:List (TKey×Addr×Value)} (r:KT H kvs xs) (ht:∀b ys,H b=some (.tup ys)->H' b=some (.tup ys)):KT H' kvs xs:=
 Paired.mapP r fun _ _ z=>⟨z.1,z.2.1.mono ht,z.2.2⟩
section
variable {P:Program} {w:World} {H:Hp} {h:Heap} {a:Addr}
theorem rd_of {u:HO} (ok:HOk P w H h) (e:Rd H a u):ObjOk P w H h a u:=e.ok ok
theorem kZ1 {kvs:List (Key×V)} (ok:HOk P w H h) (e:Rd H a (.dK kvs)):kvs.length<=sizeLine/\(a == sysModules)=false/\∃vs,KV kvs vs/\h.DictOf (jKg P w) a vs:=
 show ObjOk P w H h a (.dK kvs) from rd_of ok e
theorem qQu {kvs:List (Key×V)} (ok:HOk P w H h) (e:H a=some (.dK kvs)):kvs.length<=sizeLine/\(a == sysModules)=false/\∃vs,KV kvs vs/\h.DictOf (jKg P w) a vs:=kZ1 ok (.inl e)
theorem kVa {K:Type} [DecidableEq K] {c:Nat} {T:KeyV P w K c} {R:K->V->Prop} (hR:∀k x u,R k x->RelV x u->T.is h k u):∀ {ks:List K} {xs:List V} {us:List Value},Paired R ks xs->Vals xs us->ItemsV T h ks us
 | _,_,_,.nil,.nil=> .nil
 | _,_,_,.cons r t,.cons q z=> .cons (hR _ _ _ r q) (kVa hR t z)
theorem kQp {K:Type} [DecidableEq K] {c:Nat} {T:KeyV P w K c} {R:K->V->Prop} {ks:List K} {xs:List V} {p:Addr} (ok:HOk P w H h) (hR:∀k x u,R k x->RelV x u->T.is h k u) (e:H p=some (.tup xs)) (r:Paired R ks xs):kVq T h ks (.ref p):=by
 obtain⟨_,its,q,o,h1,h2,n,h3,_⟩:=(show ObjOk P w H h p (.tup xs) from ok p _ e)
 exact⟨p,o,its.toArray,n,rfl,h1,h2,h3,by simpa using kVa hR r q⟩
theorem r1_of (ok:HOk P w H h) (k:K1) (x:V) (u:Value) (r:Rk1 H k x) (q:RelV x u):(vk1 P w).is h k u:=by
 cases k with
 | inl k=>cases (show x=kV k from r);exact kK0 (P:=P) (w:=w) q
 | inr ks=>
  obtain⟨p,vs,rfl,e,t⟩:=(show ∃p vs,x= .ref p/\H p=some (.tup vs)/\Paired (fun k v=>v=kV k) ks vs from r)
  cases (show u=Value.ref p from q)
  exact kQp (T:=kQj P w) ok (fun k x u r q=>by subst r;exact kK0 (P:=P) (w:=w) q) e t
theorem r2_of (ok:HOk P w H h) (k:K2) (x:V) (u:Value) (r:Rk2 H k x) (q:RelV x u):(vk2 P w).is h k u:=by
 cases k with
 | inl k=>cases (show x=kV k from r);exact kK0 (P:=P) (w:=w) q
 | inr ks=>
  obtain⟨p,vs,rfl,e,t⟩:=(show ∃p vs,x= .ref p/\H p=some (.tup vs)/\Paired (Rk1 H) ks vs from r)
  cases (show u=Value.ref p from q)
  exact kQp (T:=vk1 P w) ok (r1_of ok) e t
theorem jY0 {ks:TKey} (ok:HOk P w H h) (e:TKeyAt H ks a):(jKj P w).is h ks a:=by
 obtain⟨vs,h1,t⟩:=e
 exact kQp (T:=vk2 P w) ok (r2_of ok) h1 t
theorem kXi {kvs:List (TKey×V)} (ok:HOk P w H h) (e:Rd H a (.dT kvs)):kvs.length<=sizeLine/\(a == sysModules)=false/\
  ∃xs,KT H kvs xs/\h.DictOfH (jKj P w) a xs:=by
 obtain⟨z,y,xs,r,o,es,ep,h1,h2,h3,h4,h5⟩:=(show ObjOk P w H h a (.dT kvs) from rd_of ok e)
 refine⟨z,y,xs,r,o,es,ep,h1,h2,h3,h4,fun x hx=> ?_,h5⟩
 have all:∀ {l:List (TKey×V)} {m:List (TKey×Addr×Value)},KT H l m->∀x∈m,(jKj P w).is h x.1 x.2.1:=by
  intro l m q
  induction q with
  | nil=>intro x hx;exact nomatch hx
  | @cons p q ps qs hq t ih=>
   intro x hx
   rcases (lJj.mp hx) with e | hx
   ·subst e
    exact jY0 ok (by rw[<-hq.1];exact hq.2.1)
   ·exact ih x hx
 exact all r x hx
theorem dt_of {kvs:List (TKey×V)} (ok:HOk P w H h) (e:H a=some (.dT kvs)):kvs.length<=sizeLine/\(a == sysModules)=false/\
  ∃xs,KT H kvs xs/\h.DictOfH (jKj P w) a xs:=kXi ok (.inl e)
end
def DGet (H:Hp) (a:Addr) (y:V) (r:Option V):Prop:=
 (∃kvs k,Rd H a (.dK kvs)/\y=kV k/\r=valV kvs k)\/∃kvs k b,Rd H a (.dT kvs)/\y= .ref b/\TKeyAt H k b/\r=valV kvs k
def DPut (H:Hp) (a:Addr) (y v:V) (H':Hp):Prop:=
 (∃kvs k,H a=some (.dK kvs)/\y=kV k/\kvs.length<sizeLine/\H'=upd H a (.dK (putK kvs k v)))\/
 ∃kvs k b,H a=some (.dT kvs)/\y= .ref b/\TKeyAt H k b/\kvs.length<sizeLine/\H'=upd H a (.dT (putK kvs k v))
theorem DGet.k {H:Hp} {a:Addr} {kvs:List (Key×V)} {k:Key} (e:H a=some (.dK kvs)):DGet H a (kV k) (valV kvs k):= .inl ⟨kvs,k,.inl e,rfl,rfl⟩
theorem DGet.t {H:Hp} {a b:Addr} {kvs:List (TKey×V)} {k:TKey} (e:H a=some (.dT kvs)) (eb:TKeyAt H k b):DGet H a (.ref b) (valV kvs k):= .inr ⟨kvs,k,b,.inl e,rfl,eb,rfl⟩
theorem DPut.k {H:Hp} {a:Addr} {kvs:List (Key×V)} {k:Key} {v:V} (e:H a=some (.dK kvs)) (hl:kvs.length<sizeLine):DPut H a (kV k) v (upd H a (.dK (putK kvs k v))):= .inl ⟨kvs,k,e,rfl,hl,rfl⟩
theorem DPut.t {H:Hp} {a b:Addr} {kvs:List (TKey×V)} {k:TKey} {v:V} (e:H a=some (.dT kvs)) (eb:TKeyAt H k b) (hl:kvs.length<sizeLine):
  DPut H a (.ref b) v (upd H a (.dT (putK kvs k v))):= .inr ⟨kvs,k,b,e,rfl,eb,hl,rfl⟩
section
variable {X:Cx} {pins:List (Addr×Obj)} {σ:St} {H:Hp} {s:Shared} {a:Addr} {y v:V} {u r:Value} {o:Option V} {A:Around} {E:Value->Shared->Prop}
theorem Inv.big (I:Inv X pins σ H s):sysModules<s.heap.objs.size:=by
 have h:mainGlobals<s.heap.objs.size:=(I.mod.glob.keeps I.bk).lt
 exact Nat.lt_trans (by decide) h
theorem kZ4 {Q:Value->Shared->Prop} (hu:A.units+20<cLine) (I:Inv X pins σ H s) (g:DGet H a y (some v)) (ry:RelV y u) (h:∀w' s',Inv X pins σ H s'->RelV v w'->Q w' s'):
  wpAny (model X.prog X.w) A (getItem (.ref a) u) Q E s:=by
 rcases g with ⟨kvs,k,e,ey,l⟩ | ⟨kvs,k,b,e,ey,eb,l⟩
 ·subst ey
  obtain⟨z,hd,vs,rel,dd⟩:=kZ1 I.hok e
  obtain⟨w',hw,rw'⟩:=RelO.some_of (v:=v) (o:=valueAt vs k) (by rw[l];exact rel.val k)
  exact wpAny_getItem_of (kK0 ry) dd.mapOf hw (h w' _ (I.tok _) rw')
 ·subst ey
  cases (show u=Value.ref b from ry)
  obtain⟨z,hd,xs,rel,dd⟩:=kXi I.hok e
  obtain⟨w',hw,rw'⟩:=RelO.some_of (v:=v) (o:=(atKey xs k).map (·.2)) (by rw[l];exact rel.val k)
  obtain⟨p,hp,hp2⟩:=lQl.mp hw
  refine wpAny_getItem_heap (jKc hu) (jY0 I.hok eb) dd hp ?_
  rw[hp2]
  exact h w' _ (I.tok _) rw'
theorem d_in {Q:Value->Shared->Prop} (hu:A.units+20<cLine) (I:Inv X pins σ H s) (g:DGet H a y o) (ry:RelV y u) (h:∀s',Inv X pins σ H s'->Q (.bool o.isSome) s'):
  wpAny (model X.prog X.w) A (compareOp .In u (.ref a)) Q E s:=by
 rcases g with ⟨kvs,k,e,ey,l⟩ | ⟨kvs,k,b,e,ey,eb,l⟩
 ·subst ey
  obtain⟨z,hd,vs,rel,dd⟩:=kZ1 I.hok e
  refine wpAny_in_of (kK0 ry) hd dd.mapOf ?_
  rw[<-(rel.val k).isSome_eq,<-l]
  exact h _ (I.tok _)
 ·subst ey
  cases (show u=Value.ref b from ry)
  obtain⟨z,hd,xs,rel,dd⟩:=kXi I.hok e
  refine wpAny_in_heap (jKc hu) (jY0 I.hok eb) hd dd ?_
  have q:=(rel.val k).isSome_eq
  rw[lVw] at q
  rw[<-q,<-l]
  exact h _ (I.tok _)
theorem qXe {Q:Value->Shared->Prop} (hu:A.units+20<cLine) (I:Inv X pins σ H s) (g:DGet H a y o) (ry:RelV y u) (h:∀s',Inv X pins σ H s'->Q (.bool (!o.isSome)) s'):
  wpAny (model X.prog X.w) A (compareOp .NotIn u (.ref a)) Q E s:=by
 rcases g with ⟨kvs,k,e,ey,l⟩ | ⟨kvs,k,b,e,ey,eb,l⟩
 ·subst ey
  obtain⟨z,hd,vs,rel,dd⟩:=kZ1 I.hok e
  refine wpAny_notIn_of (kK0 ry) hd dd.mapOf ?_
  rw[<-(rel.val k).isSome_eq,<-l]
  exact h _ (I.tok _)
 ·subst ey
  cases (show u=Value.ref b from ry)
  obtain⟨z,hd,xs,rel,dd⟩:=kXi I.hok e
  refine wpAny_notIn_heap (jKc hu) (jY0 I.hok eb) hd dd ?_
  have q:=(rel.val k).isSome_eq
  rw[lVw] at q
  rw[<-q,<-l]
  exact h _ (I.tok _)
theorem kJ4 {h':Heap} {t':Nat} {ob:HO} (I:Inv X pins σ H s) (mu:Mut (H a)) (hs:Heap.SameBut a s.heap h') (he:∃q,h'.get? a=some q) (new:ObjOk X.prog X.w (upd H a ob) h' a ob):
  Inv X pins σ (upd H a ob) {s with heap:=h',toks:=t'}:=
 I.write (x:=a) (e:=a) mu (.inl rfl) (fun b q hb z=>(hs.2 b hb).trans z) he new
theorem kZ2 {P:Program} {w:World} {H':Hp} {h':Heap} {kvs:List (Key×V)} {vs:List (Key×Value)} (z:kvs.length<=sizeLine) (hd:(a == sysModules)=false) (rel:KV kvs vs) (dd:h'.DictOf (jKg P w) a vs):
  ObjOk P w H' h' a (.dK kvs):=⟨z,hd,vs,rel,dd⟩
theorem kQb {H':Hp} {Q:Unit->Shared->Prop} (hu:A.units+20<cLine) (I:Inv X pins σ H s) (g:DPut H a y v H') (ry:RelV y u) (rv:RelV v r) (h:∀s',Inv X pins σ H' s'->Q () s'):
  wpAny (model X.prog X.w) A (setItem (.ref a) u r) Q E s:=by
 rcases g with ⟨kvs,k,e,ey,l,eH⟩ | ⟨kvs,k,b,e,ey,eb,l,eH⟩
 ·subst ey eH
  obtain⟨z,hd,vs,rel,dd⟩:=qQu I.hok e
  have hz:vs.length<=sizeLine:=by rw[<-rel.length];exact z
  have hl:(putK kvs k v).length<=sizeLine:=by have:=jVl kvs k v;omega
  refine wpAny_setItem_pairs (hsz:=hz) (kK0 ry) dd fun h' dd' hs=>h _ ?_
  have he:∃q,h'.get? a=some q:=let ⟨q,_,_,hq,_⟩:=dd';⟨q,hq⟩
  exact kJ4 I (by rw[e];exact True.intro) hs he (kZ2 hl hd (rel.put k rv) dd')
 ·subst ey eH
  cases (show u=Value.ref b from ry)
  obtain⟨z,hd,xs,rel,dd⟩:=dt_of I.hok e
  have hz:xs.length<=sizeLine:=by rw[<-lQ4 rel];exact z
  have hl:(putK kvs k v).length<=sizeLine:=by have:=jVl kvs k v;omega
  refine wpAny_setItem_heap (hsz:=hz) (jKc hu) (jY0 I.hok eb) dd fun h' dd' hs=>h _ ?_
  obtain⟨q,es,ep,hq,h2,h3,h4,_,h5⟩:=dd'
  refine kJ4 I (by rw[e];exact True.intro) hs ⟨q,hq⟩ ⟨hl,hd,_,(rel.put k eb rv).keeps fun c ys ec=> ?_,q,es,ep,hq,h2,h3,h4,h5⟩
  rw[jJu (ne_of ec e (fun z=>nomatch z))]
  exact ec
end
section
variable {X:Cx} {pins:List (Addr×Obj)} {σ:St} {H:Hp} {s:Shared} {a:Addr} {kvs:List (Key×V)} {k:Key} {u:Value} {A:Around} {E:Value->Shared->Prop}
end
theorem kUi {X:Cx} {pins:List (Addr×Obj)} {σ:St} {H:Hp} {s:Shared} {a:Addr} {y:V} {o:Option V} (I:Inv X pins σ H s) (g:DGet H a y o):s.TypeIs (.ref a) "dict":=by
 rcases g with ⟨kvs,k,e,_,_⟩ | ⟨kvs,k,b,e,_,_,_⟩
 ·obtain⟨_,_,vs,_,dd⟩:=kZ1 I.hok e
  exact dd.typeIs
 ·obtain⟨_,_,xs,_,dd⟩:=kXi I.hok e
  exact dd.typeIs
section
variable {X:Cx} {o i e value:Expr} {pos pos' tpos:Pos} {td ty tv:TE}
end
theorem kJ3 {P:Program} {w:World} {H:Hp} (h:Heap) (hb:sysModules<h.objs.size):ObjOk P w H (h.push {cls:= .type "dict",data:= .dict #[]}) h.objs.size (.dK []):=
 ⟨lJq _,beq_eq_false_iff_ne.mpr (Ne.symm (lJw hb)),[],.nil,Heap.DictOf.new h⟩
theorem qQt {P:Program} {w:World} {H:Hp} (h:Heap) (hb:sysModules<h.objs.size):ObjOk P w H (h.push {cls:= .type "dict",data:= .dict #[]}) h.objs.size (.dT []):=
 ⟨lJq _,beq_eq_false_iff_ne.mpr (Ne.symm (lJw hb)),[],.nil,_,#[],0,lJ5 _ rfl,⟨rfl,rfl,rfl⟩,rfl,rfl,List.nodup_nil⟩
def tDNewK:TE:=fun _ H Q=>∀p,H p=none->Q (.ref p) (upd H p (.dK []))
def tDNewT:TE:=fun _ H Q=>∀p,H p=none->Q (.ref p) (upd H p (.dT []))
section
variable {X:Cx} {pos:Pos}
theorem qKq:PE X (.Dict [] [] pos) tDNewK:=fun pins s σ H Q I h=>
 wpAny_Dict_empty ⟨.ref s.heap.objs.size,_,I.laid (a:=s.heap.objs.size) (o:= .dK []) (t':=s.toks) (fun _ _ q=>lJo _ q) (lJe _) (kJ3 s.heap I.big),rfl,h _ (I.hok.fresh (lJe _))⟩
theorem qKp:PE X (.Dict [] [] pos) tDNewT:=fun pins s σ H Q I h=>
 wpAny_Dict_empty ⟨.ref s.heap.objs.size,_,I.laid (a:=s.heap.objs.size) (o:= .dT []) (t':=s.toks) (fun _ _ q=>lJo _ q) (lJe _) (qQt s.heap I.big),rfl,h _ (I.hok.fresh (lJe _))⟩
end
abbrev VV:List (V×V)->List (Value×Value)->Prop:=Paired fun p q=>RelV p.1 q.1/\RelV p.2 q.2
def jZt (kvs more:List (Key×V)):List (Key×V):=more.foldl (fun acc kv=>putK acc kv.1 kv.2) kvs
theorem KV.merge:∀ {more:List (Key×V)} {rs:List (Key×Value)} {kvs:List (Key×V)} {vs:List (Key×Value)},KV more rs->KV kvs vs->KV (jZt kvs more) (merged vs rs):=by
 intro more rs kvs vs r
 unfold KV at r
 induction r generalizing kvs vs with
 | nil=>intro q;exact q
 | @cons p q ps qs h t ih=>
  intro r0
  have e:KV (putK kvs p.1 p.2) (stored vs q.1 q.2):=by
   have:=r0.put p.1 h.2
   rw[<-h.1];exact this
  exact ih e
theorem jV1:∀(more kvs:List (Key×V)),(jZt kvs more).length<=kvs.length+more.length
 | [],kvs=>by show kvs.length<=kvs.length+0;omega
 | p::r,kvs=>by
  have h1:=jV1 r (putK kvs p.1 p.2)
  have h2:=jVl kvs p.1 p.2
  show (jZt (putK kvs p.1 p.2) r).length<=_
  rw[lKe];omega
theorem jXv {P:Program} {w:World}:∀ {kvs:List (Key×V)} {ws:List (Value×Value)},VV (kvs.map fun kv=>(kV kv.1,kv.2)) ws->∃rs,Carries (jKg P w) ws rs/\KV kvs rs
 | [],_,r=>by rw[List.map_nil] at r;cases r;exact⟨[],True.intro,.nil⟩
 | p::kvs,_,r=>by
  rw[lJn] at r
  cases r with
  | @cons a b as bs h t=>
   obtain⟨rs,c,q⟩:=jXv (P:=P) (w:=w) t
   obtain⟨b1,b2⟩:=b
   exact⟨(p.1,b2)::rs,⟨kK0 h.1,rfl,c⟩,.cons ⟨rfl,h.2⟩ q⟩
section
variable {X:Cx} {pins:List (Addr×Obj)} {σ:St} {H:Hp} {s:Shared} {a:Addr} {y d:V} {u r:Value} {o:Option V} {A:Around} {E:Value->Shared->Prop}
end
section
variable {X:Cx} {o e f:Expr} {apos cpos:Pos} {td ty tx:TE}
end
section
variable {X:Cx} {pins:List (Addr×Obj)} {σ:St} {H:Hp} {s:Shared} {a:Addr} {kvs:List (Key×V)} {A:Around} {E:Value->Shared->Prop}
end
section
variable {X:Cx} {pins:List (Addr×Obj)} {σ:St} {H:Hp} {s:Shared} {a:Addr} {y:V} {u:Value} {A:Around} {E:Value->Shared->Prop}
end
end L2
namespace Att
open PySem PySem.W PySem.Calls PyProof.Rows
theorem jY2 {P:Params} {h:Heap}:∀(ns:List Int) (vs:List Value),WellAll P h vs (ns.map WData.int)->IntsAre vs ns:=by
 intro ns
 induction ns with
 | nil=>
  intro vs w
  rw[List.map_nil] at w
  cases w
  exact .nil
 | cons n ns ih=>
  intro vs w
  rw[lJn] at w
  cases w with
  | cons a b=>
   cases a
   exact .cons _ _ (ih _ b)
theorem kX9 {l:OpenLaw} {n:Nat} (hn:l.most=some n) {P:Params} {h:Heap} {args:List WData} {vals:List Value}
  (hpre:l.row.toRowW.claim.pre args=true) (hwl:WellAll P h vals args):
  ∃a vs ns,vals=[Value.ref a]/\args=[WData.list (ns.map WData.int)]/\h.get? a=some {cls:= .type "list",data:= .seq vs.toArray}/\IntsAre vs ns/\ns.length<=n:=by
 have hsh:WShape.hasAll [] args [.list .int]=true:=(pre_splitW hpre).1
 have hc:l.pre.holds [] {args:=args}=true:=(pre_splitW hpre).2
 obtain⟨d,r,rfl,h1,h2⟩:=hasAllW_cons hsh
 obtain rfl:=hasAllW_nil h2
 obtain⟨xs,rfl,h3⟩:=hasW_list h1
 obtain⟨ns,rfl⟩:=items_int h3
 have hlen:ns.length<=n:=by
  unfold OpenLaw.pre at hc
  have h4:(WTm.not (.lt (.lit (.int (n:Int))) (.len (.arg 0)))).holds [] {args:=[.list (ns.map .int)]}=true:=by
   have h4:=(holds_andW hc).1
   rw[hn] at h4
   exact h4
  have h5:=condW_of h4 (w_not (w_lt w_lit (w_len_list (w_arg rfl))))
  rw[lJf] at h5
  refine Nat.le_of_not_lt fun q=> ?_
  have q':(n:Int)<((ns.length:Nat):Int):=by omega
  first
   | (rw[lJs q'] at h5;exact absurd h5 (by decide))
   | (simp at h5;omega)
 cases hwl with
 | cons w1 w2=>
  cases w2
  cases w1 with
  | list ho hall=>exact⟨_,_,ns,rfl,rfl,ho,jY2 ns _ hall,hlen⟩
theorem kYm (l:OpenLaw) (args:List WData):l.row.toRowW.claim.post args (.bool true) args=true:=
 postW_of (r:=l.row.toRowW) (X:=(true == true))
  (show WShape.has [] (.bool true) .bool=true by first | rfl | decide | simp[WShape.has,WShape.arms,WShape.armsAll])
  (show (WTm.eq .res (.lit (.bool true))).value [] {args:=args,res:=some (.bool true),after:=args}=some (.bool (true == true)) from w_eq_bool (w_res rfl) w_lit) rfl
theorem attach_call {l:OpenLaw} {n:Nat} {q:Program} {loose:List Str} {XP:(Str->Option Value)->Heap->Prop} {YP:World->Heap->Prop} {d:DefRec}
  (hn:l.most=some n) (hdf:d.params.defaults=[])
  (call:∀(w:World) (s₀ s₁:Shared) (mg mb:Str->Option Value) (fa:Addr) (o:Obj) (pm cd doc:Value) (a:Addr) (vs:List Value) (ns:List Int),
   Ground q loose [] XP w s₀ mg mb s₁.heap->YP w s₁.heap->
   s₁.heap.get? fa=some o->o.data= .func (docDef d.name d.params d.body d.scope pm cd doc)->s₁.heap.CodeRec cd d.name->mg d.name=some (.ref fa)->
   s₁.heap.get? a=some {cls:= .type "list",data:= .seq vs.toArray}->IntsAre vs ns->ns.length<=n->s₁.gens= #[]->
   codeAny (model l.prog w) callerA (.call (.ref fa) ⟨[.ref a],[]⟩) (fun r s'=>r= .ok (.ret (.bool true))/\OldK s₁.heap s'.heap/\s'.os=s₁.os/\AllBare s'.gens) s₁):
  WalkO q loose XP YP l.row.toRowW d [] (fun f vs=>PySem.call f vs):=by
 intro w s₀ s₁ mg mb G Y fa o pm cd doc dV kV ho hd hcd hD hmg hg args vals as hpre hlay hrd hwl hlo
 obtain rfl:dV= .none:=Dflts.none hD hdf
 obtain rfl:kV= .none:=Dflts.noKw hD
 obtain⟨a,vs,ns,rfl,rfl,hobj,hints,hlen⟩:=kX9 hn hpre hwl
 refine enter_call (codeAny_mono (call w s₀ s₁ mg mb fa o pm cd doc a vs ns G Y ho (fd_plain hd) hcd hmg hobj hints hlen hg) fun r s' hq=> ?_)
 obtain⟨rfl,h2,h3,h4⟩:=hq
 exact⟨.inl ⟨.bool true,.bool true,[],rfl,fun _=>rfl,.bool true,kYm l _,fun _=>⟨List.Pairwise.nil,fun _ hm=>(nomatch hm)⟩⟩,h2,h3,h4⟩
section
variable {prog:Program} {w:World} {A:Around} {E:Value->Shared->Prop} {s:Shared} {K:Frag}
end
end Att
namespace L2
open PySem PySem.Spec PyProof.Rows
theorem jQj:∀ {vs:List Value} {ns:List Int},IntsAre vs ns->Vals (ns.map V.int) vs
 | _,_,.nil=> .nil
 | _,_,.cons n t h=> .cons ⟨t,rfl⟩ (jQj h)
noncomputable def jUh (s:Stmt):Arguments:=match s with
 | .FunctionDef _ a _ _ _ _ _ _ _ _=>a
 | _=>{posonlyargs:=[],args:=[],vararg:=none,kwonlyargs:=[],kw_defaults:=[],kwarg:=none,defaults:=[]}
def jKr (s:Stmt):List Stmt:=match s with
 | .FunctionDef _ _ b _ _ _ _ _ _ _=>b
 | _=>[]
def jJq (s:Stmt):Scope:=match s with
 | .FunctionDef _ _ _ _ _ _ sc _ _ _=>sc
 | _=>{kind:= .function,names:=[],isGenerator:=false,isCoroutine:=false}
abbrev CX0:CXT:=fun _ _ _ _ _ _=>False
abbrev E0:XK:=fun _ _ _=>False
theorem pass0 {X:Cx}:qUp CX0 X E0:=fun _ _ _ _ _ _ _ h=>h.elim
structure Fun (K:PySem.W.Frag) (x qual:Str) (st:Stmt) (f:Addr) (fd:FuncData):Prop where
 ex:∃(oc:Value) (od:Option Addr) (kV doc pm:Value) (an:Option Addr) (cdv ct:Value) (osl:Array (Option Value)),
  fd=PySem.W.fnOf x qual (jUh st) (jKr st) (jJq st) .none kV doc pm an cdv ct/\K.lookup f=some ⟨oc,od,.func fd,osl⟩/\PySem.W.codeIn K cdv qual=true
 kp:PySem.W.keepIn K (.ref f)=true
section
variable {P:Program} {w:World} {K:PySem.W.Frag} {mg:Str->Option Value} {base:Heap}
theorem Fun.ok {x qual:Str} {st:Stmt} {f:Addr} {fd:FuncData} {N ps:List Str} {k:Nat} {sp:Sp} (F:Fun K x qual st f fd) (S:FnScope N ps (jJq st)) (len:∀vs H Q E,sp vs H Q E->vs.length=ps.length)
  (hbody:∀(cdv:Value) (A:Around) (outer:List Env) (s:Shared) (H:Hp) (vs:List V) (Q:VK) (E:XK),Room k (A.deeper (envOfC qual (jJq st) s.heap.objs.size f cdv))->sp vs H Q E->
   ∃t,PSs (cxOf CX0 P w K mg base N qual (jJq st) f cdv A outer s H E).nox (jKr st) t/\t {nx:=fun _ H'=>Q .non H',rt:=Q} (start N vs) H):FnOk P w K mg base CX0 (k+1) f fd ps sp:=by
 obtain⟨oc,od,kV,doc,pm,an,cdv,ct,osl,rfl,lk,hcd⟩:=F.ex
 refine qV8 lk hcd S len fun A outer s H vs Q E hr hsp=> ?_
 obtain⟨t,h,q⟩:=hbody cdv A outer s H vs Q E hr hsp
 exact⟨t,h.nox,q⟩
theorem Fun.binds {x qual:Str} {st:Stmt} {f:Addr} {fd:FuncData} {ps:List Str} (F:Fun K x qual st f fd)
  (h:∀(kV doc pm:Value) (an:Option Addr) (cdv ct:Value) (us:List Value),us.length=ps.length->bindArgs (PySem.W.fnOf x qual (jUh st) (jKr st) (jJq st) .none kV doc pm an cdv ct) ⟨us,[]⟩=pure (ps.zip us)):Binds K fd ps []:=by
 obtain⟨oc,od,kV,doc,pm,an,cdv,ct,osl,rfl,lk,hcd⟩:=F.ex
 exact .all (h kV doc pm an cdv ct)
theorem fun_mk {x qual:Str} {st:Stmt} {f:Addr} {oc:Value} {od an:Option Addr} {osl:Array (Option Value)} {kV doc pm cdv ct:Value} (l:K.lookup f=some ⟨oc,od,.func (PySem.W.fnOf x qual (jUh st) (jKr st) (jJq st) .none kV doc pm an cdv ct),osl⟩)
  (c:PySem.W.codeIn K cdv qual=true) (k:PySem.W.keepIn K (.ref f)=true):Fun K x qual st f (PySem.W.fnOf x qual (jUh st) (jKr st) (jJq st) .none kV doc pm an cdv ct):=⟨⟨oc,od,kV,doc,pm,an,cdv,ct,osl,rfl,l,c⟩,k⟩
end
theorem qQj {A:Around} {k:Nat} (hr:Room k A):A.units+20<cLine:=Nat.lt_of_le_of_lt (Nat.add_le_add_left (by decide:20<=64) _) hr.units
section
variable {X:Cx}
end
end L2
set_option Elab.async false
set_option linter.all false
set_option maxRecDepth 100000
set_option maxHeartbeats 5000000
namespace L3
open PySem PySem.Spec PyProof.Rows L2
inductive T where
 | non | bl (b:Bool) | int (i:Int) | str (x:Str) | tup (xs:List T) | scr (xs:List T) | ref (a:Addr) | ty (n:String)
structure Ext (H H':Hp):Prop where
 tup:∀b xs,H b=some (.tup xs)->H' b=some (.tup xs)
 frz:∀b ob u,H b=some (.frz ob u)->H' b=some (.frz ob u)
theorem Ext.refl (H:Hp):Ext H H:=⟨fun _ _ h=>h,fun _ _ _ h=>h⟩
theorem Ext.trans {H H1 H2:Hp} (a:Ext H H1) (b:Ext H1 H2):Ext H H2:=⟨fun c o h=>b.tup c o (a.tup c o h),fun c o u h=>b.frz c o u (a.frz c o u h)⟩
def FrL (K:PySem.W.Frag) (H:Hp) (a:Addr) (xs:List V):Prop:=
 (∃ob,H a=some (.frz ob (.lst xs)))\/
  ∃(o:Obj) (its:Array Value) (n:Nat),K.lookup a=some o/\o.cls= .type "list"/\o.dict=none/\o.data= .seq its n/\its.size<=sizeLine/\Vals xs its.toList
theorem FrL.sq {K:PySem.W.Frag} {H:Hp} {a:Addr} {xs:List V} (h:FrL K H a xs):SqL K H a xs:=by
 rcases h with ⟨ob,h⟩ | h
 ·exact .inl (.inr ⟨ob,h⟩)
 ·exact .inr h
theorem FrL.mono {K:PySem.W.Frag} {H H':Hp} {a:Addr} {xs:List V} (e:Ext H H') (h:FrL K H a xs):FrL K H' a xs:=by
 rcases h with ⟨ob,h⟩ | h
 ·exact .inl ⟨ob,e.frz _ _ _ h⟩
 ·exact .inr h
mutual
noncomputable def Rep (K:PySem.W.Frag) (H:Hp):T->V->Prop
 | .non,v=>v= .non
 | .bl b,v=>v= .bl b
 | .int i,v=>v= .int i
 | .str x,v=>v= .str x
 | .ref a,v=>v= .ref a
 | .ty n,v=>v= .ty n
 | .tup xs,v=>∃a vs,v= .ref a/\H a=some (.tup vs)/\Reps K H xs vs
 | .scr xs,v=>∃a vs,v= .ref a/\FrL K H a vs/\Reps K H xs vs
noncomputable def Reps (K:PySem.W.Frag) (H:Hp):List T->List V->Prop
 | [],vs=>vs=[]
 | x::xs,vs=>∃v ws,vs=v::ws/\Rep K H x v/\Reps K H xs ws
end
mutual
theorem Rep.mono {K:PySem.W.Frag} {H H':Hp} (e:Ext H H'):∀(x:T) {v:V},Rep K H x v->Rep K H' x v
 | .non,_,h=>h
 | .bl _,_,h=>h
 | .int _,_,h=>h
 | .str _,_,h=>h
 | .ref _,_,h=>h
 | .ty _,_,h=>h
 | .tup xs,_,⟨a,vs,r1,r2,r3⟩=>⟨a,vs,r1,e.tup _ _ r2,Reps.mono e xs r3⟩
 | .scr xs,_,⟨a,vs,r1,r2,r3⟩=>⟨a,vs,r1,r2.mono e,Reps.mono e xs r3⟩
theorem Reps.mono {K:PySem.W.Frag} {H H':Hp} (e:Ext H H'):∀(xs:List T) {vs:List V},Reps K H xs vs->Reps K H' xs vs
 | [],_,h=>h
 | x::xs,_,⟨v,ws,r1,r2,r3⟩=>⟨v,ws,r1,Rep.mono e x r2,Reps.mono e xs r3⟩
end
section
variable {K:PySem.W.Frag} {H:Hp}
theorem Reps.length:∀ {xs:List T} {vs:List V},Reps K H xs vs->xs.length=vs.length
 | [],_,h=>by cases h;rfl
 | _::_,_,⟨_,_,r1,_,r3⟩=>by subst r1;simp[Reps.length r3]
theorem Reps.get:∀ {xs:List T} {vs:List V} {i:Nat} {x:T},Reps K H xs vs->xs[i]? =some x->∃v,vs[i]? =some v/\Rep K H x v
 | [],_,_,_,_,e=>by simp at e
 | y::ys,_,0,x,⟨v,ws,r1,r2,r3⟩,e=>by subst r1;simp at e;subst e;exact⟨v,rfl,r2⟩
 | y::ys,_,i+1,x,⟨v,ws,r1,r2,r3⟩,e=>by subst r1;simpa using Reps.get r3 (by simpa using e)
theorem Reps.get':∀ {xs:List T} {vs:List V} {i:Nat} {v:V},Reps K H xs vs->vs[i]? =some v->∃x,xs[i]? =some x/\Rep K H x v
 | [],_,_,_,h,e=>by cases h;simp at e
 | y::ys,_,0,x,⟨v,ws,r1,r2,r3⟩,e=>by subst r1;simp at e;subst e;exact⟨y,rfl,r2⟩
 | y::ys,_,i+1,x,⟨v,ws,r1,r2,r3⟩,e=>by subst r1;simpa using Reps.get' r3 (by simpa using e)
theorem Reps.append:∀ {xs ys:List T} {vs ws:List V},Reps K H xs vs->Reps K H ys ws->Reps K H (xs++ys) (vs++ws)
 | [],_,_,_,h,h2=>by cases h;exact h2
 | _::_,_,_,_,⟨v,ws,r1,r2,r3⟩,h2=>by subst r1;exact⟨v,_,rfl,r2,Reps.append r3 h2⟩
theorem Reps.one {x:T} {v:V} (r:Rep K H x v):Reps K H [x] [v]:=⟨v,[],rfl,r,rfl⟩
theorem Reps.set {x:T} {v:V} (r:Rep K H x v):∀ {xs:List T} {vs:List V} (i:Nat),Reps K H xs vs->Reps K H (xs.set i x) (vs.set i v)
 | [],_,_,e=>by cases e;rfl
 | _::_,_,0,⟨_,ws,r1,r2,r3⟩=>by subst r1;exact⟨v,ws,rfl,r,r3⟩
 | _::_,_,i+1,⟨u,ws,r1,r2,r3⟩=>by subst r1;exact⟨u,_,rfl,r2,Reps.set r i r3⟩
theorem Reps.take:∀ {xs:List T} {vs:List V} (n:Nat),Reps K H xs vs->Reps K H (xs.take n) (vs.take n)
 | _,_,0,_=>by simp[Reps]
 | [],_,_+1,h=>by cases h;simp[Reps]
 | _::_,_,n+1,⟨u,ws,r1,r2,r3⟩=>by subst r1;exact⟨u,_,rfl,r2,Reps.take n r3⟩
theorem Reps.drop:∀ {xs:List T} {vs:List V} (n:Nat),Reps K H xs vs->Reps K H (xs.drop n) (vs.drop n)
 | _,_,0,h=>h
 | [],_,_+1,h=>by cases h;simp[Reps]
 | _::_,_,n+1,⟨u,ws,r1,r2,r3⟩=>by subst r1;exact Reps.drop n r3
theorem Reps.rep {xs:List T} {vs:List V} (r:Reps K H xs vs):∀n:Nat,Reps K H (List.replicate n xs).flatten (List.replicate n vs).flatten
 | 0=>by simp[Reps]
 | n+1=>by simpa[lVk] using r.append (Reps.rep r n)
theorem Reps.atI {xs:List T} {vs:List V} {i:Int} {x:T} (r:Reps K H xs vs) (h:atI xs i=some x):∃v,atI vs i=some v/\Rep K H x v:=by
 unfold L2.atI at h ⊢
 rw[<-r.length]
 cases e:ixN xs.length i with
 | none=>rw[e] at h;cases h
 | some j=>rw[e] at h;exact r.get h
end
inductive GO where
 | lst (xs:List T) | dct (kvs:List (TKey×T)) | dck (kvs:List (Key×T)) | fdc (kvs:List (TKey×T)) | ins (cn:Str) (fs:List (Str×T)) | exc (cn:Str) | tb (l c:Nat) (q:Str)
abbrev Gp:=Addr->Option GO
def gup (G:Gp) (a:Addr) (o:GO):Gp:=fun b=>if b=a then some o else G b
theorem jJf {G:Gp} {a:Addr} {o:GO}:gup G a o a=some o:=by simp[gup]
theorem jJk {G:Gp} {a b:Addr} {o:GO} (h:b≠a):gup G a o b=G b:=by simp[gup,h]
theorem kZp {G:Gp} {a:Addr} {o o':GO}:gup (gup G a o) a o'=gup G a o':=by funext b;by_cases h:b=a<;>simp[gup,h]
def asL:Option GO->Option (List T)
 | some (.lst xs)=>some xs
 | _=>none
def seqT (G:Gp):T->Option (List T)
 | .tup xs=>some xs
 | .scr xs=>some xs
 | .ref a=>asL (G a)
 | _=>none
def PKV {κ:Type} (K:PySem.W.Frag) (H:Hp):List (κ×T)->List (κ×V)->Prop:=Paired fun p q=>p.1=q.1/\Rep K H p.2 q.2
def TbR (H:Hp) (l c:Nat) (q:Str) (ps:Array Value):Prop:=ps= #[]\/∃(c':Addr) (t1 t2 tq:Tok) (oc:Obj) (u:HO) (vs:Array Value),ps= #[.int l t1,.int c t2,.ref c']/\H c'=some (.frz oc u)/\oc.data= .fields vs/\vs[1]? =some (.str q tq)
theorem TbR.mono {H H':Hp} {l c:Nat} {q:Str} {ps:Array Value} (h:TbR H l c q ps) (e:Ext H H'):TbR H' l c q ps:=by
 rcases h with h | ⟨c',t1,t2,tq,oc,u,vs,h1,h2,h3⟩
 ·exact .inl h
 ·exact .inr ⟨c',t1,t2,tq,oc,u,vs,h1,e.frz _ _ _ h2,h3⟩
noncomputable def GOk (K:PySem.W.Frag) (H:Hp) (a:Addr):GO->Prop
 | .lst xs=>∃vs,H a=some (.lst vs)/\Reps K H xs vs
 | .dct kvs=>∃ws,H a=some (.dT ws)/\PKV K H kvs ws
 | .dck kvs=>∃ws,H a=some (.dK ws)/\PKV K H kvs ws
 | .fdc kvs=>∃ob ws,H a=some (.frz ob (.dT ws))/\PKV K H kvs ws
 | .ins cn fs=>∃C dx ws,H a=some (.ins C dx ws)/\PySem.W.nsIn K mainGlobals cn=some (some (.ref C))/\PKV K H fs ws
 | .exc cn=>∃ob C u,H a=some (.frz ob u)/\ob.cls= .ref C/\PySem.W.nsIn K mainGlobals cn=some (some (.ref C))
 | .tb l c q=>∃ps,H a=some (.tbl ps)/\TbR H l c q ps
def GRel (K:PySem.W.Frag) (H:Hp) (G:Gp):Prop:=∀a o,G a=some o->GOk K H a o
section
variable {K:PySem.W.Frag} {H H':Hp} {G:Gp} {a:Addr}
theorem PKV.mono {κ:Type} {kvs:List (κ×T)} {ws:List (κ×V)} (e:Ext H H') (h:PKV K H kvs ws):PKV K H' kvs ws:=Paired.mapP h fun _ _ z=>⟨z.1,Rep.mono e _ z.2⟩
theorem GOk.move {o:GO} (h:GOk K H a o) (e:Ext H H') (ha:H' a=H a):GOk K H' a o:=by
 cases o with
 | lst xs=>obtain⟨vs,h1,h2⟩:=h;exact⟨vs,ha.trans h1,Reps.mono e _ h2⟩
 | dct kvs=>obtain⟨vs,h1,h2⟩:=h;exact⟨vs,ha.trans h1,h2.mono e⟩
 | dck kvs=>obtain⟨vs,h1,h2⟩:=h;exact⟨vs,ha.trans h1,h2.mono e⟩
 | fdc kvs=>obtain⟨ob,vs,h1,h2⟩:=h;exact⟨ob,vs,ha.trans h1,h2.mono e⟩
 | ins cn fs=>obtain⟨C,dx,ws,h1,h2,h3⟩:=h;exact⟨C,dx,ws,ha.trans h1,h2,h3.mono e⟩
 | exc cn=>obtain⟨ob,C,u,h1,h2,h3⟩:=h;exact⟨ob,C,u,ha.trans h1,h2,h3⟩
 | tb l c q=>obtain⟨ps,h1,h2⟩:=h;exact⟨ps,ha.trans h1,h2.mono e⟩
theorem GOk.some {o:GO} (h:GOk K H a o):H a≠none:=by
 cases o with
 | lst xs=>obtain⟨vs,h1,h2⟩:=h;rw[h1];simp
 | dct kvs=>obtain⟨vs,h1,h2⟩:=h;rw[h1];simp
 | dck kvs=>obtain⟨vs,h1,h2⟩:=h;rw[h1];simp
 | fdc kvs=>obtain⟨ob,vs,h1,h2⟩:=h;rw[h1];simp
 | ins cn fs=>obtain⟨C,dx,ws,h1,h2,h3⟩:=h;rw[h1];simp
 | exc cn=>obtain⟨ob,C,u,h1,h2,h3⟩:=h;rw[h1];simp
 | tb l c q=>obtain⟨ps,h1,h2⟩:=h;rw[h1];simp
theorem GRel.fresh (g:GRel K H G) (h:H a=none):G a=none:=by
 cases e:G a with
 | none=>rfl
 | some o=>exact absurd h (g a o e).some
def Soft (o:Option HO):Prop:=o=none\/(∃xs,o=some (.lst xs))\/(∃kvs,o=some (.dK kvs))\/(∃kvs,o=some (.dT kvs))\/∃C dx fs,o=some (.ins C dx fs)
theorem Ext.upd {o:HO} (h:Soft (H a)):Ext H (L2.upd H a o):=by
 refine⟨fun b xs e=> ?_,fun b ob u e=> ?_⟩
 ·rw[jJu];exact e
  rintro rfl;rw[e] at h;rcases h with h | ⟨_,h⟩ | ⟨_,h⟩ | ⟨_,h⟩ | ⟨_,_,_,h⟩<;>cases h
 ·rw[jJu];exact e
  rintro rfl;rw[e] at h;rcases h with h | ⟨_,h⟩ | ⟨_,h⟩ | ⟨_,h⟩ | ⟨_,_,_,h⟩<;>cases h
theorem GRel.upd {o:HO} {go:GO} (g:GRel K H G) (h:Soft (H a)) (n:GOk K (L2.upd H a o) a go):GRel K (L2.upd H a o) (gup G a go):=by
 intro b u e
 by_cases hb:b=a
 ·subst hb;rw[jJf] at e;cases e;exact n
 ·rw[jJk hb] at e;exact (g b u e).move (Ext.upd h) (jJu hb)
theorem Soft.none (h:H a=none):Soft (H a):= .inl h
theorem Soft.lst {xs:List V} (h:H a=some (.lst xs)):Soft (H a):= .inr (.inl ⟨xs,h⟩)
theorem Soft.dT {xs:List (TKey×V)} (h:H a=some (.dT xs)):Soft (H a):= .inr (.inr (.inr (.inl ⟨xs,h⟩)))
theorem Soft.dK {xs:List (Key×V)} (h:H a=some (.dK xs)):Soft (H a):= .inr (.inr (.inl ⟨xs,h⟩))
theorem GRel.tupNew {vs:List V} (g:GRel K H G) (h:H a=Option.none):GRel K (L2.upd H a (.tup vs)) G:=by
 intro b u e
 have hb:b≠a:=by rintro rfl;exact (g b u e).some h
 exact (g b u e).move (Ext.upd (.none h)) (jJu hb)
theorem Rep.tupNew {xs:List T} {vs:List V} (r:Reps K H xs vs) (h:H a=Option.none):Rep K (L2.upd H a (.tup vs)) (.tup xs) (.ref a):=
 ⟨a,vs,rfl,jJ6,Reps.mono (Ext.upd (.none h)) _ r⟩
theorem GRel.lstNew {xs:List T} {vs:List V} (g:GRel K H G) (r:Reps K H xs vs) (h:Soft (H a)):GRel K (L2.upd H a (.lst vs)) (gup G a (.lst xs)):=
 g.upd h ⟨vs,jJ6,Reps.mono (Ext.upd h) _ r⟩
theorem GRel.lst {xs:List T} (g:GRel K H G) (h:G a=some (.lst xs)):∃vs,H a=some (.lst vs)/\Reps K H xs vs:=g a _ h
end
abbrev St3:=List (Option T)
def SRel (K:PySem.W.Frag) (H:Hp) (σ:L2.St) (τ:St3):Prop:=σ.length=τ.length/\∀(i:Nat) (t:T),τ[i]? =some (some t)->∃v,σ[i]? =some (some v)/\Rep K H t v
theorem SRel.mono {K:PySem.W.Frag} {H H':Hp} {σ:L2.St} {τ:St3} (e:Ext H H') (h:SRel K H σ τ):SRel K H' σ τ:=
 ⟨h.1,fun i t q=>let ⟨v,h1,h2⟩:=h.2 i t q;⟨v,h1,Rep.mono e _ h2⟩⟩
theorem SRel.set {K:PySem.W.Frag} {H:Hp} {σ:L2.St} {τ:St3} {t:T} {v:V} (h:SRel K H σ τ) (i:Nat) (r:Rep K H t v):SRel K H (σ.set i (some v)) (τ.set i (some t)):=by
 refine⟨by simp[h.1],fun j u q=> ?_⟩
 by_cases hj:i=j
 ·subst hj
  have hl:i<τ.length:=by
   rcases lKs i τ.length with z | z
   ·exact z
   ·rw[lKa (by simpa using z)] at q;cases q
  rw[lK7 hl] at q
  cases q
  exact⟨v,by rw[lK7 (by rw[h.1];exact hl)],r⟩
 ·rw[lK9 hj] at q ⊢
  exact h.2 j u q
def Inv3 (X:Cx) (pins:List (Addr×Obj)) (τ:St3) (G:Gp) (H:Hp) (s:Shared):Prop:=∃ σ,Inv X pins σ H s/\SRel X.K H σ τ/\GRel X.K H G
abbrev VK3:=T->Gp->Prop
abbrev TE3:=St3->Gp->VK3->Prop
abbrev TT3:=St3->Gp->(Bool->Gp->Prop)->Prop
abbrev TA3:=St3->Gp->(List T->Gp->Prop)->Prop
structure Ends3 where
 nx:St3->Gp->Prop
 rt:VK3
 bk:St3->Gp->Prop:=fun _ _=>False
 ct:St3->Gp->Prop:=fun _ _=>False
abbrev TS3:=Ends3->St3->Gp->Prop
def RU (K:PySem.W.Frag) (H:Hp) (t:T) (u:Value):Prop:=∃v,Rep K H t v/\RelV v u
def RUs (K:PySem.W.Frag) (H:Hp) (ts:List T) (us:List Value):Prop:=∃vs,Reps K H ts vs/\Vals vs us
theorem RU.mono {K:PySem.W.Frag} {H H':Hp} {t:T} {u:Value} (e:Ext H H') (h:RU K H t u):RU K H' t u:=let ⟨v,h1,h2⟩:=h;⟨v,Rep.mono e _ h1,h2⟩
def EP3 (X:Cx) (pins:List (Addr×Obj)) (τ:St3) (H:Hp) (Q:VK3) (u:Value) (s':Shared):Prop:=∃t G' H',Ext H H'/\Inv3 X pins τ G' H' s'/\RU X.K H' t u/\Q t G'
def TP3 (X:Cx) (pins:List (Addr×Obj)) (τ:St3) (H:Hp) (Q:Bool->Gp->Prop) (b:Bool) (s':Shared):Prop:=∃G' H',Ext H H'/\Inv3 X pins τ G' H' s'/\Q b G'
def AP3 (X:Cx) (pins:List (Addr×Obj)) (τ:St3) (H:Hp) (Q:List T->Gp->Prop) (us:List Value) (s':Shared):Prop:=∃ts G' H',Ext H H'/\Inv3 X pins τ G' H' s'/\RUs X.K H' ts us/\Q ts G'
def SP3 (X:Cx) (pins:List (Addr×Obj)) (H:Hp) (D:Ends3) (f:Flow) (s':Shared):Prop:=
 match f with
 | .next=>∃ τ' G' H',Ext H H'/\Inv3 X pins τ' G' H' s'/\D.nx τ' G'
 | .brk=>∃ τ' G' H',Ext H H'/\Inv3 X pins τ' G' H' s'/\D.bk τ' G'
 | .cont=>∃ τ' G' H',Ext H H'/\Inv3 X pins τ' G' H' s'/\D.ct τ' G'
 | .ret u=>∃t τ' G' H',Ext H H'/\Inv3 X pins τ' G' H' s'/\RU X.K H' t u/\D.rt t G'
def PE3 (X:Cx) (e:Expr) (t:TE3):Prop:=∀(pins:List (Addr×Obj)) (s:Shared) (τ:St3) (G:Gp) (H:Hp) (Q:VK3),Inv3 X pins τ G H s->t τ G Q->wpAny (model X.prog X.w) X.A (eval e X.env) (EP3 X pins τ H Q) X.xe s
def PT3 (X:Cx) (e:Expr) (t:TT3):Prop:=∀(pins:List (Addr×Obj)) (s:Shared) (τ:St3) (G:Gp) (H:Hp) (Q:Bool->Gp->Prop),Inv3 X pins τ G H s->t τ G Q->wpAny (model X.prog X.w) X.A (isTrue e X.env (eval e X.env)) (TP3 X pins τ H Q) X.xe s
def PW3 (X:Cx) (e:Expr) (t:TT3):Prop:=∀(whole:Sem Value) (pins:List (Addr×Obj)) (s:Shared) (τ:St3) (G:Gp) (H:Hp) (Q:Bool->Gp->Prop),Inv3 X pins τ G H s->t τ G Q->wpAny (model X.prog X.w) X.A (isTrue e X.env whole) (TP3 X pins τ H Q) X.xe s
theorem PW3.pt {X:Cx} {e:Expr} {t:TT3} (h:PW3 X e t):PT3 X e t:=h _
def PA3 (X:Cx) (es:List Expr) (t:TA3):Prop:=∀(pos:Pos) (pins:List (Addr×Obj)) (s:Shared) (τ:St3) (G:Gp) (H:Hp) (Q:List T->Gp->Prop),Inv3 X pins τ G H s->t τ G Q->wpAny (model X.prog X.w) X.A (spliced (backTo pos (starEach es X.env))) (AP3 X pins τ H Q) X.xe s
def PS3 (X:Cx) (st:Stmt) (t:TS3):Prop:=∀(pins:List (Addr×Obj)) (s:Shared) (τ:St3) (G:Gp) (H:Hp) (D:Ends3),Inv3 X pins τ G H s->t D τ G->wpAny (model X.prog X.w) X.A (exec st X.env) (SP3 X pins H D) X.xe s
def PSs3 (X:Cx) (st:List Stmt) (t:TS3):Prop:=∀(pins:List (Addr×Obj)) (s:Shared) (τ:St3) (G:Gp) (H:Hp) (D:Ends3),Inv3 X pins τ G H s->t D τ G->wpAny (model X.prog X.w) X.A (execs st X.env) (SP3 X pins H D) X.xe s
section
variable {X:Cx} {pins:List (Addr×Obj)} {τ:St3} {G:Gp} {H H1:Hp} {s:Shared} {C:Prop}
theorem EP3.el {Q:VK3} {u:Value} (h:EP3 X pins τ H Q u s) (k:∀t G' H',Ext H H'->Inv3 X pins τ G' H' s->RU X.K H' t u->Q t G'->C):C:=let ⟨t,G',H',a,b,c,d⟩:=h;k t G' H' a b c d
theorem AP3.el {Q:List T->Gp->Prop} {u:List Value} (h:AP3 X pins τ H Q u s) (k:∀t G' H',Ext H H'->Inv3 X pins τ G' H' s->RUs X.K H' t u->Q t G'->C):C:=let ⟨t,G',H',a,b,c,d⟩:=h;k t G' H' a b c d
theorem TP3.el {Q:Bool->Gp->Prop} {u:Bool} (h:TP3 X pins τ H Q u s) (k:∀G' H',Ext H H'->Inv3 X pins τ G' H' s->Q u G'->C):C:=let ⟨G',H',a,b,c⟩:=h;k G' H' a b c
theorem Inv3.el (h:Inv3 X pins τ G H s) (k:∀ σ,Inv X pins σ H s->SRel X.K H σ τ->GRel X.K H G->C):C:=let ⟨σ,a,b,c⟩:=h;k σ a b c
theorem RU.el {K:PySem.W.Frag} {t:T} {u:Value} (h:RU K H t u) (k:∀v,Rep K H t v->RelV v u->C):C:=let ⟨v,a,b⟩:=h;k v a b
theorem RUs.el {K:PySem.W.Frag} {t:List T} {u:List Value} (h:RUs K H t u) (k:∀v,Reps K H t v->Vals v u->C):C:=let ⟨v,a,b⟩:=h;k v a b
end
section
variable {X:Cx} {pins:List (Addr×Obj)} {τ:St3} {G:Gp} {H H1:Hp} {s:Shared}
theorem EP3.ext {Q:VK3} {u:Value} (e:Ext H H1) (h:EP3 X pins τ H1 Q u s):EP3 X pins τ H Q u s:=let ⟨t,G',H',a,b⟩:=h;⟨t,G',H',e.trans a,b⟩
theorem TP3.ext {Q:Bool->Gp->Prop} {u:Bool} (e:Ext H H1) (h:TP3 X pins τ H1 Q u s):TP3 X pins τ H Q u s:=let ⟨G',H',a,b⟩:=h;⟨G',H',e.trans a,b⟩
theorem SP3.ext {D:Ends3} {f:Flow} (e:Ext H H1) (h:SP3 X pins H1 D f s):SP3 X pins H D f s:=by
 cases f with
 | next=>obtain⟨τ',G',H',a,b⟩:=h;exact⟨τ',G',H',e.trans a,b⟩
 | brk=>obtain⟨τ',G',H',a,b⟩:=h;exact⟨τ',G',H',e.trans a,b⟩
 | cont=>obtain⟨τ',G',H',a,b⟩:=h;exact⟨τ',G',H',e.trans a,b⟩
 | ret u=>obtain⟨t,τ',G',H',a,b⟩:=h;exact⟨t,τ',G',H',e.trans a,b⟩
theorem Inv3.tok (I:Inv3 X pins τ G H s) (t:Nat):Inv3 X pins τ G H {s with toks:=t}:=let ⟨σ,I,a,b⟩:=I;⟨σ,I.tok t,a,b⟩
theorem bin3 {a b:Expr} {ta tb:TE3} (ha:PE3 X a ta) (hb:PE3 X b tb) {R:T->T->Gp->Prop} (I:Inv3 X pins τ G H s) (h:ta τ G fun x G1=>tb τ G1 fun y G2=>R x y G2)
  {α:Type} {Q:α->Shared->Prop} {f:Value->Value->Sem α}
  (hf:∀v u s2 x y G2 H2,Ext H H2->Inv3 X pins τ G2 H2 s2->RU X.K H2 x v->RU X.K H2 y u->R x y G2->wpAny (model X.prog X.w) X.A (f v u) Q X.xe s2):
  wpAny (model X.prog X.w) X.A (eval a X.env) (fun v s₁=>wpAny (model X.prog X.w) X.A (eval b X.env) (fun u s₂=>wpAny (model X.prog X.w) X.A (f v u) Q X.xe s₂) X.xe s₁) X.xe s:=by
 refine thn (ha pins s τ G H _ I h) fun v s1 w_=>w_.el fun x G1 H1 e1 I1 r1 q1=> ?_
 refine thn (hb pins s1 τ G1 H1 _ I1 q1) fun u s2 w_=>w_.el fun y G2 H2 e2 I2 r2 q2=> ?_
 exact hf v u s2 x y G2 H2 (e1.trans e2) I2 (r1.mono e2) r2 q2
def up (K:PySem.W.Frag) (H:Hp) (Q:VK3):VK:=fun v H'=>∃t G',Ext H H'/\GRel K H' G'/\Rep K H' t v/\Q t G'
theorem jUf {σ:L2.St} {Q:VK3} {u:Value} (hs:SRel X.K H σ τ) (h:EP X pins σ (up X.K H Q) u s):EP3 X pins τ H Q u s:=
 let ⟨v,H',I',r',t,G',e,g',rt,q⟩:=h
 ⟨t,G',H',e,⟨σ,I',hs.mono e,g'⟩,⟨v,rt,r'⟩,q⟩
end
section
variable {X:Cx} {pos:Pos}
def tVar (i:Nat):TE3:=fun τ G Q=>∃t,τ[i]? =some (some t)/\Q t G
def tC (t:T):TE3:=fun _ G Q=>Q t G
theorem jJb (i:Nat) {x:Str} (hN:X.N[i]? =some x:=by rfl) (hv:Vis X.env.scope x:=by first | exact Or.inl rfl | exact Or.inr (Or.inl rfl) | exact Or.inr (Or.inr rfl))
  (hd:(x == ("__debug__":Str))=false:=by decide) (hcd:(x == ("__classdict__":Str))=false:=by decide):PE3 X (.Name x pos) (tVar i):=by
 rintro pins s τ G H Q ⟨σ,I,hs,hg⟩ ⟨t,e,q⟩
 obtain⟨v,ev,rv⟩:=hs.2 i t e
 exact thn (pe_var hN hv hd hcd pins s σ H (up X.K H Q) I ⟨v,ev,t,G,.refl H,hg,rv,q⟩) fun u s' h=>jUf hs h
theorem jJi {i j}:PE3 X (.Constant (.int i) j pos) (tC (.int i)):=fun pins s τ G H Q ⟨σ,I,hs,hg⟩ q=>
 thn (pe_int pins s σ H (up X.K H Q) I ⟨.int i,G,.refl H,hg,rfl,q⟩) fun u s' h=>jUf hs h
theorem e_bl {b j}:PE3 X (.Constant (.bool b) j pos) (tC (.bl b)):=fun pins s τ G H Q ⟨σ,I,hs,hg⟩ q=>
 thn (pe_bl pins s σ H (up X.K H Q) I ⟨.bl b,G,.refl H,hg,rfl,q⟩) fun u s' h=>jUf hs h
theorem kUf {j}:PE3 X (.Constant .none j pos) (tC .non):=fun pins s τ G H Q ⟨σ,I,hs,hg⟩ q=>
 thn (pe_non pins s σ H (up X.K H Q) I ⟨.non,G,.refl H,hg,rfl,q⟩) fun u s' h=>jUf hs h
theorem kXh {x j}:PE3 X (.Constant (.str x) j pos) (tC (.str x)):=fun pins s τ G H Q ⟨σ,I,hs,hg⟩ q=>
 thn (pe_str pins s σ H (up X.K H Q) I ⟨.str x,G,.refl H,hg,rfl,q⟩) fun u s' h=>jUf hs h
end
abbrev R3:=T->T->Gp->VK3->Prop
def Op3 (X:Cx) (f:Value->Value->Sem Value) (r:R3):Prop:=
 ∀(pins:List (Addr×Obj)) (s:Shared) (τ:St3) (G:Gp) (H:Hp) (x y:T) (v u:Value) (Q:VK3),Inv3 X pins τ G H s->RU X.K H x v->RU X.K H y u->r x y G Q->wpAny (model X.prog X.w) X.A (f v u) (EP3 X pins τ H Q) X.xe s
def Un3 (X:Cx) (f:Value->Sem Value) (r:T->Gp->VK3->Prop):Prop:=
 ∀(pins:List (Addr×Obj)) (s:Shared) (τ:St3) (G:Gp) (H:Hp) (x:T) (v:Value) (Q:VK3),Inv3 X pins τ G H s->RU X.K H x v->r x G Q->wpAny (model X.prog X.w) X.A (f v) (EP3 X pins τ H Q) X.xe s
def Call3 (X:Cx) (f:Value) (r:List T->Gp->VK3->Prop):Prop:=
 ∀(pins:List (Addr×Obj)) (s:Shared) (τ:St3) (G:Gp) (H:Hp) (xs:List T) (us:List Value) (Q:VK3),Inv3 X pins τ G H s->RUs X.K H xs us->r xs G Q->wpAny (model X.prog X.w) X.A (call f us) (EP3 X pins τ H Q) X.xe s
def Mt3 (X:Cx) (id:String) (r:T->List T->Gp->VK3->Prop):Prop:=
 ∀(pins:List (Addr×Obj)) (s:Shared) (τ:St3) (G:Gp) (H:Hp) (x:T) (xs:List T) (v:Value) (us:List Value) (Q:VK3),Inv3 X pins τ G H s->RU X.K H x v->RUs X.K H xs us->r x xs G Q->
  wpAny (model X.prog X.w) X.A (call (.builtin id) (v::us)) (EP3 X pins τ H Q) X.xe s
def Ix3 (X:Cx) (r:R3):Prop:=
 ∀(value slice:Expr) (pins:List (Addr×Obj)) (s:Shared) (τ:St3) (G:Gp) (H:Hp) (x y:T) (v u:Value) (Q:VK3),Inv3 X pins τ G H s->RU X.K H x v->RU X.K H y u->r x y G Q->
  subscripted slice false v u=operate [v,u] (getItem v u)->wpAny (model X.prog X.w) X.A (subscriptTail value slice v u) (EP3 X pins τ H Q) X.xe s
def Set3 (X:Cx) (r:T->T->T->Gp->(Gp->Prop)->Prop):Prop:=
 ∀(pins:List (Addr×Obj)) (s:Shared) (τ:St3) (G:Gp) (H:Hp) (o i v:T) (ov iv u:Value) (Q:Gp->Prop),Inv3 X pins τ G H s->RU X.K H o ov->RU X.K H i iv->RU X.K H v u->r o i v G Q->
  wpAny (model X.prog X.w) X.A (setItem ov iv u) (fun _ s'=>∃G' H',Ext H H'/\Inv3 X pins τ G' H' s'/\Q G') X.xe s
def Tru3 (X:Cx) (r:T->Gp->(Bool->Gp->Prop)->Prop):Prop:=
 ∀(pins:List (Addr×Obj)) (s:Shared) (τ:St3) (G:Gp) (H:Hp) (x:T) (v:Value) (Q:Bool->Gp->Prop),Inv3 X pins τ G H s->RU X.K H x v->r x G Q->wpAny (model X.prog X.w) X.A (truthy v) (TP3 X pins τ H Q) X.xe s
section
variable {X:Cx}
theorem Op3.of {f:Value->Value->Sem Value} {r:R2} {r3:R3} (h:OpR X f r)
  (hr:∀H G x y a b Q,GRel X.K H G->Rep X.K H x a->Rep X.K H y b->r3 x y G Q->r a b H (up X.K H Q)):Op3 X f r3:=by
 rintro pins s τ G H x y v u Q ⟨σ,I,hs,hg⟩ ⟨a,ra,rv⟩ ⟨b,rb,ru⟩ q
 exact thn (h pins s σ H a b v u _ I rv ru (hr H G x y a b Q hg ra rb q)) fun u s' h=>jUf hs h
theorem Un3.of {f:Value->Sem Value} {r:V->Hp->VK->Prop} {r3:T->Gp->VK3->Prop} (h:UnR X f r)
  (hr:∀H G x a Q,GRel X.K H G->Rep X.K H x a->r3 x G Q->r a H (up X.K H Q)):Un3 X f r3:=by
 rintro pins s τ G H x v Q ⟨σ,I,hs,hg⟩ ⟨a,ra,rv⟩ q
 exact thn (h pins s σ H a v _ I rv (hr H G x a Q hg ra q)) fun u s' h=>jUf hs h
theorem Call3.of {f:Value} {r:List V->Hp->VK->Prop} {r3:List T->Gp->VK3->Prop} (h:jZo X f r)
  (hr:∀H G xs as Q,GRel X.K H G->Reps X.K H xs as->r3 xs G Q->r as H (up X.K H Q)):Call3 X f r3:=by
 rintro pins s τ G H xs us Q ⟨σ,I,hs,hg⟩ ⟨as,ra,rv⟩ q
 exact thn (h pins s σ H as us _ I rv (hr H G xs as Q hg ra q)) fun u s' h=>jUf hs h
theorem Mt3.of {id:String} {r:V->List V->Hp->VK->Prop} {r3:T->List T->Gp->VK3->Prop} (h:MtR X id r)
  (hr:∀H G x xs a as Q,GRel X.K H G->Rep X.K H x a->Reps X.K H xs as->r3 x xs G Q->r a as H (up X.K H Q)):Mt3 X id r3:=by
 rintro pins s τ G H x xs v us Q ⟨σ,I,hs,hg⟩ ⟨a,ra,rv⟩ ⟨as,ras,rvs⟩ q
 exact thn (h pins s σ H a as v us _ I rv rvs (hr H G x xs a as Q hg ra ras q)) fun u s' h=>jUf hs h
theorem Ix3.of {r:R2} {r3:R3} (h:IxR X r)
  (hr:∀H G x y a b Q,GRel X.K H G->Rep X.K H x a->Rep X.K H y b->r3 x y G Q->r a b H (up X.K H Q)):Ix3 X r3:=by
 rintro value slice pins s τ G H x y v u Q ⟨σ,I,hs,hg⟩ ⟨a,ra,rv⟩ ⟨b,rb,ru⟩ q hh
 exact thn (h value slice pins s σ H a b v u _ I rv ru (hr H G x y a b Q hg ra rb q) hh) fun u s' h=>jUf hs h
theorem Set3.of {t:TSet} {r3:T->T->T->Gp->(Gp->Prop)->Prop} (h:PSet X t)
  (hr:∀H G o i v a b c Q,GRel X.K H G->Rep X.K H o a->Rep X.K H i b->Rep X.K H v c->r3 o i v G Q->t a b c H (fun H'=>∃G',Ext H H'/\GRel X.K H' G'/\Q G')):Set3 X r3:=by
 rintro pins s τ G H o i v ov iv u Q ⟨σ,I,hs,hg⟩ ⟨a,ra,rv⟩ ⟨b,rb,ru⟩ ⟨c,rc,rw'⟩ q
 exact thn (h pins s σ H a b c ov iv u _ I rv ru rw' (hr H G o i v a b c Q hg ra rb rc q)) fun _ s' ⟨H',I',G',e,g',q'⟩=>⟨G',H',e,⟨σ,I',hs.mono e,g'⟩,q'⟩
theorem Tru3.of {r:V->Hp->(Bool->Hp->Prop)->Prop} {r3:T->Gp->(Bool->Gp->Prop)->Prop} (h:TruR X r)
  (hr:∀H G x a Q,GRel X.K H G->Rep X.K H x a->r3 x G Q->r a H (fun b H'=>H'=H/\Q b G)):Tru3 X r3:=by
 rintro pins s τ G H x v Q ⟨σ,I,hs,hg⟩ ⟨a,ra,rv⟩ q
 exact thn (h pins s σ H a v _ I rv (hr H G x a Q hg ra q)) fun b s' ⟨H',I',e,q'⟩=>by
  subst e;exact⟨G,H',.refl _,⟨σ,I',hs,hg⟩,q'⟩
theorem Op3.or {f:Value->Value->Sem Value} {r r':R3} (h:Op3 X f r) (h':Op3 X f r'):Op3 X f (fun x y G Q=>r x y G Q\/r' x y G Q):=by
 intro pins s τ G H x y v u Q I rx ry q
 rcases q with q | q
 ·exact h pins s τ G H x y v u Q I rx ry q
 ·exact h' pins s τ G H x y v u Q I rx ry q
def rI (C:Int->Int->Prop) (g:Int->Int->T):R3:=fun x y G Q=>∃i j,x= .int i/\y= .int j/\C i j/\Q (g i j) G
def rI0 (g:Int->Int->T):R3:=fun x y G Q=>∃i j,x= .int i/\y= .int j/\Q (g i j) G
theorem o_I {f:Value->Value->Sem Value} {C:Int->Int->Prop} {g:Int->Int->V} {g':Int->Int->T} (h:OpR X f (L2.rI C g)) (hg':∀K H i j,Rep K H (g' i j) (g i j)):Op3 X f (rI C g'):=
 Op3.of h fun H G x y a b Q hg ra rb ⟨i,j,ex,ey,c,q⟩=>by
  subst ex;subst ey
  cases (show a= .int i from ra);cases (show b= .int j from rb)
  exact⟨i,j,rfl,rfl,c,g' i j,G,.refl H,hg,hg' _ _ i j,q⟩
theorem o_I0 {f:Value->Value->Sem Value} {g:Int->Int->V} {g':Int->Int->T} (h:OpR X f (L2.rI0 g)) (hg':∀K H i j,Rep K H (g' i j) (g i j)):Op3 X f (rI0 g'):=
 Op3.of h fun H G x y a b Q hg ra rb ⟨i,j,ex,ey,q⟩=>by
  subst ex;subst ey
  cases (show a= .int i from ra);cases (show b= .int j from rb)
  exact⟨i,j,rfl,rfl,g' i j,G,.refl H,hg,hg' _ _ i j,q⟩
theorem o_add:Op3 X (binaryOp .Add) (rI0 fun i j=> .int (i+j)):=o_I0 op_add fun _ _ _ _=>rfl
theorem kKx:Op3 X (binaryOp .Sub) (rI0 fun i j=> .int (i-j)):=o_I0 op_sub fun _ _ _ _=>rfl
theorem o_mul:Op3 X (binaryOp .Mult) (rI CMul fun i j=> .int (i*j)):=o_I op_mul fun _ _ _ _=>rfl
theorem qUg:Op3 X (binaryOp .FloorDiv) (rI CDiv fun i j=> .int (i / j)):=o_I qVe fun _ _ _ _=>rfl
theorem jYx:Op3 X (binaryOp .Mod) (rI (fun _ j=>0<j) fun i j=> .int (i%j)):=o_I op_mod fun _ _ _ _=>rfl
theorem o_pow:Op3 X (binaryOp .Pow) (rI CPow fun i j=> .int (i^j.toNat)):=o_I op_pow fun _ _ _ _=>rfl
theorem o_lt:Op3 X (compareOp .Lt) (rI0 fun i j=> .bl (decide (i<j))):=o_I0 op_lt fun _ _ _ _=>rfl
theorem o_le:Op3 X (compareOp .LtE) (rI0 fun i j=> .bl (decide (i<=j))):=o_I0 op_le fun _ _ _ _=>rfl
theorem o_gt:Op3 X (compareOp .Gt) (rI0 fun i j=> .bl (decide (j<i))):=o_I0 op_gt fun _ _ _ _=>rfl
theorem o_ge:Op3 X (compareOp .GtE) (rI0 fun i j=> .bl (decide (j<=i))):=o_I0 op_ge fun _ _ _ _=>rfl
def kK1:T->Bool
 | .non=>true
 | _=>false
theorem Rep.non_iff {K:PySem.W.Frag} {H:Hp} {x:T} {a:V} (r:Rep K H x a):decide (a= .non)=kK1 x:=by
 cases x with
 | non=>cases (show a= .non from r);rfl
 | bl b=>cases (show a= .bl b from r);rfl
 | int b=>cases (show a= .int b from r);rfl
 | str b=>cases (show a= .str b from r);rfl
 | ref b=>cases (show a= .ref b from r);rfl
 | ty b=>cases (show a= .ty b from r);rfl
 | tup b=>obtain⟨_,_,e,_⟩:=(show ∃c vs,a= .ref c/\_ from r);subst e;rfl
 | scr b=>obtain⟨_,_,e,_⟩:=(show ∃c vs,a= .ref c/\_ from r);subst e;rfl
theorem qVk:Op3 X (compareOp .Is) (fun x y G Q=>y= .non/\Q (.bl (kK1 x)) G):=
 Op3.of op_isN fun H G x y a b Q hg ra rb ⟨ey,q⟩=>by
  subst ey;cases (show b= .non from rb)
  exact⟨rfl,.bl (kK1 x),G,.refl H,hg,by rw[ra.non_iff];rfl,q⟩
theorem o_notN:Op3 X (compareOp .IsNot) (fun x y G Q=>y= .non/\Q (.bl (!kK1 x)) G):=
 Op3.of qVd fun H G x y a b Q hg ra rb ⟨ey,q⟩=>by
  subst ey;cases (show b= .non from rb)
  exact⟨rfl,.bl (!kK1 x),G,.refl H,hg,by rw[ra.non_iff];rfl,q⟩
end
def tOp (r:R3) (ta tb:TE3):TE3:=fun τ G Q=>ta τ G fun x G1=>tb τ G1 fun y G2=>r x y G2 Q
def tUn (r:T->Gp->VK3->Prop) (ta:TE3):TE3:=fun τ G Q=>ta τ G fun x G1=>r x G1 Q
def jJt (t:TE3):TT3:=fun τ G Q=>t τ G fun x G1=>∃c,x= .bl c/\Q c G1
def tAnd (t u:TT3):TT3:=fun τ G Q=>t τ G fun c G1=>if c=true then u τ G1 Q else Q false G1
def tOr (t u:TT3):TT3:=fun τ G Q=>t τ G fun c G1=>if c=true then Q true G1 else u τ G1 Q
def tNot (t:TT3):TT3:=fun τ G Q=>t τ G fun c G1=>Q (!c) G1
def jZi (ta tb:TE3):TE3:=fun τ G Q=>ta τ G fun x G1=>∃c,x= .bl c/\if c=true then tb τ G1 Q else Q (.bl false) G1
def tOrV (ta tb:TE3):TE3:=fun τ G Q=>ta τ G fun x G1=>∃c,x= .bl c/\if c=true then Q (.bl true) G1 else tb τ G1 Q
def tNotV (ta:TE3):TE3:=fun τ G Q=>ta τ G fun x G1=>∃c,x= .bl c/\Q (.bl (!c)) G1
def tIf (t:TT3) (ta tb:TE3):TE3:=fun τ G Q=>t τ G fun c G1=>if c=true then ta τ G1 Q else tb τ G1 Q
noncomputable def kUt (r r':R3) (ta tb tc:TE3):TE3:=fun τ G Q=>ta τ G fun x G1=>tb τ G1 fun y G2=>r x y G2 fun z G3=>∃k,z= .bl k/\if k=true then tc τ G3 (fun w G4=>r' y w G4 Q) else Q (.bl false) G3
def tNil:TA3:=fun _ G Q=>Q [] G
def jJc (ta:TE3) (tr:TA3):TA3:=fun τ G Q=>ta τ G fun x G1=>tr τ G1 fun xs G2=>Q (x::xs) G2
def tTup (t:TA3):TE3:=fun τ G Q=>t τ G fun xs G1=>xs.length<=sizeLine/\Q (.tup xs) G1
def tLst (t:TA3):TE3:=fun τ G Q=>t τ G fun xs G1=>xs.length<=sizeLine/\∀p,G1 p=none->Q (.ref p) (gup G1 p (.lst xs))
def tCB (r:List T->Gp->VK3->Prop) (t:TA3):TE3:=fun τ G Q=>t τ G fun xs G1=>r xs G1 Q
section
variable {X:Cx} {a b c:Expr} {ta tb tc:TE3} {tA tB:TT3} {pos:Pos} {rest es:List Expr} {t:TA3}
theorem e_op {op:Operator} {r:R3} (ho:Op3 X (binaryOp op) r) (ha:PE3 X a ta) (hb:PE3 X b tb):PE3 X (.BinOp a op b pos) (tOp r ta tb):=by
 intro pins s τ G H Q I h
 exact wpAny_BinOp (bin3 ha hb I h fun v u s2 x y G2 H2 e I2 rx ry q=>thn (ho pins s2 τ G2 H2 x y v u Q I2 rx ry q) fun _ _ z=>z.ext e)
theorem e_un {op:UnaryOp} {r:T->Gp->VK3->Prop} (ho:Un3 X (unaryOp op) r) (ha:PE3 X a ta):PE3 X (.UnaryOp op a pos) (tUn r ta):=by
 intro pins s τ G H Q I h
 exact UnaryOp_ (thn (ha pins s τ G H _ I h) fun v s1 w_=>w_.el fun x G1 H1 e I1 r1 q1=>thn (ho pins s1 τ G1 H1 x v Q I1 r1 q1) fun _ _ z=>z.ext e)
theorem kQa {op:CmpOp} {r:R3} (ho:Op3 X (compareOp op) r) (ha:PE3 X a ta) (hb:PE3 X b tb) (hm:behindInMarks op b=false):PE3 X (.Compare a [op] [b] pos) (tOp r ta tb):=by
 intro pins s τ G H Q I h
 exact wpAny_Compare1 (bin3 ha hb I h fun v u s2 x y G2 H2 e I2 rx ry q=>thn (ho pins s2 τ G2 H2 x y v u Q I2 rx ry q) fun _ _ z=>z.ext e) hm
theorem jJ7 {op:CmpOp} {r:R3} (ho:Op3 X (compareOp op) r) (ha:PE3 X a ta) (hb:PE3 X b tb) (hm:behindInMarks op b=false):PT3 X (.Compare a [op] [b] pos) (jJt (tOp r ta tb)):=by
 intro pins s τ G H Q I h
 refine wpAny_isTrue_Compare1 (bin3 ha hb I h fun v u s2 x y G2 H2 e I2 rx ry q=>thn (ho pins s2 τ G2 H2 x y v u _ I2 rx ry q) fun w' s3 w_=>w_.el fun z G3 H3 e3 I3 r3 ⟨k,ez,q3⟩=> ?_) hm
 subst ez
 obtain⟨v',rv',ru'⟩:=r3
 cases (show v'= .bl k from rv');cases ru'
 exact lVa ⟨G3,H3,e.trans e3,I3,q3⟩
theorem kQq {e:Expr} {t:TE3} (h:PE3 X e t) (he:∀whole,isTrue e X.env whole=(do let v <-whole;standAt e.pos;holding [v] (truthy v)):=by intro _;rfl):PT3 X e (jJt t):=by
 intro pins s τ G H Q I hw
 refine isTrue_plain (thn (h pins s τ G H _ I hw) fun v s1 w_=>w_.el fun x G1 H1 e1 I1 r1 ⟨k,ez,q1⟩=> ?_) (he _)
 subst ez
 obtain⟨v',rv',ru'⟩:=r1
 cases (show v'= .bl k from rv');cases ru'
 exact lVa ⟨G1,H1,e1,I1,q1⟩
def tTru (r:T->Gp->(Bool->Gp->Prop)->Prop) (t:TE3):TT3:=fun τ G Q=>t τ G fun x G1=>r x G1 Q
theorem t_tru {e:Expr} {t:TE3} {r:T->Gp->(Bool->Gp->Prop)->Prop} (hr:Tru3 X r) (h:PE3 X e t) (he:∀whole,isTrue e X.env whole=(do let v <-whole;standAt e.pos;holding [v] (truthy v)):=by intro _;rfl):PT3 X e (tTru r t):=by
 intro pins s τ G H Q I hw
 exact isTrue_plain (thn (h pins s τ G H _ I hw) fun v s1 w_=>w_.el fun x G1 H1 e1 I1 r1 q1=>thn (hr pins s1 τ G1 H1 x v Q I1 r1 q1) fun _ _ z=>z.ext e1) (he _)
theorem kXr (ha:PT3 X a tA):PW3 X (.BoolOp .And [a] pos) tA:=by
 intro wh pins s τ G H Q I h
 refine isTrue_and (thn (ha pins s τ G H Q I h) fun c s1 e=> ?_)
 cases c with
 | true=>exact isTrue_and_nil e
 | false=>exact e
theorem kJ9 (ha:PT3 X a tA):PW3 X (.BoolOp .Or [a] pos) tA:=by
 intro wh pins s τ G H Q I h
 refine isTrue_or (thn (ha pins s τ G H Q I h) fun c s1 e=> ?_)
 cases c with
 | false=>exact isTrue_or_nil e
 | true=>exact e
theorem qUu (ha:PT3 X a tA) (hb:PW3 X (.BoolOp .And (b::rest) pos) tB):PW3 X (.BoolOp .And (a::b::rest) pos) (tAnd tA tB):=by
 intro wh pins s τ G H Q I h
 refine isTrue_and (thn (ha pins s τ G H _ I h) fun c s1 w_=>w_.el fun G1 H1 e1 I1 q1=> ?_)
 cases c with
 | true=>exact thn (hb wh pins s1 τ G1 H1 Q I1 q1) fun _ _ z=>z.ext e1
 | false=>exact⟨G1,H1,e1,I1,q1⟩
theorem w_or (ha:PT3 X a tA) (hb:PW3 X (.BoolOp .Or (b::rest) pos) tB):PW3 X (.BoolOp .Or (a::b::rest) pos) (tOr tA tB):=by
 intro wh pins s τ G H Q I h
 refine isTrue_or (thn (ha pins s τ G H _ I h) fun c s1 w_=>w_.el fun G1 H1 e1 I1 q1=> ?_)
 cases c with
 | true=>exact⟨G1,H1,e1,I1,q1⟩
 | false=>exact thn (hb wh pins s1 τ G1 H1 Q I1 q1) fun _ _ z=>z.ext e1
theorem kKd (ha:PT3 X a tA):PT3 X (.UnaryOp .Not a pos) (tNot tA):=by
 intro pins s τ G H Q I h
 exact isTrue_not (thn (ha pins s τ G H (fun c G1=>Q (!c) G1) I h) fun c s1 w_=>w_.el fun G1 H1 e1 I1 q1=>⟨G1,H1,e1,I1,q1⟩)
theorem kZz {op} {t:TE3} (h:PE3 X a t):PE3 X (.BoolOp op [a] pos) t:=fun pins s τ G H Q I hw=>BoolOp_one (h pins s τ G H Q I hw)
theorem kUh (ha:PE3 X a ta) (hb:PE3 X (.BoolOp .And (b::rest) pos) tb):PE3 X (.BoolOp .And (a::b::rest) pos) (jZi ta tb):=by
 intro pins s τ G H Q I h
 refine BoolOp_and (thn (ha pins s τ G H _ I h) fun v s1 w_=>w_.el fun x G1 H1 e1 I1 r1 ⟨k,ez,q1⟩=> ?_)
 subst ez
 obtain⟨v',rv',ru'⟩:=r1
 cases (show v'= .bl k from rv');cases ru'
 refine lVa ?_
 cases k with
 | true=>exact thn (hb pins s1 τ G1 H1 Q I1 q1) fun _ _ z=>z.ext e1
 | false=>exact⟨.bl false,G1,H1,e1,I1,⟨.bl false,rfl,rfl⟩,q1⟩
theorem kUg (hc:PT3 X c tA) (ha:PE3 X a ta) (hb:PE3 X b tb):PE3 X (.IfExp c a b pos) (tIf tA ta tb):=by
 intro pins s τ G H Q I h
 refine IfExp_ (thn (hc pins s τ G H _ I h) fun k s1 w_=>w_.el fun G1 H1 e1 I1 q1=> ?_)
 cases k with
 | true=>exact thn (ha pins s1 τ G1 H1 Q I1 q1) fun _ _ z=>z.ext e1
 | false=>exact thn (hb pins s1 τ G1 H1 Q I1 q1) fun _ _ z=>z.ext e1
theorem jJd:PA3 X [] tNil:=fun _ _ _ _ G H Q I h=>Calls.spliced_nil ⟨[],G,H,.refl H,I,⟨[],rfl,.nil⟩,h⟩
theorem jJa {e:Expr} {te:TE3} (ha:PE3 X e te) (hr:PA3 X es t) (hs:starEach (e::es) X.env=(false,eval e X.env)::starEach es X.env:=by rfl):PA3 X (e::es) (jJc te t):=by
 intro pos pins s τ G H Q I h
 rw[hs]
 show wpAny _ _ (spliced ((false,eval e X.env)::backTo pos (starEach es X.env))) _ _ s
 refine Calls.spliced_cons (thn (ha pins s τ G H _ I h) fun u s1 w_=>w_.el fun x G1 H1 e1 I1 r1 q1=> ?_)
 refine thn (hr pos pins s1 τ G1 H1 _ I1 q1) fun us s2 w_=>w_.el fun xs G2 H2 e2 I2 r_ q2=>r_.el fun vs rs rv=> ?_
 obtain⟨v,rr,rvv⟩:=r1.mono e2
 exact⟨x::xs,G2,H2,e1.trans e2,I2,⟨v::vs,⟨v,vs,rfl,rr,rs⟩,.cons rvv rv⟩,q2⟩
theorem jJ2 {x1} (h:PA3 X es t):PE3 X (.Tuple es x1 pos) (tTup t):=by
 intro pins s τ G H Q I hq
 refine wpAny_Tuple_spliced (thn (h pos pins s τ G H _ I hq) fun us s1 w_=>w_.el fun xs G1 H1 e1 i_ r_ ⟨z,q⟩=>i_.el fun σ I1 hs1 hg1=>r_.el fun vs rs rv=>⟨by rw[<-rv.length,<-rs.length];exact z,?_⟩)
 have hf:H1 s1.heap.objs.size=none:=I1.hok.fresh (lJe _)
 have e2:Ext H1 (upd H1 s1.heap.objs.size (.tup vs)):= .upd (.none hf)
 refine⟨.tup xs,G1,upd H1 s1.heap.objs.size (.tup vs),e1.trans e2,⟨σ,I1.laid (t':=s1.toks) (fun b u e=>lJo _ e) (lJe _) ?_,hs1.mono e2,hg1.tupNew hf⟩,⟨.ref s1.heap.objs.size,Rep.tupNew rs hf,rfl⟩,q⟩
 exact⟨by rw[<-rs.length];exact z,us,rv,⟨_,lJ5 _ rfl,rfl,_,rfl,rfl⟩⟩
theorem jKy (h:PA3 X es t):PE3 X (.List es pos) (tLst t):=by
 intro pins s τ G H Q I hq
 refine wpAny_List_spliced (thn (h pos pins s τ G H _ I hq) fun us s1 w_=>w_.el fun xs G1 H1 e1 i_ r_ ⟨z,q⟩=>i_.el fun σ I1 hs1 hg1=>r_.el fun vs rs rv=>⟨by rw[<-rv.length,<-rs.length];exact z,?_⟩)
 have hf:H1 s1.heap.objs.size=none:=I1.hok.fresh (lJe _)
 have e2:Ext H1 (upd H1 s1.heap.objs.size (.lst vs)):= .upd (.none hf)
 refine⟨.ref s1.heap.objs.size,gup G1 s1.heap.objs.size (.lst xs),upd H1 s1.heap.objs.size (.lst vs),e1.trans e2,⟨σ,I1.laid (t':=s1.toks) (fun b u e=>lJo _ e) (lJe _) ?_,hs1.mono e2,hg1.lstNew rs (.none hf)⟩,⟨.ref s1.heap.objs.size,rfl,rfl⟩,q _ (hg1.fresh hf)⟩
 exact⟨by rw[<-rs.length];exact z,us,0,rv,lJ5 _ rfl⟩
theorem e_ix {r:R3} (hr:Ix3 X r) (ha:PE3 X a ta) (hb:PE3 X b tb) (hs:qXl b):PE3 X (.Subscript a b pos) (tOp r ta tb):=by
 intro pins s τ G H Q I h
 exact Subscript_ (bin3 ha hb I h fun v u s2 x y G2 H2 e I2 rx ry q=>thn (hr a b pins s2 τ G2 H2 x y v u Q I2 rx ry q (hs _ _)) fun _ _ z=>z.ext e)
def rIx:R3:=fun x y G Q=>∃xs i t,seqT G x=some xs/\y= .int i/\atI xs i=some t/\Q t G
theorem jV6 {o:Option GO} {xs:List T} (h:asL o=some xs):o=some (.lst xs):=by
 cases o with
 | none=>cases h
 | some g=>cases g with
  | lst ys=>cases h;rfl
  | dct _=>cases h
  | dck _=>cases h
  | fdc _=>cases h
  | ins _ _=>cases h
  | exc _=>cases h
  | tb _ _ _=>cases h
theorem jQy {K:PySem.W.Frag} {H:Hp} {G:Gp} {x:T} {a:V} {xs:List T} (hg:GRel K H G) (r:Rep K H x a) (h:seqT G x=some xs):
  ∃p vs,a= .ref p/\(SqL K H p vs\/SqT K H p vs)/\Reps K H xs vs:=by
 cases x with
 | tup ys=>cases h;obtain⟨p,vs,e,h1,h2⟩:=(show ∃p vs,a= .ref p/\H p=some (.tup vs)/\Reps K H xs vs from r);exact⟨p,vs,e,.inr (.of h1),h2⟩
 | scr ys=>cases h;obtain⟨p,vs,e,h1,h2⟩:=(show ∃p vs,a= .ref p/\FrL K H p vs/\Reps K H xs vs from r);exact⟨p,vs,e,.inl h1.sq,h2⟩
 | ref p=>
  obtain⟨vs,h1,h2⟩:=hg.lst (jV6 h)
  exact⟨p,vs,r,.inl (.of h1),h2⟩
 | non=>cases h
 | bl _=>cases h
 | int _=>cases h
 | str _=>cases h
 | ty _=>cases h
theorem ix_any:Ix3 X rIx:=
 Ix3.of (ix_list.or ix_tup) fun H G x y a b Q hg ra rb ⟨xs,i,t,hx,ey,ht,q⟩=>by
  subst ey;cases (show b= .int i from rb)
  obtain⟨p,vs,e,hq,r⟩:=jQy hg ra hx
  subst e
  obtain⟨v,hv,rv⟩:=r.atI ht
  rcases hq with hq | hq
  ·exact .inl ⟨p,vs,i,v,rfl,rfl,hq,hv,t,G,.refl H,hg,rv,q⟩
  ·exact .inr ⟨p,vs,i,v,rfl,rfl,hq,hv,t,G,.refl H,hg,rv,q⟩
theorem jJp {id:String} {r:List T->Gp->VK3->Prop} {x:Str} {p:Pos} {e:Expr} (hc:Call3 X (.builtin id) r) (hg:Gl X x) (hm:X.mg x=none) (hv:bootBuiltins x=some (.builtin id)) (ha:PA3 X (e::es) t) (hn:x≠"__name__":=by decide) (hdb:(x == ("__debug__":Str))=false:=by decide)
  (he:starEach (e::es) X.env=(false,eval e X.env)::starEach es X.env:=by rfl) (hpl:(backTo pos (starEach es X.env)).any (·.1)=false:=by rfl):PE3 X (.Call (.Name x p) (e::es) [] pos) (tCB r t):=by
 intro pins s τ G H Q I h
 obtain⟨σ,I0,hs0,hg0⟩:=_root_.id I
 refine lVd (jUk I0 hg hm hv ?_ hn hdb)
 exact PyProof.Rows.callWith_builtin1 (thn (ha pos pins s τ G H _ I h) fun us s1 w_=>w_.el fun xs G1 H1 e1 I1 r1 q1=>thn (hc pins s1 τ G1 H1 xs us Q I1 r1 q1) fun _ _ z=>z.ext e1) he hpl
theorem jJ1 {T0:String} {r:List T->Gp->VK3->Prop} {x:Str} {p:Pos} {e:Expr} (hc:Call3 X (.type T0) r) (hg:Gl X x) (hm:X.mg x=none) (hv:bootBuiltins x=some (.type T0)) (ha:PA3 X (e::es) t) (hn:x≠"__name__":=by decide) (hdb:(x == ("__debug__":Str))=false:=by decide)
  (he:starEach (e::es) X.env=(false,eval e X.env)::starEach es X.env:=by rfl) (hpl:(backTo pos (starEach es X.env)).any (·.1)=false:=by rfl):PE3 X (.Call (.Name x p) (e::es) [] pos) (tCB r t):=by
 intro pins s τ G H Q I h
 obtain⟨σ,I0,hs0,hg0⟩:=_root_.id I
 refine lVd (jUk I0 hg hm hv ?_ hn hdb)
 exact lQ5 (thn (ha pos pins s τ G H _ I h) fun us s1 w_=>w_.el fun xs G1 H1 e1 I1 r1 q1=>thn (hc pins s1 τ G1 H1 xs us Q I1 r1 q1) fun _ _ z=>z.ext e1) he hpl
theorem jQo {K:PySem.W.Frag} {H:Hp} {x:T} {vs:List V} (h:Reps K H [x] vs):∃v,vs=[v]/\Rep K H x v:=by
 obtain⟨v,ws,rfl,r,e⟩:=h;cases e;exact⟨v,rfl,r⟩
theorem kYb {K:PySem.W.Frag} {H:Hp} {x y:T} {vs:List V} (h:Reps K H [x,y] vs):∃v w,vs=[v,w]/\Rep K H x v/\Rep K H y w:=by
 obtain⟨v,ws,rfl,r,w,ws2,rfl,r2,e⟩:=h;cases e;exact⟨v,w,rfl,r,r2⟩
def rLen:List T->Gp->VK3->Prop:=fun xs G Q=>∃x ys,xs=[x]/\seqT G x=some ys/\Q (.int ys.length) G
theorem jQg:Call3 X (.builtin "len") rLen:=
 Call3.of kQe fun H G xs as Q hg ra ⟨x,ys,e,hx,q⟩=>by
  subst e
  obtain⟨v,rfl,rv⟩:=jQo ra
  obtain⟨p,vs,rfl,hq,r⟩:=jQy hg rv hx
  exact⟨p,vs,rfl,hq,.int ys.length,G,.refl H,hg,by rw[r.length];rfl,q⟩
def rAbs:List T->Gp->VK3->Prop:=fun xs G Q=>∃i,xs=[.int i]/\Q (.int (if i<0 then -i else i)) G
theorem c_abs:Call3 X (.builtin "abs") rAbs:=
 Call3.of qQx fun H G xs as Q hg ra ⟨i,e,q⟩=>by
  subst e
  obtain⟨v,rfl,rv⟩:=jQo ra
  cases (show v= .int i from rv)
  exact⟨i,rfl,.int _,G,.refl H,hg,rfl,q⟩
def rMax:List T->Gp->VK3->Prop:=fun xs G Q=>∃i j,xs=[.int i,.int j]/\Q (.int (if j>i then j else i)) G
theorem qXh (hc:X.calm=true):Call3 X (.builtin "max") rMax:=
 Call3.of (qJf hc) fun H G xs as Q hg ra ⟨i,j,e,q⟩=>by
  subst e
  obtain⟨v,w,rfl,rv,rw'⟩:=kYb ra
  cases (show v= .int i from rv);cases (show w= .int j from rw')
  exact⟨i,j,rfl,.int _,G,.refl H,hg,rfl,q⟩
def kUz:List T->Gp->VK3->Prop:=fun xs G Q=>∃k,xs=[.bl k]/\Q (.int (if k then 1 else 0)) G
theorem c_int:Call3 X (.type "int") kUz:=
 Call3.of qJg fun H G xs as Q hg ra ⟨k,e,q⟩=>by
  subst e
  obtain⟨v,rfl,rv⟩:=jQo ra
  cases (show v= .bl k from rv)
  exact .inr ⟨k,rfl,.int _,G,.refl H,hg,rfl,q⟩
def qU9:List T->Gp->VK3->Prop:=fun xs G Q=>∃i j,xs=[.int i,.int j]/\CDiv i j/\Q (.tup [.int (i / j),.int (i%j)]) G
def kJq:List T->Gp->VK3->Prop:=fun xs G Q=>∃x ys,xs=[x]/\seqT G x=some ys/\∀p,G p=none->Q (.ref p) (gup G p (.lst ys))
theorem c_list:Call3 X (.type "list") kJq:=
 Call3.of kQd fun H G xs as Q hg ra ⟨x,ys,e,hx,q⟩=>by
  subst e
  obtain⟨v,rfl,rv⟩:=jQo ra
  obtain⟨p,vs,rfl,hq,r⟩:=jQy hg rv hx
  exact⟨p,vs,rfl,hq,fun l hl=>⟨.ref l,_,.upd (.none hl),hg.lstNew r (.none hl),rfl,q l (hg.fresh hl)⟩⟩
def jJz:List T->Gp->VK3->Prop:=fun xs G Q=>∃x ys,xs=[x]/\seqT G x=some ys/\Q (.tup ys) G
theorem jKs:Call3 X (.type "tuple") jJz:=
 Call3.of kJ6 fun H G xs as Q hg ra ⟨x,ys,e,hx,q⟩=>by
  subst e
  obtain⟨v,rfl,rv⟩:=jQo ra
  obtain⟨p,vs,rfl,hq,r⟩:=jQy hg rv hx
  cases x with
  | tup zs=>
   cases hx
   obtain⟨p',vs',e',h1,h2⟩:=(show ∃p' vs',V.ref p= .ref p'/\H p'=some (.tup vs')/\Reps X.K H ys vs' from rv)
   cases e'
   exact⟨p,vs',rfl,.inr ⟨.of h1,.tup ys,G,.refl H,hg,⟨p,vs',rfl,h1,h2⟩,q⟩⟩
  | scr zs=>
   cases hx
   obtain⟨p',vs',e',h1,h2⟩:=(show ∃p' vs',V.ref p= .ref p'/\FrL X.K H p' vs'/\Reps X.K H ys vs' from rv)
   cases e'
   exact⟨p,vs',rfl,.inl ⟨h1.sq,fun l hl=>⟨.tup ys,G,.upd (.none hl),hg.tupNew hl,Rep.tupNew h2 hl,q⟩⟩⟩
  | ref p'=>
   cases (show V.ref p= .ref p' from rv)
   obtain⟨vs',h1,h2⟩:=hg.lst (jV6 hx)
   exact⟨p,vs',rfl,.inl ⟨.of h1,fun l hl=>⟨.tup ys,G,.upd (.none hl),hg.tupNew hl,Rep.tupNew h2 hl,q⟩⟩⟩
  | non=>cases hx
  | bl _=>cases hx
  | int _=>cases hx
  | str _=>cases hx
  | ty _=>cases hx
noncomputable def rCat:R3:=fun x y G Q=>∃p q xs ys,x= .ref p/\y= .ref q/\G p=some (.lst xs)/\G q=some (.lst ys)/\xs.length+ys.length<=sizeLine/\∀l,G l=none->Q (.ref l) (gup G l (.lst (xs++ys)))
noncomputable def rRep:R3:=fun x y G Q=>∃p xs n,x= .ref p/\y= .int n/\G p=some (.lst xs)/\n.toNat * xs.length<=sizeLine/\n<2^62/\ -(2^62)<n/\∀l,G l=none->Q (.ref l) (gup G l (.lst (List.replicate n.toNat xs).flatten))
def tyT (G:Gp) (T0:String) (x:T):Prop:=match x with
 | .str _=>T0="str"
 | .int _=>T0="int"
 | .ref p=>(T0="list"/\∃xs,G p=some (.lst xs))\/(T0="dict"/\((∃kvs,G p=some (.dck kvs))\/∃kvs,G p=some (.dct kvs)))
 | _=>False
theorem tyT.of {K:PySem.W.Frag} {H:Hp} {G:Gp} {T0:String} {x:T} {a:V} (hg:GRel K H G) (r:Rep K H x a) (h:tyT G T0 x):tyV K T0 a H:=by
 cases x with
 | str z=>cases (show a= .str z from r);exact h
 | int z=>cases (show a= .int z from r);exact h
 | ref p=>
  cases (show a= .ref p from r)
  rcases h with ⟨e,xs,h⟩ | ⟨e,h⟩
  ·obtain⟨vs,h1,_⟩:=hg.lst h;exact .inl ⟨e,vs,.of h1⟩
  ·refine .inr (.inr (.inl ⟨e,?_⟩))
   rcases h with ⟨kvs,h⟩ | ⟨kvs,h⟩
   ·obtain⟨ws,h1,_⟩:=hg p _ h;exact .inl ⟨ws,h1⟩
   ·obtain⟨ws,h1,_⟩:=hg p _ h;exact .inr ⟨ws,h1⟩
 | non=>exact False.elim h
 | bl _=>exact False.elim h
 | ty _=>exact False.elim h
 | tup _=>exact False.elim h
 | scr _=>exact False.elim h
def tBM (T0:String) (r:T->List T->Gp->VK3->Prop) (to:TE3) (t:TA3):TE3:=fun τ G Q=>to τ G fun x G1=>tyT G1 T0 x/\t τ G1 fun xs G2=>r x xs G2 Q
theorem e_bm {T0 id:String} {r:T->List T->Gp->VK3->Prop} {o e:Expr} {name:Str} {apos cpos:Pos} {to:TE3} (pa:PlainAttrs T0) (slot:Slot T0 name id) (hty:typeOf (.builtin id)=pure (.type "method_descriptor")) (hm:Mt3 X id r) (ho:PE3 X o to) (ha:PA3 X (e::es) t)
  (hbase:attributeBase o name X.env (eval o X.env)=eval o X.env:=by rfl)
  (hfew:((backTo cpos (starEach (e::es) X.env)).all (fun x=> !x.1)&&(backToKw cpos (keywordEach [] X.env)).all (fun x=>x.1.isSome)
   &&decide ((e::es).length+([]:List Keyword).length+(if ([]:List Keyword).isEmpty then 0 else 1)<30))=true:=by rfl)
  (hline:(apos.endLine == cpos.line)=true:=by rfl) (hs:starEach (e::es) X.env=(false,eval e X.env)::starEach es X.env:=by rfl) (hplain:(backTo cpos (starEach es X.env)).any (·.1)=false:=by rfl):
  PE3 X (.Call (.Attribute o name apos) (e::es) [] cpos) (tBM T0 r to t):=by
 intro pins s τ G H Q I h
 refine wpAny_Call_method_late hbase hfew hline rfl (thn (ho pins s τ G H _ I h) fun v s1 w_=>w_.el fun x G1 H1 e1 I1 r1 ⟨ty,q1⟩=> ?_)
 obtain⟨σ,I0,hs0,hg0⟩:=_root_.id I1
 obtain⟨a0,ra0,rv0⟩:=_root_.id r1
 obtain⟨h1,h2⟩:=qQ9 I0 rv0 (tyT.of hg0 ra0 ty)
 refine⟨T0,id,pa,slot,hty,h1,h2,?_⟩
 have hA:=ha cpos pins s1 τ G1 H1 _ I1 q1
 rw[hs] at hA ⊢
 refine Calls.callWith_builtin (by show (false||(backTo cpos (starEach es X.env)).any (·.1))=false;rw[hplain]<;>rfl) (Calls.evalArgs_plain ?_)
 exact thn hA fun us s2 w_=>w_.el fun vs G2 H2 e2 I2 r2 q2=>thn (hm pins s2 τ G2 H2 x vs v us Q I2 (r1.mono e2) r2 q2) fun _ _ z=>(z.ext e2).ext e1
def jJ8:T->List T->Gp->VK3->Prop:=fun x xs G Q=>∃p ys y,x= .ref p/\xs=[y]/\G p=some (.lst ys)/\ys.length<sizeLine/\Q .non (gup G p (.lst (ys++[y])))
def qKl:T->T->T->Gp->(Gp->Prop)->Prop:=fun o i v G Q=>∃p xs k j,o= .ref p/\i= .int k/\G p=some (.lst xs)/\ixN xs.length k=some j/\Q (gup G p (.lst (xs.set j v)))
theorem s_list:Set3 X qKl:=
 Set3.of qJ9 fun H G o i v a b c Q hg ra rb rc ⟨p,xs,k,j,eo,ei,hp,hj,q⟩=>by
  subst eo;subst ei
  cases (show a= .ref p from ra);cases (show b= .int k from rb)
  obtain⟨vs,h1,h2⟩:=hg.lst hp
  exact⟨p,vs,k,j,rfl,rfl,h1,by rw[<-h2.length];exact hj,_,.upd (.lst h1),hg.lstNew (h2.set rc j) (.lst h1),q⟩
end
section
variable {X:Cx}
theorem o_cat:Op3 X (binaryOp .Add) rCat:=
 Op3.of op_cat fun H G x y a b Q hg ra rb ⟨p,q,xs,ys,ex,ey,hp,hq,hz,h⟩=>by
  subst ex;subst ey
  cases (show a= .ref p from ra);cases (show b= .ref q from rb)
  obtain⟨vs,h1,h2⟩:=hg.lst hp
  obtain⟨ws,h3,h4⟩:=hg.lst hq
  exact⟨p,q,vs,ws,rfl,rfl,h1,h3,by rw[<-h2.length,<-h4.length];exact hz,fun l hl=>⟨.ref l,_,.upd (.none hl),hg.lstNew (h2.append h4) (.none hl),rfl,h l (hg.fresh hl)⟩⟩
theorem o_rep:Op3 X (binaryOp .Mult) rRep:=
 Op3.of op_rep fun H G x y a b Q hg ra rb ⟨p,xs,n,ex,ey,hp,hz,h1,h2,h⟩=>by
  subst ex;subst ey
  cases (show a= .ref p from ra);cases (show b= .int n from rb)
  obtain⟨vs,h3,h4⟩:=hg.lst hp
  refine⟨p,n,vs,rfl,rfl,h3,by omega,by omega,by rw[<-h4.length,Nat.mul_comm];exact hz,fun l hl=>⟨.ref l,_,.upd (.none hl),hg.lstNew (h4.rep _) (.none hl),rfl,h l (hg.fresh hl)⟩⟩
theorem jKk:Mt3 X "list.append" jJ8:=
 Mt3.of kYz fun H G x xs a as Q hg ra ras ⟨p,ys,y,ex,exs,hp,hz,q⟩=>by
  subst ex;subst exs
  cases (show a= .ref p from ra)
  obtain⟨v,rfl,rv⟩:=jQo ras
  obtain⟨vs,h1,h2⟩:=hg.lst hp
  exact⟨p,vs,v,rfl,rfl,h1,by rw[<-h2.length];exact hz,.non,_,.upd (.lst h1),hg.lstNew (h2.append (.one rv)) (.lst h1),rfl,q⟩
end
def jKa:TS3:=fun D τ G=>D.nx τ G
def tSeq (t u:TS3):TS3:=fun D τ G=>t {D with nx:=u D} τ G
def jQc (te:TE3):TS3:=fun D τ G=>te τ G fun _ G1=>D.nx τ G1
def tRet (te:TE3):TS3:=fun D τ G=>te τ G D.rt
def tRetN:TS3:=fun D _ G=>D.rt .non G
def tIfS (c:TT3) (t u:TS3):TS3:=fun D τ G=>c τ G fun b G1=>if b=true then t D τ G1 else u D τ G1
def jZ7:TS3:=fun D τ G=>D.ct τ G
section
variable {X:Cx} {st:Stmt} {rest:List Stmt} {t u:TS3} {e:Expr} {te:TE3} {pos:Pos}
theorem jJ3:PSs3 X [] jKa:=fun _ _ τ G H _ I h=>lVs ⟨τ,G,H,.refl H,I,h⟩
theorem jJe (h1:PS3 X st t) (h2:PSs3 X rest u):PSs3 X (st::rest) (tSeq t u):=by
 intro pins s τ G H D I h
 refine wpAny_execs_cons (thn (h1 pins s τ G H {D with nx:=u D} I h) fun f s1 q=> ?_)
 cases f with
 | next=>
  obtain⟨τ',G',H',e',I',q⟩:=q
  exact thn (h2 pins s1 τ' G' H' D I' q) fun _ _ z=>z.ext e'
 | ret v=>exact q
 | brk=>exact q
 | cont=>exact q
theorem jJn (h1:PS3 X st t):PSs3 X [st] t:=by
 intro pins s τ G H D I h
 refine wpAny_execs_cons (thn (h1 pins s τ G H D I h) fun f s1 q=> ?_)
 cases f with
 | next=>exact lVs q
 | ret v=>exact q
 | brk=>exact q
 | cont=>exact q
theorem kKj:PS3 X (.Continue pos) jZ7:=fun _ _ τ G H _ I h=>wpAny_Continue ⟨τ,G,H,.refl H,I,h⟩
theorem jQb (he:PE3 X e te) (hs:swapsWith e none pos.line X.env=pure false:=by rfl):PS3 X (.Expr e pos) (jQc te):=by
 intro pins s τ G H D I h
 obtain⟨σ,I0,hs0,hg0⟩:=id I
 exact wpAny_Expr_any (thn (he pins s τ G H _ I h) fun v s1 w_=>w_.el fun x G1 H1 e1 I1 r1 q1=>⟨τ,G1,H1,e1,I1,q1⟩) I0.quiet hs
theorem jKb (he:PE3 X e te):PS3 X (.Return (some e) pos) (tRet te):=by
 intro pins s τ G H D I h
 exact wpAny_Return_some (thn (he pins s τ G H _ I h) fun v s1 w_=>w_.el fun x G1 H1 e1 I1 r1 q1=>⟨x,τ,G1,H1,e1,I1,r1,q1⟩)
theorem s_if {c:Expr} {a b:List Stmt} {tc:TT3} (hc:PT3 X c tc) (ha:PSs3 X a t) (hb:PSs3 X b u):PS3 X (.If c a b pos) (tIfS tc t u):=by
 intro pins s τ G H D I h
 refine wpAny_If (thn (hc pins s τ G H _ I h) fun d s1 w_=>w_.el fun G1 H1 e1 I1 q1=> ?_)
 cases d with
 | true=>exact thn (ha pins s1 τ G1 H1 D I1 q1) fun _ _ z=>z.ext e1
 | false=>exact thn (hb pins s1 τ G1 H1 D I1 q1) fun _ _ z=>z.ext e1
end
abbrev TG3:=T->St3->Gp->(St3->Gp->Prop)->Prop
abbrev TGs3:=List T->St3->Gp->(St3->Gp->Prop)->Prop
def GP3 (X:Cx) (pins:List (Addr×Obj)) (H:Hp) (Q:St3->Gp->Prop) (s':Shared):Prop:=∃ τ' G' H',Ext H H'/\Inv3 X pins τ' G' H' s'/\Q τ' G'
def PG3 (X:Cx) (target:Expr) (t:TG3):Prop:=
 ∀(pins:List (Addr×Obj)) (s:Shared) (τ:St3) (G:Gp) (H:Hp) (v:T) (u:Value) (Q:St3->Gp->Prop),Inv3 X pins τ G H s->RU X.K H v u->t v τ G Q->
  wpAny (model X.prog X.w) X.A (assign target X.env u) (fun _ s'=>GP3 X pins H Q s') X.xe s
def PGs3 (X:Cx) (ts:List Expr) (t:TGs3):Prop:=
 ∀(pins:List (Addr×Obj)) (s:Shared) (τ:St3) (G:Gp) (H:Hp) (vs:List T) (us:List Value) (Q:St3->Gp->Prop),Inv3 X pins τ G H s->RUs X.K H vs us->t vs τ G Q->
  wpAny (model X.prog X.w) X.A (assignInOrder ((assignEach ts X.env).map (·.2)) us) (fun _ s'=>GP3 X pins H Q s') X.xe s
def jJh (i:Nat):TG3:=fun v τ G Q=>Q (τ.set i (some v)) G
def gNil:TGs3:=fun vs τ G Q=>vs=[]/\Q τ G
def jKd (t:TG3) (u:TGs3):TGs3:=fun vs τ G Q=>∃v r,vs=v::r/\t v τ G fun τ' G'=>u r τ' G' Q
def gTup (n:Nat) (t:TGs3):TG3:=fun v τ G Q=>∃xs,v= .tup xs/\xs.length=n/\t xs τ G Q
def gSub (to ti:TE3) (t:T->T->T->Gp->(Gp->Prop)->Prop):TG3:=fun v τ G Q=>to τ G fun o G1=>ti τ G1 fun i G2=>t o i v G2 fun G3=>Q τ G3
def tAsg (te:TE3) (g:TG3):TS3:=fun D τ G=>te τ G fun x G1=>g x τ G1 D.nx
section
variable {X:Cx} {pos:Pos}
theorem jJr {i:Nat} {x:Str} (hN:X.N.Nodup) (hi:X.N[i]? =some x:=by rfl) (hx:Loc X.env.scope x:=by first | exact Or.inl rfl | exact Or.inr rfl) (hf:X.fn x=true\/X.env.scope.names.lookup x=some .local:=by first | exact .inl rfl | exact .inr rfl):PG3 X (.Name x pos) (jJh i):=by
 rintro pins s τ G H v u Q ⟨σ,I,hs,hg⟩ ⟨a,ra,rv⟩ h
 exact wpAny_assign_Name (jU4 I hN hi hx rv (fun s' I'=>⟨_,G,H,.refl H,⟨_,I',hs.set i ra,hg⟩,h⟩) hf)
theorem jQu:PGs3 X [] gNil:=by
 rintro pins s τ G H vs us Q I ⟨as,r,rv⟩ ⟨e,h⟩
 subst e
 cases (show as=[] from r)
 cases rv
 exact assignInOrder_nil ⟨τ,G,H,.refl H,I,h⟩
theorem jJy {e:Expr} {es:List Expr} {t:TG3} {u:TGs3} (h1:PG3 X e t) (h2:PGs3 X es u)
  (hs:(assignEach (e::es) X.env).map (·.2)=assign e X.env::(assignEach es X.env).map (·.2):=by rfl):PGs3 X (e::es) (jKd t u):=by
 rintro pins s τ G H vs us Q I ⟨as,r,rv⟩ ⟨v,vr,e1,h⟩
 subst e1
 obtain⟨a,ar,rfl,ra,rar⟩:=r
 cases rv with
 | cons q qq=>
  rw[hs]
  refine assignInOrder_cons (thn (h1 pins s τ G H v _ _ I ⟨a,ra,q⟩ h) fun _ s1 ⟨τ1,G1,H1,e1,I1,q1⟩=> ?_)
  exact thn (h2 pins s1 τ1 G1 H1 vr _ Q I1 ⟨ar,Reps.mono e1 _ rar,qq⟩ q1) fun _ s2 ⟨τ2,G2,H2,e2,z⟩=>⟨τ2,G2,H2,e1.trans e2,z⟩
theorem jV3 {es:List Expr} {k:Nat} {t:TGs3} {n:Nat} (hc:X.calm=true) (h:PGs3 X es t)
  (hn:(assignEach es X.env).length=n:=by rfl) (hst:(assignEach es X.env).findIdx? (·.1)=none:=by rfl):PG3 X (.Tuple es k pos) (gTup n t):=by
 rintro pins s τ G H v u Q ⟨σ,I,hs,hg⟩ ⟨a,ra,rv⟩ ⟨xs,ev,hl,hw⟩
 subst ev
 obtain⟨p,vs,e1,h1,r1⟩:=(show ∃p vs,a= .ref p/\H p=some (.tup vs)/\Reps X.K H xs vs from ra)
 subst e1
 cases rv
 obtain⟨its,rv,ht,hz⟩:=I.tuple (.of h1)
 refine assign_Tuple_tuple (I.ok.hd hc) ht (by simp[hn,<-hl,r1.length,rv.length]) hst fun h' hx=> ?_
 have I1:Inv X pins σ H {s with heap:=h'}:=I.kept (t':=s.toks) fun b o e=>hx b o (lJw (lJg e)) e
 exact h pins _ τ G H xs _ Q ⟨σ,I1,hs,hg⟩ ⟨vs,r1,by simpa using rv⟩ hw
theorem jXs {o i:Expr} {to ti:TE3} {t:T->T->T->Gp->(Gp->Prop)->Prop} (ho:PE3 X o to) (hi:PE3 X i ti) (hs:Set3 X t)
  (ha:∀v,assign (.Subscript o i pos) X.env v=(do
   let ov <-holding [v] (eval o X.env)
   let iv <-holding [v,ov] (eval i X.env)
   standAt pos
   holding [v,ov,iv] (setItem ov iv v)
   release [v,ov,iv] []):=by intro _;rfl):PG3 X (.Subscript o i pos) (gSub to ti t):=by
 intro pins s τ G H v u Q I r h
 rw[ha]
 refine lJc (lQg (thn (ho pins s τ G H _ I h) fun ov s1 w_=>w_.el fun x G1 H1 e1 I1 r1 q1=> ?_))
 refine lJc (lQg (thn (hi pins s1 τ G1 H1 _ I1 q1) fun iv s2 w_=>w_.el fun y G2 H2 e2 I2 r2 q2=> ?_))
 refine lJc (wpAny_standAt (lJc (lQg (thn (hs pins s2 τ G2 H2 x y v ov iv u _ I2 (r1.mono e2) r2 (r.mono (e1.trans e2)) q2) fun _ s3 ⟨G3,H3,e3,I3,q3⟩=> ?_))))
 exact wpAny_release ⟨τ,G3,H3,(e1.trans e2).trans e3,I3,q3⟩
theorem jUm {tg e:Expr} {te:TE3} {g:TG3} (he:PE3 X e te) (hg:PG3 X tg g) (hs:swapsWithSole [tg] e pos.line X.env=pure false:=by rfl) (hw:swappedStores [tg] e X.env=pure none:=by rfl)
  (h1:(assignEach [tg] X.env).map (·.2)=[assign tg X.env]:=by rfl):PS3 X (.Assign [tg] e pos) (tAsg te g):=by
 intro pins s τ G H D I h
 refine wpAny_Assign_stores (thn (he pins s τ G H _ I h) fun v s1 w_=>w_.el fun x G1 H1 e1 I1 r1 q1=> ?_) hs hw
 rw[h1]
 exact thn (hg pins s1 τ G1 H1 x v _ I1 r1 q1) fun _ s2 ⟨τ2,G2,H2,e2,q⟩=>⟨τ2,G2,H2,e1.trans e2,q⟩
theorem jJw {i:Nat} {x:Str} {e:Expr} {te:TE3} {pos':Pos} (hN:X.N.Nodup) (he:PE3 X e te) (hi:X.N[i]? =some x:=by rfl) (hx:Loc X.env.scope x:=by first | exact Or.inl rfl | exact Or.inr rfl)
  (hs:swapsWith e (some (.Name x pos')) pos.line X.env=pure false:=by rfl) (hf:X.fn x=true\/X.env.scope.names.lookup x=some .local:=by first | exact .inl rfl | exact .inr rfl):
  PS3 X (.Assign [.Name x pos'] e pos) (tAsg te (jJh i)):=by
 intro pins s τ G H D I h
 refine wpAny_Assign_Name (thn (he pins s τ G H _ I h) fun v s1 w_=>w_.el fun y G1 H1 e1 i_ r_ q1=>i_.el fun σ I1 hs1 hg1=>r_.el fun a ra rv=> ?_) hs
 exact jU4 I1 hN hi hx rv (fun s2 I2=>⟨_,G1,H1,e1,⟨_,I2,hs1.set i ra,hg1⟩,q1⟩) hf
def tPar (i j:Nat) (ta:TA3):TS3:=fun D τ G=>ta τ G fun vs G1=>∃v w,vs=[v,w]/\D.nx ((τ.set i (some v)).set j (some w)) G1
noncomputable def jYi (c:TT3) (tb:TS3):TS3:=fun D τ G=>∃W:Nat->St3->Gp->Prop,(∃m,W m τ G)/\∀m τ G,W m τ G->
 c τ G fun b G1=>if b=true then ∃N:St3->Gp->Prop,(∀ τ' G',N τ' G'->∃m',m'<m/\W m' τ' G')/\tb {D with nx:=N,ct:=N,bk:=D.nx} τ G1 else D.nx τ G1
theorem kQu {c:Expr} {body:List Stmt} {tc:TT3} {tb:TS3} (hp:PassesOwn (model X.prog X.w) X.A X.env X.xe) (hc:PT3 X c tc) (hb:PSs3 X body tb):PS3 X (.While c body [] pos) (jYi tc tb):=by
 intro pins s τ G H D I h
 obtain⟨W,⟨m0,w0⟩,turn⟩:=h
 refine wpAny_While (codeAny_whileLoop (fun n s'=>∃ τ' G' H',Ext H H'/\Inv3 X pins τ' G' H' s'/\W n τ' G') ?_ m0 ⟨τ,G,H,.refl H,I,w0⟩)
 rintro n s1 ⟨τ1,G1,H1,e1,I1,w1⟩
 refine lVe hp (thn (hc pins s1 τ1 G1 H1 _ I1 (turn n τ1 G1 w1)) fun b s2 w_=>w_.el fun G2 H2 e2 I2 q2=> ?_)
 cases b with
 | true=>
  obtain⟨N,hN,q2⟩:=q2
  rw[lJa rfl]
  refine lVe hp (thn (hb pins s2 τ1 G2 H2 _ I2 q2) fun f s3 q3=> ?_)
  cases f with
  | next=>
   obtain⟨τ3,G3,H3,e3,I3,n3⟩:=q3
   obtain⟨m',hm,w3⟩:=hN τ3 G3 n3
   exact⟨m',hm,τ3,G3,H3,(e1.trans e2).trans e3,I3,w3⟩
  | cont=>
   obtain⟨τ3,G3,H3,e3,I3,n3⟩:=q3
   obtain⟨m',hm,w3⟩:=hN τ3 G3 n3
   exact⟨m',hm,τ3,G3,H3,(e1.trans e2).trans e3,I3,w3⟩
  | brk=>exact SP3.ext (f:= .next) (e1.trans e2) q3
  | ret v=>exact SP3.ext (f:= .ret v) (e1.trans e2) q3
 | false=>
  rw[lJb lJp]
  exact lVs ⟨τ1,G2,H2,e1.trans e2,I2,q2⟩
end
def qXp (K:PySem.W.Frag) (H0:Hp) (J:It) (xs:List T) (stay:Gp->Prop):Prop:=
 ∀i H G,Ext H0 H->GRel K H G->stay G->(i<xs.length->J.go i H)/\(xs.length<=i->J.stop i H)/\(i<xs.length->∀x H',J.yld i H x H'->Ext H H'/\GRel K H' G/\∃t,xs[i]? =some t/\Rep K H' t x)
abbrev TI3:=St3->Gp->(List T->(Gp->Prop)->Gp->Prop)->Prop
def PIE3 (X:Cx) (pins:List (Addr×Obj)) (τ:St3) (H:Hp) (tg:Expr) (R:List T->(Gp->Prop)->Gp->Prop) (itv:Value) (s2:Shared):Prop:=
 ∃(it:Addr) (fp:List Addr) (tn:Nat->Heap->Prop) (J:It) (xs:List T) (stay:Gp->Prop) (G':Gp) (H':Hp),itv= .ref it/\Ext H H'/\Inv3 X pins τ G' H' s2/\Turn X.prog X.w X.K tg J fp it tn/\tn 0 s2.heap/\(∀b∈fp,FpOk X pins H' b)/\
  qXp X.K H' J xs stay/\R xs stay G'
def PI3 (X:Cx) (tg iter:Expr) (wi:TI3):Prop:=
 ∀(pins:List (Addr×Obj)) (s:Shared) (τ:St3) (G:Gp) (H:Hp) (R:List T->(Gp->Prop)->Gp->Prop),Inv3 X pins τ G H s->wi τ G R->
  wpAny (model X.prog X.w) X.A (eval iter X.env) (fun v s1=>wpAny (model X.prog X.w) X.A (pyIter v) (PIE3 X pins τ H tg R) X.xe s1) X.xe s
noncomputable def tFor (wi:TI3) (g:TG3) (tb:TS3):TS3:=fun D τ G=>wi τ G fun xs stay G1=>∃P:Nat->St3->Gp->Prop,P 0 τ G1/\(∀i τ G,i<=xs.length->P i τ G->stay G)/\
 (∀i x τ G,xs[i]? =some x->P i τ G->g x τ G fun τ2 G2=>tb {D with nx:=P (i+1),ct:=P (i+1),bk:=D.nx} τ2 G2)/\∀ τ G,P xs.length τ G->D.nx τ G
section
variable {X:Cx} {tg:Expr} {pos:Pos}
theorem jUv {iter:Expr} {body:List Stmt} {wi:TI3} {g:TG3} {tb:TS3} (hp:PassesOwn (model X.prog X.w) X.A X.env X.xe) (hc:X.calm=true) (hi:PI3 X tg iter wi) (hg:PG3 X tg g) (hb:PSs3 X body tb)
  (hs:∀x,foldedSetIterable iter X.env x=pure x:=by intro _;rfl):PS3 X (.For tg iter body [] pos) (tFor wi g tb):=by
 intro pins s τ G H D I h
 refine wpAny_For (thn (hi pins s τ G H _ I h) fun v s1 h1=>thn h1 fun itv s2 h2=> ?_) hs
 obtain⟨it,fp,tn,J,xs,stay,G2,H2,e,eH,I2,T0,st2,f2,IT,P,p0,hstay,turn,fin⟩:=h2
 subst e
 have stat:∀ {H':Hp},(∀b∈fp,H' b=none)->∀b∈fp,FpOk X pins H' b:=fun hn b hb=>⟨hn b hb,(f2 b hb).2⟩
 refine codeAny_forLoop_any (fun n s'=>∃i τ' G' H',n=xs.length-i/\i<=xs.length/\Ext H2 H'/\Inv3 X pins τ' G' H' s'/\tn i s'.heap/\(∀b∈fp,H' b=none)/\P i τ' G') ?_ xs.length ⟨0,τ,G2,H2,rfl,lJq _,.refl _,I2,st2,fun b hb=>(f2 b hb).1,p0⟩
 rintro n s3 ⟨i,τ3,G3,H3,en,hi3,e3,⟨σ3,I3,hs3,hg3⟩,st3,fr3,p3⟩
 obtain⟨go,stop,yl⟩:=IT i H3 G3 e3 hg3 (hstay i τ3 G3 hi3 p3)
 by_cases hlt:i<xs.length
 ·refine lVe hp (thn (T0.item X rfl rfl rfl hc i pins s3 σ3 H3 X.xe I3 (stat fr3) st3 (go hlt)) fun r s4 ⟨u,hr,h4⟩=> ?_)
  subst hr
  refine lVe hp (thn h4 fun _ s5 ⟨x,H5,I5,r5,y5,st5,fr5⟩=> ?_)
  obtain⟨e5,g5,t,ht,rt⟩:=yl hlt x H5 y5
  have I5':=I5.pinned (stat fr5) (T0.obj _ _ st5)
  refine lVe hp (thn (hg _ s5 τ3 G3 H5 t u _ ⟨σ3,I5',hs3.mono e5,g5⟩ ⟨x,rt,r5⟩ (turn i t τ3 G3 ht p3)) fun _ s6 ⟨τ6,G6,H6,e6,I6,q6⟩=> ?_)
  refine lVe hp (thn (hb _ s6 τ6 G6 H6 _ I6 q6) fun f s7 q7=> ?_)
  have e36:Ext H2 H6:=(e3.trans e5).trans e6
  have again:∀ {τ7:St3} {G7:Gp} {H7:Hp},Ext H6 H7->Inv3 X (pins++jVe fp s5.heap) τ7 G7 H7 s7->P (i+1) τ7 G7->
    ∃m,m<n/\∃i τ' G' H',m=xs.length-i/\i<=xs.length/\Ext H2 H'/\Inv3 X pins τ' G' H' s7/\tn i s7.heap/\(∀b∈fp,H' b=none)/\P i τ' G':=fun {τ7 G7 H7} e7 ⟨σ7,I7,hs7,hg7⟩ p7=>by
   refine⟨xs.length-(i+1),by omega,i+1,τ7,G7,H7,rfl,hlt,e36.trans e7,⟨σ7,I7.unpinned,hs7,hg7⟩,T0.keep _ _ _ st5 fun b hb o e=>(I7.pin (b,o) (lKv _ (lKv _ (jU8 hb e)))).1,fun b hb=> ?_,p7⟩
   obtain⟨o,e,d⟩:=T0.obj _ _ st5 b hb
   exact (I7.pin (b,o) (lKv _ (lKv _ (jU8 hb e)))).2.1
  have un:∀ {τ7:St3} {G7:Gp} {H7:Hp},Inv3 X (pins++jVe fp s5.heap) τ7 G7 H7 s7->Inv3 X pins τ7 G7 H7 s7:=fun ⟨σ7,I7,a,b⟩=>⟨σ7,I7.unpinned,a,b⟩
  cases f with
  | next=>obtain⟨τ7,G7,H7,e7,I7,n7⟩:=q7;exact again e7 I7 n7
  | cont=>obtain⟨τ7,G7,H7,e7,I7,n7⟩:=q7;exact again e7 I7 n7
  | brk=>obtain⟨τ7,G7,H7,e7,I7,q7⟩:=q7;exact⟨τ7,G7,H7,(eH.trans e36).trans e7,un I7,q7⟩
  | ret v=>obtain⟨x7,τ7,G7,H7,e7,I7,r7,q7⟩:=q7;exact⟨x7,τ7,G7,H7,(eH.trans e36).trans e7,un I7,r7,q7⟩
 ·have ei:i=xs.length:=by omega
  refine lVe hp (thn (T0.done X rfl rfl rfl hc i pins s3 σ3 H3 X.xe I3 (stat fr3) st3 (stop (by omega))) fun r s4 ⟨hr,I4⟩=> ?_)
  subst hr;subst ei
  exact lVs ⟨τ3,G3,H3,eH.trans e3,⟨σ3,I4,hs3,hg3⟩,fin τ3 G3 p3⟩
def iSeq (tl:TE3):TI3:=fun τ G R=>tl τ G fun x G1=>∃xs,seqT G1 x=some xs/\R xs (fun G'=>seqT G' x=some xs) G1
theorem jVm {l:Expr} {tl:TE3} (hl:PE3 X l tl):PI3 X tg l (iSeq tl):=by
 intro pins s τ G H R I h
 refine thn (hl pins s τ G H _ I h) fun v s1 w_=>w_.el fun x G1 H1 e1 i_ r_ ⟨xs,hx,q⟩=>i_.el fun σ I1 hs1 hg1=>r_.el fun a ra rv=> ?_
 obtain⟨p,vs,e,hq,r⟩:=jQy hg1 ra hx
 subst e
 cases rv
 have fpk:∀b∈[s1.heap.objs.size],FpOk X pins H1 b:=fun b hb=>by
  have e:b=s1.heap.objs.size:=by simpa using hb
  subst e
  exact I1.fpOk (lJe _) (I1.hok.fresh (lJe _))
 rcases hq with hq | hq
 ·obtain⟨its,rv,pl,hz⟩:=I1.list hq
  refine wpAny_pyIter_list pl.isList ?_
  refine⟨s1.heap.objs.size,[s1.heap.objs.size],_,_,xs,fun G'=>seqT G' x=some xs,G1,H1,rfl,e1,⟨σ,I1.kept (t':=s1.toks) fun b o e=>lJo _ e,hs1,hg1⟩,kXv p _,⟨_,lJ5 _ rfl,rfl,rfl⟩,fpk,?_,q⟩
  intro i H2 G2 e2 g2 st
  have ra2:=Rep.mono e2 _ ra
  have now:∃ws,SqL X.K H2 p ws/\Reps X.K H2 xs ws:=by
   cases x with
   | scr ys=>cases hx;obtain⟨p',ws,ep,h1,h2⟩:=(show ∃p' ws,V.ref p= .ref p'/\FrL X.K H2 p' ws/\Reps X.K H2 xs ws from ra2);cases ep;exact⟨ws,h1.sq,h2⟩
   | ref p'=>cases (show V.ref p= .ref p' from ra);obtain⟨ws,h1,h2⟩:=g2.lst (jV6 st);exact⟨ws,.of h1,h2⟩
   | tup ys=>
    obtain⟨p',ws,ep,h1,h2⟩:=(show ∃p' ws,V.ref p= .ref p'/\H1 p'=some (.tup ws)/\Reps X.K H1 ys ws from ra)
    cases ep
    exfalso
    obtain⟨its',_,pl',_⟩:=I1.tuple (.of h1)
    obtain⟨o,n,ho,hc,_⟩:=pl
    obtain⟨o',ho',hc',_⟩:=pl'
    rw[ho] at ho';cases ho'
    rw[hc] at hc';exact absurd hc' (by decide)
   | non=>cases hx
   | bl _=>cases hx
   | int _=>cases hx
   | str _=>cases hx
   | ty _=>cases hx
  obtain⟨ws,h1,h2⟩:=now
  have hlen:=h2.length
  refine⟨fun hi=> ?_,fun hi=>⟨ws,h1,by omega⟩,fun _ y H' ⟨eH,hy⟩=> ?_⟩
  ·exact⟨ws,ws[i]'(by omega),h1,by simp[hlen▸hi]⟩
  ·subst eH
   obtain⟨t,ht,rt⟩:=h2.get' (hy ws h1)
   exact⟨.refl _,g2,t,ht,rt⟩
 ·obtain⟨its,rv,pl,hz⟩:=I1.tuple hq
  refine lV8 (show s1.heap.IsTuple p its.toArray from pl) ?_
  refine⟨s1.heap.objs.size,[s1.heap.objs.size],_,_,xs,fun G'=>seqT G' x=some xs,G1,H1,rfl,e1,⟨σ,I1.kept (t':=s1.toks) fun b o e=>lJo _ e,hs1,hg1⟩,kVs p _,⟨_,lJ5 _ rfl,rfl,rfl⟩,fpk,?_,q⟩
  intro i H2 G2 e2 g2 st
  have ra2:=Rep.mono e2 _ ra
  have now:∃ws,H2 p=some (.tup ws)/\Reps X.K H2 xs ws:=by
   cases x with
   | tup ys=>cases hx;obtain⟨p',ws,ep,h1,h2⟩:=(show ∃p' ws,V.ref p= .ref p'/\H2 p'=some (.tup ws)/\Reps X.K H2 xs ws from ra2);cases ep;exact⟨ws,h1,h2⟩
   | scr ys=>
    obtain⟨p',ws,ep,h1,h2⟩:=(show ∃p' ws,V.ref p= .ref p'/\FrL X.K H1 p' ws/\Reps X.K H1 ys ws from ra)
    cases ep
    exfalso
    obtain⟨its',_,pl',_⟩:=I1.list h1.sq
    obtain⟨o,n,ho,hc,_⟩:=pl'
    obtain⟨o',ho',hc',_⟩:=pl
    rw[ho] at ho';cases ho'
    rw[hc] at hc';exact absurd hc' (by decide)
   | ref p'=>
    cases (show V.ref p= .ref p' from ra)
    obtain⟨ws,h1,h2⟩:=hg1.lst (jV6 hx)
    exfalso
    obtain⟨its',_,pl',_⟩:=I1.list (.of h1)
    obtain⟨o,n,ho,hc,_⟩:=pl'
    obtain⟨o',ho',hc',_⟩:=pl
    rw[ho] at ho';cases ho'
    rw[hc] at hc';exact absurd hc' (by decide)
   | non=>cases hx
   | bl _=>cases hx
   | int _=>cases hx
   | str _=>cases hx
   | ty _=>cases hx
  obtain⟨ws,h1,h2⟩:=now
  have hlen:=h2.length
  refine⟨fun hi=> ?_,fun hi=>⟨ws,.of h1,by omega⟩,fun _ y H' ⟨eH,hy⟩=> ?_⟩
  ·exact⟨ws,ws[i]'(by omega),.of h1,by simp[hlen▸hi]⟩
  ·subst eH
   obtain⟨t,ht,rt⟩:=h2.get' (hy ws (.of h1))
   exact⟨.refl _,g2,t,ht,rt⟩
def rngT (lo:Int) (n:Nat):List T:=(List.range n).map fun (k:Nat)=>T.int (lo+k)
def jKp (ta:TA3):TI3:=fun τ G R=>ta τ G fun vs G1=>∃j:Int,vs=[.int j]/\ -(2^62)<=j/\j<2^62/\R (rngT 0 j.toNat) (fun _=>True) G1
theorem kZg {K:PySem.W.Frag} {H:Hp} (lo:Int) (n:Nat):qXp K H (Itr lo n) (rngT lo n) fun _=>True:=by
 intro i H' G e g _
 have hl:(rngT lo n).length=n:=by simp[rngT]
 refine⟨fun h=>by rw[hl] at h;exact h,fun h=>by rw[hl] at h;exact h,fun hi x H2 ⟨eH,ex⟩=> ?_⟩
 rw[hl] at hi
 subst eH;subst ex
 exact⟨.refl _,g,.int (lo+i),by simp[rngT,hi],rfl⟩
theorem jKh {a:Expr} {ta:TA3} {p:Pos} (hg:Gl X "range") (hm:X.mg "range"=none) (ha:PA3 X [a] ta) (hs:starEach [a] X.env=[(false,eval a X.env)]:=by rfl):PI3 X tg (.Call (.Name "range" p) [a] [] pos) (jKp ta):=by
 intro pins s τ G H R I h
 obtain⟨σ,I0,hs0,hg0⟩:=id I
 refine Call_ (jUk I0 hg hm boot_range (lQ5 (thn (ha pos pins s τ G H _ I h) fun us s1 w_=>w_.el fun xs G1 H1 e1 i_ r_ q1=>i_.el fun σ I1 hs1 hg1=>r_.el fun as ras rvs=> ?_) hs rfl))
 obtain⟨j,e,q1,q2,q⟩:=q1
 subst e
 obtain⟨v,rfl,rv⟩:=jQo ras
 cases (show v= .int j from rv)
 obtain⟨u,rfl,ru⟩:=rvs.one
 obtain⟨t,rfl⟩:=ru
 refine call_range_1 (thn (qKj (tg:=tg) (R:=fun J H'=>J=Itr 0 j.toNat/\H'=H1) I1 (by omega) (by omega) q1 q2 ⟨by simp,rfl⟩) fun itv s2 z=> ?_)
 obtain⟨it,fp,tn,J,H',ei,I2,T0,st,fk,eJ,eH⟩:=z
 subst eJ;subst eH
 exact⟨it,fp,tn,_,rngT 0 j.toNat,fun _=>True,G1,H',ei,e1,⟨σ,I2,hs1,hg1⟩,T0,st,fk,kZg 0 j.toNat,q⟩
end
abbrev Sp3:=List T->Gp->VK3->Prop
def dn (K:PySem.W.Frag) (n:Nat) (sp:Sp3):Sp:=fun vs H Q _=>vs.length=n/\∃xs G,Reps K H xs vs/\GRel K H G/\sp xs G fun t G'=>∀v H',Ext H H'->GRel K H' G'->Rep K H' t v->Q v H'
def Fn3 (P:Program) (w:World) (K:PySem.W.Frag) (mg:Str->Option Value) (base:Heap) (k:Nat) (f:Addr) (fd:FuncData) (ps:List Str) (sp:Sp3):Prop:=FnOk P w K mg base CX0 k f fd ps (dn K ps.length sp)
def jJx (sp:Sp3) (t:TA3):TE3:=fun τ G Q=>t τ G fun xs G1=>sp xs G1 Q
def Mono (sp:Sp3):Prop:=∀xs G Q Q',(∀t G',Q t G'->Q' t G')->sp xs G Q->sp xs G Q'
def jKl (N:List Str) (xs:List T):St3:=xs.map some++List.replicate (N.length-xs.length) none
theorem jVr {K:PySem.W.Frag} {H:Hp} {N:List Str} {xs:List T} {vs:List V} (r:Reps K H xs vs):SRel K H (start N vs) (jKl N xs):=by
 have hl:=r.length
 refine⟨by simp[L2.start,jKl,hl],fun i t h=> ?_⟩
 unfold jKl at h
 unfold L2.start
 by_cases hi:i<xs.length
 ·rw[lQi (by simpa using hi),lJx] at h
  cases e:xs[i]? with
  | none=>rw[e] at h;cases h
  | some x=>
   rw[e] at h;cases h
   obtain⟨v,hv,rv⟩:=r.get e
   exact⟨v,by rw[lQi (by simp;omega),lJx,hv];rfl,rv⟩
 ·rw[lVu (by simpa using hi),List.getElem?_replicate] at h
  split at h<;>cases h
theorem fn3 {P:Program} {w:World} {K:PySem.W.Frag} {mg:Str->Option Value} {base:Heap} {x qual:Str} {st:Stmt} {f:Addr} {fd:FuncData} {N ps:List Str} {k:Nat} {sp:Sp3} (F:Fun K x qual st f fd) (S:FnScope N ps (jJq st))
  (hbody:∀(cdv:Value) (A:Around) (outer:List Env) (s:Shared) (H:Hp) (E:XK),Room k (A.deeper (envOfC qual (jJq st) s.heap.objs.size f cdv))->
   ∃t,PSs3 (cxOf CX0 P w K mg base N qual (jJq st) f cdv A outer s H E).nox (jKr st) t/\∀xs G Q,sp xs G Q->t {nx:=fun _ G'=>Q .non G',rt:=Q} (jKl N xs) G):Fn3 P w K mg base (k+1) f fd ps sp:=by
 refine Fun.ok (sp:=dn K ps.length sp) F S (fun vs H Q E h=>h.1) fun cdv A outer s H vs Q E hr hsp=> ?_
 obtain⟨t,ht,hq⟩:=hbody cdv A outer s H E hr
 obtain⟨hl,xs,G,rs,hg,hsp⟩:=hsp
 refine⟨fun D σ H1=>D.nx=(fun _ H'=>Q .non H')/\D.rt=Q/\σ=L2.start N vs/\H1=H,?_,rfl,rfl,rfl,rfl⟩
 rintro pins s1 σ1 H1 D I ⟨e1,e2,e3,e4⟩
 subst e3;subst e4
 have I3:Inv3 (cxOf CX0 P w K mg base N qual (jJq st) f cdv A outer s H1 E).nox pins (jKl N xs) G H1 s1:=⟨_,I,jVr rs,hg⟩
 refine thn (ht pins s1 _ G H1 _ I3 (hq xs G _ hsp)) fun fl s2 z=> ?_
 cases fl with
 | next=>obtain⟨τ',G',H',e',⟨σ',I',a,b⟩,q⟩:=z;exact⟨σ',H',I',by rw[e1];exact q .non H' e' b rfl⟩
 | brk=>obtain⟨τ',G',H',e',_,q⟩:=z;exact q.elim
 | cont=>obtain⟨τ',G',H',e',_,q⟩:=z;exact q.elim
 | ret u=>obtain⟨x',τ',G',H',e',⟨σ',I',a,b⟩,⟨v,rv,ru⟩,q⟩:=z;exact⟨v,σ',H',I',ru,by rw[e2];exact q v H' e' b rv⟩
mutual
noncomputable def dep:T->Nat
 | .tup xs=>deps xs+1
 | _=>0
noncomputable def deps:List T->Nat
 | []=>0
 | x::xs=>max (dep x) (deps xs)
end
mutual
noncomputable def tree:T->Bool
 | .tup xs=>jK5 xs
 | .ref _=>false
 | .scr _=>false
 | .ty _=>false
 | .non=>true
 | .bl _=>true
 | .int _=>true
 | .str _=>true
noncomputable def jK5:List T->Bool
 | []=>true
 | x::xs=>tree x&&jK5 xs
end
mutual
noncomputable def eqT:T->T->Bool
 | .non,.non=>true
 | .bl a,.bl b=>a == b
 | .bl a,.int b=>(if a then 1 else 0) == b
 | .int a,.bl b=>a == (if b then 1 else 0)
 | .int a,.int b=>a == b
 | .str a,.str b=>a == b
 | .tup xs,.tup ys=>eqTs xs ys
 | _,_=>false
noncomputable def eqTs:List T->List T->Bool
 | [],[]=>true
 | x::xs,y::ys=>eqT x y&&eqTs xs ys
 | [],_::_=>false
 | _::_,[]=>false
end
mutual
theorem qQo {K:PySem.W.Frag} {H:Hp}:∀(x y:T) {a:V},tree x=true->tree y=true->Rep K H x a->Rep K H y a->eqT x y=true
 | .non,y,a,hx,hy,r,q=>by
  cases (show a= .non from r)
  cases y<;>first | rfl | (exact absurd (show false=true from hy) lJp) | (cases (show V.non=_ from q)) | (obtain⟨_,_,e,_⟩:=(show ∃c vs,V.non= .ref c/\_ from q);cases e)
 | .bl b,y,a,hx,hy,r,q=>by
  cases (show a= .bl b from r)
  cases y with
  | bl c=>cases (show V.bl b=V.bl c from q);simp[eqT]
  | tup ys=>obtain⟨_,_,e,_⟩:=(show ∃c vs,V.bl b= .ref c/\_ from q);cases e
  | non=>cases (show V.bl b= .non from q)
  | int c=>cases (show V.bl b= .int c from q)
  | str c=>cases (show V.bl b= .str c from q)
  | _=>exact absurd (show false=true from hy) lJp
 | .int b,y,a,hx,hy,r,q=>by
  cases (show a= .int b from r)
  cases y with
  | int c=>cases (show V.int b=V.int c from q);simp[eqT]
  | tup ys=>obtain⟨_,_,e,_⟩:=(show ∃c vs,V.int b= .ref c/\_ from q);cases e
  | non=>cases (show V.int b= .non from q)
  | bl c=>cases (show V.int b= .bl c from q)
  | str c=>cases (show V.int b= .str c from q)
  | _=>exact absurd (show false=true from hy) lJp
 | .str b,y,a,hx,hy,r,q=>by
  cases (show a= .str b from r)
  cases y with
  | str c=>cases (show V.str b=V.str c from q);simp[eqT]
  | tup ys=>obtain⟨_,_,e,_⟩:=(show ∃c vs,V.str b= .ref c/\_ from q);cases e
  | non=>cases (show V.str b= .non from q)
  | bl c=>cases (show V.str b= .bl c from q)
  | int c=>cases (show V.str b= .int c from q)
  | _=>exact absurd (show false=true from hy) lJp
 | .tup xs,y,a,hx,hy,r,q=>by
  obtain⟨p,vs,e,h1,h2⟩:=(show ∃p vs,a= .ref p/\H p=some (.tup vs)/\Reps K H xs vs from r)
  subst e
  cases y with
  | tup ys=>
   obtain⟨p',vs',e',h1',h2'⟩:=(show ∃p' vs',V.ref p= .ref p'/\H p'=some (.tup vs')/\Reps K H ys vs' from q)
   cases e'
   rw[h1] at h1';cases h1'
   exact kK4 xs ys (show jK5 xs=true from hx) (show jK5 ys=true from hy) h2 h2'
  | non=>cases (show V.ref p= .non from q)
  | bl c=>cases (show V.ref p= .bl c from q)
  | int c=>cases (show V.ref p= .int c from q)
  | str c=>cases (show V.ref p= .str c from q)
  | _=>exact absurd (show false=true from hy) lJp
 | .ref _,_,_,hx,_,_,_=>absurd (show false=true from hx) lJp
 | .scr _,_,_,hx,_,_,_=>absurd (show false=true from hx) lJp
 | .ty _,_,_,hx,_,_,_=>absurd (show false=true from hx) lJp
theorem kK4 {K:PySem.W.Frag} {H:Hp}:∀(xs ys:List T) {vs:List V},jK5 xs=true->jK5 ys=true->Reps K H xs vs->Reps K H ys vs->eqTs xs ys=true
 | [],ys,_,_,_,r,q=>by
  cases r
  cases ys with
  | nil=>rfl
  | cons y ys=>obtain⟨_,_,e,_⟩:=q;cases e
 | x::xs,ys,_,hx,hy,⟨v,ws,e,r1,r2⟩,q=>by
  subst e
  cases ys with
  | nil=>cases q
  | cons y ys=>
   obtain⟨v',ws',e',q1,q2⟩:=q
   cases e'
   have hx':tree x=true/\jK5 xs=true:=by simpa[jK5] using hx
   have hy':tree y=true/\jK5 ys=true:=by simpa[jK5] using hy
   show (eqT x y&&eqTs xs ys)=true
   rw[qQo x y hx'.1 hy'.1 r1 q1,kK4 xs ys hx'.2 hy'.2 r2 q2]
   rfl
end
section
variable {X:Cx}
def rSub:R3:=rI0 fun i j=> .int (i-j)
def rMod:R3:=rI (fun _ j=>0<j) fun i j=> .int (i%j)
def qU8:R3:=rI CDiv fun i j=> .int (i / j)
def rPow:R3:=rI CPow fun i j=> .int (i^j.toNat)
def rLt:R3:=rI0 fun i j=> .bl (decide (i<j))
def rGt:R3:=rI0 fun i j=> .bl (decide (j<i))
def rGe:R3:=rI0 fun i j=> .bl (decide (j<=i))
def rIsN:R3:=fun x y G Q=>y= .non/\Q (.bl (kK1 x)) G
def rNotN:R3:=fun x y G Q=>y= .non/\Q (.bl (!kK1 x)) G
def qKm:R3:=fun x y G Q=>∃xs ys,x= .tup xs/\y= .tup ys/\xs≠[]/\xs.length+ys.length<=sizeLine/\Q (.tup (xs++ys)) G
theorem o_catT:Op3 X (binaryOp .Add) qKm:=
 Op3.of qVf fun H G x y a b Q hg ra rb ⟨xs,ys,ex,ey,hx,hz,q⟩=>by
  subst ex;subst ey
  obtain⟨p,vs,e1,h1,h2⟩:=(show ∃p vs,a= .ref p/\H p=some (.tup vs)/\Reps X.K H xs vs from ra)
  obtain⟨p',ws,e2,h3,h4⟩:=(show ∃p vs,b= .ref p/\H p=some (.tup vs)/\Reps X.K H ys vs from rb)
  subst e1;subst e2
  have l1:=h2.length
  have l2:=h4.length
  refine⟨p,p',vs,ws,rfl,rfl,.of h1,.of h3,fun z=>hx ?_,by omega,fun z=> ?_,fun z l hl=> ?_⟩
  ·rw[z] at l1;exact lQm.mp l1
  ·rw[z] at l2
   have:ys=[]:=lQm.mp l2
   subst this
   exact⟨.tup (xs++[]),G,.refl H,hg,by rw[lKh];exact ra,q⟩
  ·exact⟨.tup (xs++ys),G,.upd (.none hl),hg.tupNew hl,Rep.tupNew (h2.append h4) hl,q⟩
def rAddI:R3:=rI0 fun i j=> .int (i+j)
def rAddA:R3:=fun x y G Q=>rAddI x y G Q\/rCat x y G Q\/qKm x y G Q
theorem o_addA:Op3 X (binaryOp .Add) rAddA:=o_add.or (o_cat.or o_catT)
def rMulI:R3:=rI CMul fun i j=> .int (i*j)
def rMulA:R3:=fun x y G Q=>rMulI x y G Q\/rRep x y G Q
theorem o_mulA:Op3 X (binaryOp .Mult) rMulA:=o_mul.or o_rep
def rNeg:T->Gp->VK3->Prop:=fun x G Q=>∃i,x= .int i/\Q (.int (-i)) G
theorem u_neg:Un3 X (unaryOp .USub) rNeg:=
 Un3.of un_neg fun H G x a Q hg ra ⟨i,e,q⟩=>by
  subst e;cases (show a= .int i from ra)
  exact⟨i,rfl,.int (-i),G,.refl H,hg,rfl,q⟩
theorem jJo (b:Expr) {op:CmpOp} (h:behindInMarks op b=false:=by first | exact nomark _ | with_unfolding_all rfl):behindInMarks op b=false:=h
variable {a b c:Expr} {ta tb tc:TE3} {pos:Pos}
theorem kXz {op op':CmpOp} {r r':R3} (ho:Op3 X (compareOp op) r) (ho':Op3 X (compareOp op') r') (ha:PE3 X a ta) (hb:PE3 X b tb) (hc:PE3 X c tc)
  (hm:lastMarks [op,op'] [b,c]=false:=by with_unfolding_all rfl):PT3 X (.Compare a [op,op'] [b,c] pos) (jJt (kUt r r' ta tb tc)):=by
 intro pins s τ G H Q I h
 refine isTrue_chain (thn (ha pins s τ G H _ I h) fun v s1 w_=>w_.el fun x G1 H1 e1 I1 r1 q1=>test_link (thn (hb pins s1 τ G1 H1 _ I1 q1) fun u s2 ⟨y,G2,H2,e2,I2,r2,q2⟩=>
  thn (ho pins s2 τ G2 H2 x y v u _ I2 (r1.mono e2) r2 q2) fun d s3 w_=>w_.el fun z G3 H3 e3 I3 r_ ⟨k,e,q3⟩=>r_.el fun v' rv' ru'=> ?_)) hm
 subst e
 cases (show v'= .bl k from rv');cases ru'
 refine lVa ?_
 cases k with
 | false=>
  obtain⟨k',e',q'⟩:=q3
  cases e'
  exact ite_ff ⟨G3,H3,(e1.trans e2).trans e3,I3,q'⟩
 | true=>
  refine ite_tt (test_last (thn (hc pins s3 τ G3 H3 _ I3 q3) fun w' s4 w_=>w_.el fun z' G4 H4 e4 I4 r4 q4=>thn (ho' pins s4 τ G4 H4 y z' u w' _ I4 (r2.mono (e3.trans e4)) r4 q4) fun d' s5 w_=>w_.el fun z2 G5 H5 e5 I5 r_ ⟨k2,e2',q5⟩=>r_.el fun v2 rv2 ru2=> ?_))
  subst e2'
  cases (show v2= .bl k2 from rv2);cases ru2
  exact lVa ⟨G5,H5,(((e1.trans e2).trans e3).trans e4).trans e5,I5,q5⟩
mutual
noncomputable def td:T->PyData
 | .tup xs=> .tuple (tds xs)
 | .int i=> .int i
 | .bl b=> .bool b
 | .str x=> .str x
 | .non=> .none
 | .ref _=> .none
 | .scr _=> .none
 | .ty _=> .none
noncomputable def tds:List T->List PyData
 | []=>[]
 | x::xs=>td x::tds xs
end
def eqOk (x:T):Bool:=tree x&&(td x).canLay0&&decide ((td x).depth<=50)
def jX2 (xs:List T):Bool:=jK5 xs&&PyData.canLayAll0 (tds xs)&&decide ((PyData.list (tds xs)).depth<=50)
noncomputable def eqG (G:Gp) (x y:T):Option Bool:=match x,y with
 | .ref p,.ref q=>match G p,G q with
  | some (.lst xs),some (.lst ys)=>if jX2 xs=true/\jX2 ys=true then some (eqTs xs ys) else none
  | _,_=>none
 | _,_=>if eqOk x=true/\eqOk y=true then some (eqT x y) else none
def rEqA:R3:=fun x y G Q=>∃b,eqG G x y=some b/\Q (.bl b) G
def rNeA:R3:=fun x y G Q=>∃b,eqG G x y=some b/\Q (.bl (!b)) G
noncomputable def truT (G:Gp):T->Option Bool
 | .non=>some false
 | .bl b=>some b
 | .int i=>some (i != 0)
 | .tup xs=>some (!xs.isEmpty)
 | .ref p=>match G p with
  | some (.lst xs)=>some (!xs.isEmpty)
  | some (.dck kvs)=>some (!kvs.isEmpty)
  | _=>none
 | _=>none
def rTru:T->Gp->(Bool->Gp->Prop)->Prop:=fun x G Q=>∃b,truT G x=some b/\Q b G
theorem jXy {K:PySem.W.Frag} {H:Hp} {xs:List T} {vs:List V} (r:Reps K H xs vs):xs.isEmpty=vs.isEmpty:=by
 have:=r.length
 cases xs<;>cases vs<;>simp_all
theorem kXx:Tru3 X rTru:=
 Tru3.of tru_ok fun H G x a Q hg ra ⟨b,hb,q⟩=>by
  refine⟨b,?_,rfl,q⟩
  cases x with
  | non=>cases (show a= .non from ra);cases hb;rfl
  | bl k=>cases (show a= .bl k from ra);cases hb;rfl
  | int k=>cases (show a= .int k from ra);cases hb;rfl
  | tup xs=>
   obtain⟨p,vs,e1,h1,h2⟩:=(show ∃p vs,a= .ref p/\H p=some (.tup vs)/\Reps X.K H xs vs from ra)
   subst e1;cases hb
   exact .inr (.inl ⟨vs,.of h1,by rw[jXy h2]⟩)
  | ref p=>
   cases (show a= .ref p from ra)
   cases hG:G p with
   | none=>simp only[truT,hG] at hb;cases hb
   | some o=>
    simp only[truT,hG] at hb
    cases o with
    | lst xs=>cases hb;obtain⟨vs,h1,h2⟩:=hg.lst hG;exact .inl ⟨vs,.of h1,by rw[jXy h2]⟩
    | dct _=>cases hb
    | fdc _=>cases hb
    | ins _ _=>cases hb
    | exc _=>cases hb
    | tb _ _ _=>cases hb
    | dck kvs=>
     cases hb
     obtain⟨ws,h1,h2⟩:=hg p _ hG
     refine .inr (.inr ⟨ws,h1,?_⟩)
     cases h2<;>rfl
  | str _=>cases hb
  | scr _=>cases hb
  | ty _=>cases hb
end
section
variable {X:Cx} {pins:List (Addr×Obj)} {σ:L2.St} {H:Hp} {s:Shared} {h':Heap}
theorem jZ5 {t':Nat} {fp:List Addr} (I:Inv X pins σ H s) (k:∀b o,b∉fp->s.heap.get? b=some o->h'.get? b=some o) (hf:∀b∈fp,FpOk X pins H b):Inv X pins σ H {s with heap:=h',toks:=t'}:=by
 have nit:∀b u,H b=some u->b∉fp:=fun b u e z=>by rw[(hf b z).1] at e;cases e
 refine I.step (g':=s.gens) (d':=s.drawn) (ch:=fp) (fun b hb=>⟨(hf b hb).2.2.2.1,(hf b hb).2.1,(hf b hb).2.2.2.2.1,(hf b hb).2.2.2.2.2⟩) (fun b o _ _ hc e _=>k b o hc e) (fun b o _ _ hc e _=>⟨o.slots,k b o hc e⟩) (fun _ _ _ _ n=>n)
  (fun b o hc e=>⟨o,k b o hc e⟩) (fun _ _ e=>e) (fun _ _ _ e=>e) (fun b ps e=>⟨#[],by rw[e];simp⟩) (fun m hm=> ?_) (fun b u e=> ?_) I.bare
 ·obtain⟨o,es,ep,ho,r⟩:=hm
  exact⟨o,es,ep,k _ o (fun z=>(hf _ z).2.1 rfl) ho,r⟩
 ·refine (I.hok b u e).stay (fun c v hc q=>k c v ?_ q) (fun _ q=>q) fun _ _ q=>q
  rcases hc with z | z
  ·rw[z];exact nit b u e
  ·exact nit c _ z
theorem jVp {t':Nat} {fp:List Addr} {p:Addr} {vs:List V} {us:List Value} (I:Inv X pins σ H s) (k:∀b o,b∉fp->s.heap.get? b=some o->h'.get? b=some o) (hf:∀b∈fp,FpOk X pins H b)
  (hp:s.heap.objs.size<=p) (ht:TupD h' p us.toArray) (r:Vals vs us) (hz:vs.length<=sizeLine):Inv X pins σ (upd H p (.tup vs)) {s with heap:=h',toks:=t'}:=by
 have hn:H p=none:=I.hok.fresh hp
 have nit:∀b u,H b=some u->b∉fp:=fun b u e z=>by rw[(hf b z).1] at e;cases e
 have old:∀b o,s.heap.get? b=some o->b≠p:=fun b o e=>lJw (lJ6 (lJg e) hp)
 have tr:∀b u,H b=some u->b≠p:=fun b u e z=>by rw[z,hn] at e;cases e
 refine I.step (g':=s.gens) (d':=s.drawn) (ch:=fp) (fun b hb=>⟨(hf b hb).2.2.2.1,(hf b hb).2.1,(hf b hb).2.2.2.2.1,(hf b hb).2.2.2.2.2⟩) (fun b o _ _ hc e _=>k b o hc e) (fun b o _ _ hc e _=>⟨o.slots,k b o hc e⟩) (fun b o _ e n=>by rw[jJu (old b o e)];exact n)
  (fun b o hc e=>⟨o,k b o hc e⟩) (fun b _ e=>by rw[jJu (tr b _ e)];exact e) (fun b _ _ e=>by rw[jJu (tr b _ e)];exact e) (fun b ps e=>⟨#[],by rw[jJu (tr b _ e),e];simp⟩) (fun m hm=> ?_) (fun b u e=> ?_) I.bare
 ·obtain⟨o,es,ep,ho,r⟩:=hm
  exact⟨o,es,ep,k _ o (fun z=>(hf _ z).2.1 rfl) ho,r⟩
 ·by_cases hb:b=p
  ·subst hb
   rw[jJ6] at e
   cases e
   exact⟨hz,us,r,ht⟩
  ·rw[jJu hb] at e
   refine (I.hok b u e).stay (fun c v hc q=>k c v ?_ q) (fun c q=>by rw[jJu (tr c _ q)];exact q) fun c _ q=>by rw[jJu (tr c _ q)];exact q
   rcases hc with z | z
   ·rw[z];exact nit b u e
   ·exact nit c _ z
end
noncomputable def Ite (K:PySem.W.Frag) (a:Addr):It:=
 ⟨fun i H=>∃xs x,SqL K H a xs/\xs[i]? =some x,fun i H x H'=>∃p y,H p=none/\x= .ref p/\(∀xs,SqL K H a xs->xs[i]? =some y)/\H'=upd H p (.tup [.int i,y]),fun i H=>∃xs,SqL K H a xs/\xs.length<=i⟩
theorem kXw {P:Program} {w:World} {K:PySem.W.Frag} {elts:List Expr} {k:Nat} {pos:Pos} (a e it:Addr) (hei:e≠it):
  Turn P w K (.Tuple elts k pos) (Ite K a) [e,it] e (fun i h=>(∃old,IsEnum h e it i old)/\h.IsListIter it a i) where
 mem:=by simp
 obj:=fun i h ⟨⟨old,h1⟩,h2⟩ b hb=>by
  have hb':b=e\/b=it:=by simpa using hb
  rcases hb' with z | z
  ·subst z;exact⟨_,h1,fun v z=>nomatch (show Data.fields _=Data.cell v from z)⟩
  ·subst z
   obtain⟨o,e2,c,d⟩:=h2
   exact⟨o,e2,fun v z=>by rw[d] at z;cases z⟩
 keep:=fun i h h' ⟨⟨old,h1⟩,h2⟩ kp=>⟨⟨old,kp e (by simp) _ h1⟩,h2.at fun o q=>kp it (by simp) o q⟩
 item:=by
  rintro X hP hw hK hc i pins s σ H E I hf ⟨⟨old,he⟩,hit⟩ hg
  subst hP hw hK
  obtain⟨xs,x,hq,hx⟩:=hg
  obtain⟨its,rv,p,hz⟩:=I.list hq
  obtain⟨u,hu,ru⟩:=rv.get hx
  refine wpAny_pyNext_enum_item he hit p.isList (x:=u) (by simpa using hu) hei fun h1 ho hit1 hT hsz hk=> ?_
  refine⟨_,rfl,wpAny_letOwnedTupleGo_enum ho fun h2 he2 hs2=> ?_⟩
  have hel:e<s.heap.objs.size:=lJg he
  have hp2:∀b o,b∉[e,it]->s.heap.get? b=some o->h2.get? b=some o:=fun b o hb q=>by
   have hb1:b≠e:=fun z=>hb (by simp[z])
   have hb2:b≠it:=fun z=>hb (by simp[z])
   exact (hs2.2 b hb1).trans (hk b o hb1 hb2 q)
  have hT2:h2.get? s.heap.objs.size=some {cls:= .type "tuple",data:= .seq #[.int i s.toks,u]}:=(hs2.2 _ (lQa hel)).trans hT
  have I2:=jVp (t':=s.toks+1) (h':=h2) (p:=s.heap.objs.size) (vs:=[.int i,x]) (us:=[.int i s.toks,u]) I hp2 hf (lJe _) ⟨_,hT2,rfl,_,rfl,rfl⟩ (.cons ⟨_,rfl⟩ (.cons ru .nil)) (by show 2<=sizeLine;decide)
  refine⟨.ref s.heap.objs.size,_,I2,rfl,⟨_,x,I.hok.fresh (lJe _),rfl,fun ys hy=>by rw[I.list_inj hy hq];exact hx,rfl⟩,⟨⟨u,by simpa using he2⟩,hit1.at fun o q=>(hs2.2 it hei.symm).trans q⟩,fun b hb=> ?_⟩
  have hbs:∃o,s.heap.get? b=some o:=by
   have hb':b=e\/b=it:=by simpa using hb
   rcases hb' with z | z
   ·subst z;exact⟨_,he⟩
   ·subst z;obtain⟨o,q,_⟩:=hit;exact⟨o,q⟩
  obtain⟨o,q⟩:=hbs
  rw[jJu (lJw (lJg q))]
  exact (hf b hb).1
 done:=by
  rintro X hP hw hK hc i pins s σ H E I hf ⟨⟨old,he⟩,hit⟩ hg
  subst hP hw hK
  obtain⟨xs,hq,hx⟩:=hg
  obtain⟨its,rv,p,hz⟩:=I.list hq
  have hl:=rv.length
  exact wpAny_pyNext_enum_end (I.ok.hd hc) he hit p.isList (by simp;omega) fun h1 hx1=>⟨rfl,jZ5 (t':=s.toks) I (fun b o hb q=>hx1 b o (fun z=>hb (by simp[z])) q) hf⟩
 self:=fun _ _ _ _ _ ⟨⟨old,he⟩,_⟩ h=>lXg he h
def numT (xs:List T):List T:=(List.range xs.length).map fun (i:Nat)=>T.tup [.int i,xs.getD i .non]
theorem jX8 {xs:List T} {i:Nat} {x:T} (h:xs[i]? =some x):(numT xs)[i]? =some (.tup [.int i,x]):=by
 have hi:i<xs.length:=by
  rcases lKs i xs.length with z | z
  ·exact z
  ·rw[lKa z] at h;cases h
 have hx:xs[i]=x:=(lJh.mp h).2
 simp[numT,hi,List.getD,hx]
theorem jKn {xs:List T}:(numT xs).length=xs.length:=by simp[numT]
def jK4 (G:Gp):T->Option (List T)
 | .ref p=>asL (G p)
 | .scr xs=>some xs
 | _=>none
theorem jQd {K:PySem.W.Frag} {H:Hp} {G:Gp} {x:T} {a:V} {xs:List T} (hg:GRel K H G) (r:Rep K H x a) (h:jK4 G x=some xs):∃p vs,a= .ref p/\SqL K H p vs/\Reps K H xs vs:=by
 cases x with
 | scr ys=>cases h;obtain⟨p,vs,e,h1,h2⟩:=(show ∃p vs,a= .ref p/\FrL K H p vs/\Reps K H xs vs from r);exact⟨p,vs,e,h1.sq,h2⟩
 | ref p=>
  obtain⟨vs,h1,h2⟩:=hg.lst (jV6 h)
  exact⟨p,vs,r,.of h1,h2⟩
 | tup _=>cases h
 | non=>cases h
 | bl _=>cases h
 | int _=>cases h
 | str _=>cases h
 | ty _=>cases h
def kUc (ta:TA3):TI3:=fun τ G R=>ta τ G fun vs G1=>∃x xs,vs=[x]/\jK4 G1 x=some xs/\R (numT xs) (fun G'=>jK4 G' x=some xs) G1
theorem qUm {X:Cx} {elts:List Expr} {k:Nat} {tpos pos p:Pos} {a:Expr} {ta:TA3} (hg:Gl X "enumerate") (hm:X.mg "enumerate"=none) (hv:bootBuiltins "enumerate"=some (.type "enumerate")) (ha:PA3 X [a] ta) (hs:starEach [a] X.env=[(false,eval a X.env)]:=by rfl):
  PI3 X (.Tuple elts k tpos) (.Call (.Name "enumerate" p) [a] [] pos) (kUc ta):=by
 intro pins s τ G H R I h
 obtain⟨σ0,I0,hs0,hg0⟩:=id I
 refine Call_ (jUk I0 hg hm hv (lQ5 (thn (ha pos pins s τ G H _ I h) fun us s1 w_=>w_.el fun xs' G1 H1 e1 i_ r_ q1=>i_.el fun σ I1 hs1 hg1=>r_.el fun as ras rvs=> ?_) hs rfl))
 obtain⟨x,xs,e,hx,q⟩:=q1
 subst e
 obtain⟨v,rfl,rv⟩:=jQo ras
 obtain⟨u,rfl,ru⟩:=rvs.one
 obtain⟨pa,vs,rfl,hq,r⟩:=jQd hg1 rv hx
 cases ru
 obtain⟨its,rvv,pl,hz⟩:=I1.list hq
 refine call_enumerate_list pl.isList fun h1 he hit hsz hk=> ?_
 have I2:Inv X pins σ H1 {s1 with heap:=h1}:=I1.kept (t':=s1.toks) hk
 refine lXg (Q:=PIE3 X pins τ H (.Tuple elts k tpos) R) he ?_
 have fr:∀b∈[s1.heap.objs.size+1,s1.heap.objs.size],FpOk X pins H1 b:=fun b hb=>by
  have hb':b=s1.heap.objs.size+1\/b=s1.heap.objs.size:=by simpa using hb
  have hle:s1.heap.objs.size<=b:=by omega
  exact I1.fpOk hle (I1.hok.fresh hle)
 refine⟨s1.heap.objs.size+1,[s1.heap.objs.size+1,s1.heap.objs.size],_,_,numT xs,fun G'=>jK4 G' x=some xs,G1,H1,rfl,e1,⟨σ,I2,hs1,hg1⟩,kXw pa _ _ (Nat.succ_ne_self _),⟨⟨.none,he⟩,hit⟩,fr,?_,q⟩
 intro i H2 G2 e2 g2 st
 obtain⟨pb,ws,eb,h1,h2⟩:=jQd g2 (Rep.mono e2 _ rv) st
 cases eb
 have hlen:=h2.length
 refine⟨fun hi=> ?_,fun hi=>⟨ws,h1,by rw[jKn] at hi;omega⟩,fun hi y H' ⟨pp,z,hn,ey,hy,eH⟩=> ?_⟩
 ·rw[jKn] at hi
  exact⟨ws,ws[i]'(by omega),h1,by simp[hlen▸hi]⟩
 ·subst ey;subst eH
  obtain⟨t,ht,rt⟩:=h2.get' (hy ws h1)
  exact⟨.upd (.none hn),g2.tupNew hn,_,jX8 ht,Rep.tupNew ⟨_,_,rfl,rfl,_,_,rfl,rt,rfl⟩ hn⟩
noncomputable def clGo (env:Env):List (Str×NameKind)->List (Str×Addr)->Option (List (Str×Addr))
 | [],cs=>some cs
 | (n,k)::r,cs=>if (k == .free)=true then (match env.cells.lookup n with | some c=>clGo env r ((n,c)::cs) | none=>none) else clGo env r cs
theorem jZ1 {scope:Scope} {env:Env} {cl:List (Str×Addr)} (h:clGo env scope.names []=some cl):closureFor scope env=pure cl:=by
 unfold closureFor
 have go:∀(names:List (Str×NameKind)) (cs:List (Str×Addr)),clGo env names cs=some cl->
   (forIn names cs fun (x:Str×NameKind) (r:List (Str×Addr))=>(match x with | (nm,kd)=>if (kd == .free)=true then cellOf env nm >>= fun a=>pure (ForInStep.yield ((nm,a)::r)) else pure (ForInStep.yield r):Sem (ForInStep (List (Str×Addr)))))=pure cl:=by
  intro names
  induction names with
  | nil=>intro cs e;cases e;rfl
  | cons x r ih=>
   obtain⟨n,k⟩:=x
   intro cs e
   unfold clGo at e
   rw[List.forIn_cons]
   by_cases hk:(k == NameKind.free)=true
   ·rw[lJa hk] at e
    cases hc:env.cells.lookup n with
    | none=>rw[hc] at e;cases e
    | some c=>
     rw[hc] at e
     have hco:cellOf env n=pure c:=by unfold cellOf;rw[hc]
     simp only[hk,lK5,hco,pure_bind]
     exact ih _ e
   ·rw[lJb hk] at e
    simp only[hk,pure_bind,lKk,lKx]
    exact ih _ e
 have:=go scope.names [] h
 simpa using this
theorem jYd {env:Env} {cl:List (Str×Addr)}:∀ {names:List (Str×NameKind)} {cs:List (Str×Addr)},clGo env names cs=some cl->(∀n c,cs.lookup n=some c->env.cells.lookup n=some c)->∀n c,cl.lookup n=some c->env.cells.lookup n=some c
 | [],cs,e,h=>by cases e;exact h
 | (n,k)::r,cs,e,h=>by
  unfold clGo at e
  by_cases hk:(k == NameKind.free)=true
  ·rw[lJa hk] at e
   cases hc:env.cells.lookup n with
   | none=>rw[hc] at e;cases e
   | some c=>
    rw[hc] at e
    refine jYd e fun m d q=> ?_
    rw[lKz] at q
    by_cases hm:(m == n)=true
    ·rw[hm] at q;cases q;rw[eq_of_beq hm];exact hc
    ·simp only[hm] at q;exact h m d q
  ·rw[lJb hk] at e
   exact jYd e h
theorem jY9 {env:Env} {cl:List (Str×Addr)} {m:Str}:∀ {names:List (Str×NameKind)} {cs:List (Str×Addr)},clGo env names cs=some cl->(∃c,cs.lookup m=some c)->∃c,cl.lookup m=some c
 | [],cs,e,h=>by cases e;exact h
 | (n,k)::r,cs,e,h=>by
  unfold clGo at e
  by_cases hk:(k == NameKind.free)=true
  ·rw[lJa hk] at e
   cases hc:env.cells.lookup n with
   | none=>rw[hc] at e;cases e
   | some c=>
    rw[hc] at e
    refine jY9 e ?_
    rw[lKz]
    by_cases hm:(m == n)=true
    ·rw[hm];exact⟨_,rfl⟩
    ·simp only[hm];exact h
  ·rw[lJb hk] at e
   exact jY9 e h
theorem jYe {env:Env} {cl:List (Str×Addr)} {m:Str}:∀ {names:List (Str×NameKind)} {cs:List (Str×Addr)},clGo env names cs=some cl->names.lookup m=some .free->∃c,cl.lookup m=some c
 | [],cs,e,h=>by simp at h
 | (n,k)::r,cs,e,h=>by
  unfold clGo at e
  rw[lKz] at h
  by_cases hm:(m == n)=true
  ·rw[hm] at h
   cases h
   rw[lJa (show (NameKind.free == NameKind.free)=true from rfl)] at e
   cases hc:env.cells.lookup n with
   | none=>rw[hc] at e;cases e
   | some c=>
    rw[hc] at e
    refine jY9 e ?_
    rw[lKz,hm];exact⟨_,rfl⟩
  ·simp only[hm] at h
   by_cases hk:(k == NameKind.free)=true
   ·rw[lJa hk] at e
    cases hc:env.cells.lookup n with
    | none=>rw[hc] at e;cases e
    | some c=>rw[hc] at e;exact jYe e h
   ·rw[lJb hk] at e
    exact jYe e h
theorem jQr {env:Env} {x:Str}:∀ {names:List (Str×NameKind)},(∀y∈names,y.2≠ .cell)->
  ((names.map fun (n,k)=>if (k == NameKind.free&&env.scope.kind == .function&&env.kindOf n == some .cell) then (n,NameKind.cell) else (n,k)).lookup x=some .cell\/
    (names.map fun (n,k)=>if (k == NameKind.free&&env.scope.kind == .function&&env.kindOf n == some .cell) then (n,NameKind.cell) else (n,k)).lookup x=some .free)->names.lookup x=some .free
 | [],_,h=>by simp at h
 | (n,k)::r,hc,h=>by
  have ih:= @jQr env x r (fun y hy=>hc y (lJ3 _ hy))
  have hk:=hc (n,k) lJ7
  rw[lJn] at h
  rw[lKz]
  by_cases hx:(x == n)=true
  ·rw[hx]
   by_cases hf:(k == NameKind.free&&env.scope.kind == .function&&env.kindOf n == some .cell)=true
   ·have:(k == NameKind.free)=true:=by
     rw[lKy,lKy] at hf;exact hf.1.1
    rw[eq_of_beq this]
   ·simp only[hf,lKk,lKx,lKz,hx] at h
    rcases h with h | h
    ·cases h;exact absurd rfl hk
    ·cases h;rfl
  ·simp only[hx]
   refine ih ?_
   by_cases hf:(k == NameKind.free&&env.scope.kind == .function&&env.kindOf n == some .cell)=true
   ·simpa only[hf,lK5,lKz,hx] using h
   ·simpa only[hf,lKk,lKx,lKz,hx] using h
theorem jUc {env:Env} {x:Str}:∀ {names:List (Str×NameKind)},
  (names.map fun (n,k)=>if (k == NameKind.free&&env.scope.kind == .function&&env.kindOf n == some .cell) then (n,NameKind.cell) else (n,k)).lookup x=some .local->names.lookup x=some .local
 | [],h=>by simp at h
 | (n,k)::r,h=>by
  have ih:= @jUc env x r
  rw[lJn] at h
  rw[lKz]
  by_cases hx:(x == n)=true
  ·rw[hx]
   by_cases hf:(k == NameKind.free&&env.scope.kind == .function&&env.kindOf n == some .cell)=true
   ·simp only[hf,lK5,lKz,hx] at h;cases h
   ·simp only[hf,lKk,lKx,lKz,hx] at h;exact h
  ·simp only[hx]
   refine ih ?_
   by_cases hf:(k == NameKind.free&&env.scope.kind == .function&&env.kindOf n == some .cell)=true
   ·simpa only[hf,lK5,lKz,hx] using h
   ·simpa only[hf,lKk,lKx,lKz,hx] using h
noncomputable def jQ5 (X:Cx) (scope:Scope) (cl:List (Str×Addr)) (C:Addr) (fp:List Addr) (s:Shared) (H:Hp):Cx:=
 {X with env:=compEnvC scope cl C X.env,s₀:=s,H₀:=H,outer:=X.stack,stack:=X.stack,ex:=fp,fn:=fun _=>false,pn:=[],xe:=fun _ _=>False}
structure CmpOk (X:Cx) (scope:Scope) (cl:List (Str×Addr)) (mask:List Bool):Prop where
 cl:clGo X.env scope.names []=some cl
 kind:scope.kind= .function
 nocell:(scope.names.all fun y=>y.2 != .cell)=true
 names:(scope.names.all fun y=>y.2 != .local||scope.names.lookup y.1 == some .local)=true
 vis:(scope.names.all fun y=>y.2 != .free||X.env.kindOf y.1 == some .cell||X.env.kindOf y.1 == some .free)=true
 len:mask.length=X.N.length
 mask:((X.N.zip mask).all fun p=>p.2||scope.names.lookup p.1 != some .local)=true
def msk {α:Type} (mask:List Bool) (τ:List (Option α)):List (Option α):=List.zipWith (fun b o=>if b=true then none else o) mask τ
theorem kQ6 {α:Type} {mask:List Bool} {τ:List (Option α)} {i:Nat} {t:α} (h:(msk mask τ)[i]? =some (some t)):mask[i]? =some false/\τ[i]? =some (some t):=by
 unfold msk at h
 rw[lVx] at h
 cases hm:mask[i]? with
 | none=>exact absurd (hm▸h) (by simp)
 | some b=>
  cases ht:τ[i]? with
  | none=>rw[hm,ht] at h;cases h
  | some o=>
   rw[hm,ht] at h
   cases b with
   | true=>simp at h
   | false=>simp at h;exact⟨rfl,by rw[h]⟩
theorem jXn {α:Type} {mask:List Bool} {τ:List (Option α)} (h:mask.length=τ.length):(msk mask τ).length=τ.length:=by
 unfold msk;rw[List.length_zipWith,h,Nat.min_self]
theorem kY0 {K:PySem.W.Frag} {H:Hp} {σ:L2.St} {τ:St3} {mask:List Bool} (h:SRel K H σ τ) (hl:mask.length=τ.length):SRel K H (msk mask σ) (msk mask τ):=by
 refine⟨by rw[jXn hl,jXn (hl.trans h.1.symm),h.1],fun i t q=> ?_⟩
 obtain⟨h1,h2⟩:=kQ6 q
 obtain⟨v,h3,h4⟩:=h.2 i t h2
 refine⟨v,?_,h4⟩
 unfold msk
 rw[lVx,h1,h3]
 simp
section
variable {X:Cx} {scope:Scope} {cl:List (Str×Addr)} {mask:List Bool}
theorem CmpOk.local (c:CmpOk X scope cl mask) {i:Nat} {x:Str} (h1:X.N[i]? =some x) (h2:mask[i]? =some false):scope.names.lookup x≠some .local:=by
 have h:=c.mask
 rw[lQu] at h
 have hz:(X.N.zip mask)[i]? =some (x,false):=by rw[lXl];exact⟨h1,h2⟩
 have:=h _ (lJz hz)
 simpa using this
theorem CmpOk.free (c:CmpOk X scope cl mask) {x:Str} (h:scope.names.lookup x=some .free):X.env.kindOf x=some .cell\/X.env.kindOf x=some .free:=by
 have hv:=c.vis
 rw[lQu] at hv
 have:=hv (x,.free) (lVh h)
 simpa using this
theorem CmpOk.nc (c:CmpOk X scope cl mask):∀y∈scope.names,y.2≠ .cell:=by
 have hv:=c.nocell
 rw[lQu] at hv
 intro y hy
 simpa using hv y hy
theorem CmpOk.nm (c:CmpOk X scope cl mask):∀y∈scope.names,y.2= .local->scope.names.lookup y.1=some .local:=by
 have hv:=c.names
 rw[lQu] at hv
 intro y hy e
 have:=hv y hy
 rw[e] at this
 simpa using this
theorem qJa (c:CmpOk X scope cl mask) {pins:List (Addr×Obj)} {σ:L2.St} {H:Hp} {s:Shared} {fp:List Addr} {h4:Heap} {tk:Nat} (I:Inv X pins σ H s) (hf:∀b∈fp,FpOk X pins H b) (ho:∀b∈fp,∃o,s.heap.get? b=some o)
  (hns:h4.Ns s.heap.objs.size fun _=>none) (hk:∀b o,s.heap.get? b=some o->h4.get? b=some o):
  Inv (jQ5 X scope cl s.heap.objs.size fp s H) [] (msk mask σ) H {s with heap:=h4,toks:=tk}:=by
 have sub:=jYd c.cl (by simp)
 have ok:(jQ5 X scope cl s.heap.objs.size fp s H).Ok:=by
  refine⟨I.ok.mod,c.kind,I.ok.glob,I.ok.blt,lJe _,fun x y d h1 h2=>I.ok.inj x y d (sub _ _ h1) (sub _ _ h2),fun x hx=>jYe c.cl (jQr (env:=X.env) c.nc hx),fun x d hx=>absurd (show false=true from hx) lJp,I.ok.hd,I.ok.gd,I.ok.frames,.inl rfl,
   fun b hb=> ?_,I.bs,lKi I.ok.bsz I.sz,fun b o e hb=> ?_,fun b hb hz=> ?_,I.stack,I.stkFree⟩
  ·obtain⟨o,e⟩:=ho b hb
   exact⟨lJw (lJg e),fun x d hd=>(hf b hb).2.2.2.2.1 x d (sub _ _ hd)⟩
  ·rcases (hf b hb).2.2.2.1 with z | z
   ·exact I.ok.noex b o e z
   ·exact absurd (lJ6 (lJg e) I.ok.bsz) (lQn.mpr z)
  ·rcases lJj.mp (I.stkSub b hz) with z | z
   ·exact (hf b hb).2.1 z
   ·exact (hf b hb).2.2.1 z
 refine⟨ok,rfl,I.bare,Un.kept hk,⟨_,hns,fun i x v h1 h2 h3=> ?_⟩,fun x d hd=> ?_,I.hok.fresh (lJe _),fun x d hd=>I.freeC x d (sub _ _ hd),fun p hp=>absurd (show p∈([]:List (Addr×Obj)) from hp) (by simp),I.hok.kept hk,?_⟩
 ·obtain⟨m1,m2⟩:=kQ6 h2
  have nl:=c.local h1 m1
  have fr:scope.names.lookup x=some .free:=by
   rcases h3 with z | z | z
   ·exact absurd (jUc (env:=X.env) z) nl
   ·exact jQr (env:=X.env) c.nc (.inl z)
   ·exact jQr (env:=X.env) c.nc (.inr z)
  have hkk:=c.free fr
  obtain⟨m,hn,hl⟩:=I.loc
  have vis:Vis X.env.scope x:=by rcases hkk with z | z;exact .inr (.inl z);exact .inr (.inr z)
  obtain⟨u,ru,lk⟩:=hl i x v h1 m2 vis
  refine⟨u,ru,?_⟩
  rcases lk with ⟨z,_⟩ | ⟨_,d,hd,cd⟩
  ·exfalso;rcases hkk with q | q<;>(rw[z] at q;cases q)
  ·obtain⟨d',hd'⟩:=jYe c.cl fr
   have:d'=d:=by have:=sub _ _ hd';rw[hd] at this;exact (lKb this).symm
   subst this
   refine .inr ⟨?_,d',hd',cd.keeps hk⟩
   rcases h3 with z | z | z
   ·exact absurd (jUc (env:=X.env) z) nl
   ·exact .inl z
   ·exact .inr z
 ·obtain⟨v,hv⟩:=I.cell x d (sub _ _ hd)
  exact⟨v,hv.keeps hk⟩
 ·exact (jXn (c.len.trans I.len.symm)).trans I.len
theorem qXg {pins:List (Addr×Obj)} {σ σ':L2.St} {H H':Hp} {s s':Shared} {fp:List Addr} {pl:List (Addr×Obj)} {C:Addr} (I:Inv X pins σ H s) (hf:∀b∈fp,FpOk X pins H b) (hC:s.heap.objs.size<=C)
  (J:Inv (jQ5 X scope cl C fp s H) pl σ' H' s') {h':Heap} (hb:Heap.SameBut C s'.heap h'):Inv X pins σ H' {s' with heap:=h'}:=by
 have ne:∀b o,s.heap.get? b=some o->b≠C:=fun b o e=>lJw (lJ6 (lJg e) hC)
 have u:=J.base
 have hfree:H' C=none:=J.free
 have u':Un (frs X.stack) fp H H' s.heap h':=⟨fun b o e n hb' hx=>(hb.2 b (ne b o e)).trans (u.keep b o e n hb' hx),fun b o e n hb' hx=>let ⟨sl,z⟩:=u.slot b o e n hb' hx;⟨sl,(hb.2 b (ne b o e)).trans z⟩,
  u.free,fun b o e hx=>let ⟨o',z⟩:=u.there b o e hx;⟨o',(hb.2 b (ne b o e)).trans z⟩,u.tups,u.frzs,u.tbls⟩
 have hok:HOk X.prog X.w H' h':=fun b ob e=>(J.hok b ob e).stay (fun c w' hc q=>(hb.2 c (by
  rintro rfl
  rcases hc with rfl | hc
  ·rw[hfree] at e;cases e
  ·rw[hfree] at hc;cases hc)).trans q) (fun _ q=>q) fun _ _ q=>q
 exact I.call' (s':={s' with heap:=h'}) J.os u' hok J.bare fun b hb=>⟨(hf b hb).2.2.2.1,(hf b hb).2.1,(hf b hb).2.2.2.2.1,(hf b hb).2.2.2.2.2⟩
end
abbrev kZ7 (ifs:List Expr) (env:Env):Sem Bool:=forIn ifs true fun c b=>if b=true then isTrue c env (eval c env) >>= fun d=>pure (ForInStep.yield d) else pure (ForInStep.yield b)
noncomputable def qQ5 (M:Model) (A:Around) (elt tg:Expr) (ifs:List Expr) (it acc:Value) (env:Env) (stop more:Shared->Prop):Option Value->Shared->Prop
 | none=>stop
 | some v=>fun z=>wpAny M A (letOwnedTupleGo tg it v) (fun _ z1=>wpAny M A (assign tg env v) (fun _ z2=>wpAny M A (kZ7 ifs env) (fun ok z3=>if ok=true then wpAny M A (eval elt env) (fun x z4=>wpAny M A (call (.builtin "list.append") [acc,x]) (fun _=>more) (fun _ _=>False) z4) (fun _ _=>False) z3 else more z3) (fun _ _=>False) z2) (fun _ _=>False) z1) (fun _ _=>False) z
theorem kZ8 {P:Program} {w:World} {A:Around} {R:Result->Shared->Prop} {s:Shared} {elt tg iter:Expr} {ifs:List Expr} {scope:Scope} {pos:Pos} {it acc:Value} {env:Env} (I:Nat->Shared->Prop)
  (turn:∀k z,I k z->wpAny (model P w) A (pyNext it) (qQ5 (model P w) A elt tg ifs it acc env (R (.ok .next)) fun z'=>∃m,m<k/\I m z') (fun _ _=>False) z) (n:Nat) (h:I n s):codeAny (model P w) A (.compLoop (.ListComp elt [⟨tg,iter,ifs,0⟩] scope pos) 0 it acc env) R s:=by
 refine codeAny_loop rfl I (fun k z hz=>(show wpAny _ A ((compTurn (.ListComp elt [⟨tg,iter,ifs,0⟩] scope pos) 0 it acc env).onRaise _) _ _ z from wpAny_noted ?_)) n h
 rw[compTurn_list]
 refine lJc (wpAny_standAt (lJc (lKn (turn k z hz) (fun r z1 h1=> ?_) fun _ _ e=>e.elim)))
 cases r with
 | none=>exact lJd h1
 | some v=>
  refine lJc (lKn h1 (fun _ z2 h2=>lJc (lKn h2 (fun _ z3 h3=>lJc (lKn h3 (fun ok z4 h4=> ?_) fun _ _ e=>e.elim)) fun _ _ e=>e.elim)) fun _ _ e=>e.elim)
  by_cases hok:ok=true
  ·subst hok
   exact lJc (lJc (lKn h4 (fun x z5 h5=>lJc (lKn h5 (fun _ z6 h6=>lJd (lJd ⟨rfl,h6⟩)) fun _ _ e=>e.elim)) fun _ _ e=>e.elim))
  ·obtain rfl:ok=false:=by simpa using hok
   exact lJd ⟨rfl,h4⟩
def PIf3 (X:Cx) (ifs:List Expr) (t:TT3):Prop:=∀(pins:List (Addr×Obj)) (s:Shared) (τ:St3) (G:Gp) (H:Hp) (Q:Bool->Gp->Prop),Inv3 X pins τ G H s->t τ G Q->
 wpAny (model X.prog X.w) X.A (forIn ifs true fun c r=>if r=true then do let ok <-isTrue c X.env (eval c X.env);pure (ForInStep.yield ok) else pure (ForInStep.yield r)) (TP3 X pins τ H Q) X.xe s
def jQw:TT3:=fun _ G Q=>Q true G
theorem jQn {X:Cx}:PIf3 X [] jQw:=fun _ _ _ G H _ I q=>wpAny_tests_nil ⟨G,H,.refl H,I,q⟩
theorem jZx {X:Cx} {c:Expr} {t:TT3} (h:PT3 X c t):PIf3 X [c] t:=fun pins s τ G H Q I q=>wpAny_tests_one (h pins s τ G H Q I q)
def kXp (mask:List Bool) (g:TG3):Prop:=∀v τ G Q,g v τ G Q->g v τ G fun τ2 G2=>Q τ2 G2/\τ2.length=τ.length/\∀i:Nat,mask[i]? ≠some true->τ2[i]? =τ[i]?
def kVr (mask:List Bool) (g:TGs3):Prop:=∀v τ G Q,g v τ G Q->g v τ G fun τ2 G2=>Q τ2 G2/\τ2.length=τ.length/\∀i:Nat,mask[i]? ≠some true->τ2[i]? =τ[i]?
theorem jJ5 {mask:List Bool} {i:Nat} (h:mask[i]? =some true:=by rfl):kXp mask (jJh i):=fun v τ G Q q=>
 ⟨q,lVj ..,fun j hj=>lK9 (by rintro rfl;exact hj h)⟩
theorem kVd {mask:List Bool}:kVr mask gNil:=fun v τ G Q ⟨e,q⟩=>⟨e,q,rfl,fun _ _=>rfl⟩
theorem jUz {mask:List Bool} {t:TG3} {u:TGs3} (h1:kXp mask t) (mono:∀v τ G Q Q',(∀a b,Q a b->Q' a b)->t v τ G Q->t v τ G Q') (h2:kVr mask u) (mono2:∀v τ G Q Q',(∀a b,Q a b->Q' a b)->u v τ G Q->u v τ G Q'):kVr mask (jKd t u):=fun vs τ G Q ⟨v,r,e,q⟩=>by
 refine⟨v,r,e,mono _ _ _ _ _ (fun τ2 G2 ⟨z,l1,k1⟩=> ?_) (h1 _ _ _ _ q)⟩
 exact mono2 _ _ _ _ _ (fun τ3 G3 ⟨z3,l3,k3⟩=>⟨z3,l3.trans l1,fun i hi=>(k3 i hi).trans (k1 i hi)⟩) (h2 _ _ _ _ z)
theorem jQa {i:Nat}:∀v τ G (Q Q':St3->Gp->Prop),(∀a b,Q a b->Q' a b)->jJh i v τ G Q->jJh i v τ G Q':=fun _ _ _ _ _ h q=>h _ _ q
theorem jXz:∀v τ G (Q Q':St3->Gp->Prop),(∀a b,Q a b->Q' a b)->gNil v τ G Q->gNil v τ G Q':=fun _ _ _ _ _ h q=>⟨q.1,h _ _ q.2⟩
theorem kJz {t:TG3} {u:TGs3} (m1:∀v τ G (Q Q':St3->Gp->Prop),(∀a b,Q a b->Q' a b)->t v τ G Q->t v τ G Q') (m2:∀v τ G (Q Q':St3->Gp->Prop),(∀a b,Q a b->Q' a b)->u v τ G Q->u v τ G Q'):
  ∀v τ G (Q Q':St3->Gp->Prop),(∀a b,Q a b->Q' a b)->jKd t u v τ G Q->jKd t u v τ G Q':=fun _ _ _ _ _ h ⟨v,r,e,q⟩=>⟨v,r,e,m1 _ _ _ _ _ (fun _ _ z=>m2 _ _ _ _ _ h z) q⟩
theorem kVc {mask:List Bool} {n:Nat} {u:TGs3} (h:kVr mask u):kXp mask (gTup n u):=fun v τ G Q ⟨xs,e,l,q⟩=>⟨xs,e,l,h _ _ _ _ q⟩
theorem qK2 {mask:List Bool} {τ τ2:St3} (hl:mask.length=τ.length) (l:τ2.length=(msk mask τ).length) (h:∀i:Nat,mask[i]? ≠some true->τ2[i]? =(msk mask τ)[i]?):msk mask τ2=msk mask τ:=by
 have ll:=jXn hl
 apply lQ2
 intro i
 unfold msk at h ⊢
 rw[lVx,lVx]
 cases hm:mask[i]? with
 | none=>rfl
 | some b=>
  cases b with
  | true=>
   have h1:i<mask.length:=by
    rcases lKs i mask.length with z | z
    ·exact z
    ·rw[lKa z] at hm;cases hm
   have h2:i<τ2.length:=by omega
   have h3:i<τ.length:=by omega
   rw[lJl h2,lJl h3]
   simp
  | false=>
   have:=h i (by rw[hm];simp)
   rw[lVx,hm] at this
   rw[this]
   cases τ[i]? with
   | none=>rfl
   | some o=>simp
def kQs (mask:List Bool) (g:TG3) (tif:TT3) (te:TE3) (τ:St3) (xs:List T) (stay:Gp->Prop) (G:Gp) (Q:VK3):Prop:=
 ∀D,G D=none->∃P:Nat->List T->Gp->Prop,P 0 [] (gup G D (.lst []))/\(∀i acc G,i<=xs.length->P i acc G->stay G/\G D=some (.lst acc))/\
  (∀i x acc G,xs[i]? =some x->P i acc G->g x (msk mask τ) G fun τ2 G2=>tif τ2 G2 fun b G3=>if b=true then te τ2 G3 fun y G4=>G4 D=some (.lst acc)/\acc.length<sizeLine/\P (i+1) (acc++[y]) (gup G4 D (.lst (acc++[y]))) else P (i+1) acc G3)/\
  ∀acc G,P xs.length acc G->Q (.ref D) G
def jKu (mask:List Bool) (wi:TI3) (g:TG3) (tif:TT3) (te:TE3):TE3:=fun τ G Q=>wi τ G fun xs stay G1=>kQs mask g tif te τ xs stay G1 Q
section
variable {X:Cx} {scope:Scope} {cl:List (Str×Addr)} {mask:List Bool} {elt iter tg:Expr} {ifs:List Expr} {pos:Pos} {wi:TI3} {g:TG3} {tif:TT3} {te:TE3}
theorem jZ0 (hc:X.calm=true) (ok:CmpOk X scope cl mask)
  (hgk:kXp mask g) (hg:∀C fp s H,PG3 (jQ5 X scope cl C fp s H) tg g) (hif:∀C fp s H,PIf3 (jQ5 X scope cl C fp s H) ifs tif) (he:∀C fp s H,PE3 (jQ5 X scope cl C fp s H) elt te)
  {pins:List (Addr×Obj)} {τ:St3} {H:Hp} {Q:VK3} {itv:Value} {s2:Shared} {E:Value->Shared->Prop} {RR:Value->Addr->Result->Shared->Prop}
  (h2:PIE3 X pins τ H tg (fun xs stay G=>kQs mask g tif te τ xs stay G Q) itv s2)
  (hRR:∀D C s' m,s'.heap.Ns C m->(∃G1 H1,Ext H H1/\H1 C=none/\Q (.ref D) G1/\∀h',Heap.SameBut C s'.heap h'->Inv3 X pins τ G1 H1 {s' with heap:=h'})->(∃oC,s'.heap.get? C=some oC/\C≠X.env.locals/\C∉X.fs/\∀v,oC.data≠ .cell v)->(∀x c,X.env.cells.lookup x=some c->c≠C)->(∀p∈X.pn++pins,p.1≠C)->X.s₀.heap.objs.size<=C->RR (.ref D) C (.ok .next) s'):
  wpAny (model X.prog X.w) X.A (newList []) (fun acc s₃=>wpAny (model X.prog X.w) X.A (newFunctionEnv scope X.env.globals cl [] X.env.qual none .none (some X.env)) (fun cenv s₄=>
   codeAny (model X.prog X.w) X.A (.compStart (.ListComp elt [⟨tg,iter,ifs,0⟩] scope pos) 0 itv acc {cenv with scope:=relabel scope X.env}) (RR acc cenv.locals) s₄) E s₃) E s2:=by
 obtain⟨it,fp,tn,J,xs,stay,G2,H2,e,eH,⟨σ,I2,hs2,hg2⟩,T0,st2,f2,IT,hq⟩:=h2
 subst e
 refine lVc (wpAny_newFunctionEnv ok.nc (by intro y hy;simp at hy) (fun h4 hns hsb=> ?_) ok.kind)
 dsimp only at hns hsb ⊢
 have hD:H2 s2.heap.objs.size=none:=I2.hok.fresh (lJe _)
 generalize hs3:({s2 with heap:=s2.heap.push {cls:= .type "list",dict:=none,data:= .seq ([]:List Value).toArray} }:Shared)=s3
 have eh3:s2.heap.push {cls:= .type "list",dict:=none,data:= .seq ([]:List Value).toArray}=s3.heap:=by rw[<-hs3]
 have I3:Inv X pins σ (upd H2 s2.heap.objs.size (.lst [])) s3:=by
  rw[<-hs3]
  exact I2.laid (t':=s2.toks) (fun b u e=>lJo _ e) (lJe _) ⟨lJq _,[],0,.nil,lJ5 _ rfl⟩
 rw[eh3] at hns hsb ⊢
 generalize hDd:s2.heap.objs.size=D at *
 have e3:Ext H2 (upd H2 D (.lst [])):= .upd (.none hD)
 have hg3:GRel X.K (upd H2 D (.lst [])) (gup G2 D (.lst [])):=hg2.lstNew (show Reps X.K H2 [] [] from rfl) (.none hD)
 have obj2:∀b∈fp,∃o,s2.heap.get? b=some o:=fun b hb=>let ⟨o,e,_⟩:=T0.obj 0 _ st2 b hb;⟨o,e⟩
 have fD:∀b∈fp,b≠D:=fun b hb=>by obtain⟨o,e⟩:=obj2 b hb;rw[<-hDd];exact lJw (lJg e)
 have f3:∀b∈fp,FpOk X pins (upd H2 D (.lst [])) b:=fun b hb=>⟨by rw[jJu (fD b hb)];exact (f2 b hb).1,(f2 b hb).2⟩
 have k3:∀b o,s2.heap.get? b=some o->s3.heap.get? b=some o:=fun b o e=>by rw[<-eh3];exact lJo _ e
 have obj3:∀b∈fp,∃o,s3.heap.get? b=some o:=fun b hb=>let ⟨o,e⟩:=obj2 b hb;⟨o,k3 b o e⟩
 have k4:∀b o,s3.heap.get? b=some o->h4.get? b=some o:=fun b o e=>hsb.extBut b o (lJw (lJg e)) (lJo _ e)
 have Ic:Inv (jQ5 X scope cl s3.heap.objs.size fp s3 (upd H2 D (.lst []))) [] (msk mask σ) (upd H2 D (.lst [])) {s3 with heap:=h4,toks:=s3.toks+([]:List (Str×Value)).length}:=qJa ok I3 f3 obj3 hns k4
 have st4:tn 0 h4:=T0.keep _ _ _ st2 fun b _ o e=>k4 b o (k3 b o e)
 have hl3:mask.length=τ.length:=ok.len.trans (I3.len.symm.trans hs2.1)
 obtain⟨P,p0,hst,turn,fin⟩:=hq D (hg2.fresh hD)
 have fpc:∀ {H':Hp} {pl:List (Addr×Obj)},(∀b∈fp,H' b=none)->(∀p∈pl,p.1∉fp)->∀b∈fp,FpOk (jQ5 X scope cl s3.heap.objs.size fp s3 (upd H2 D (.lst []))) pl H' b:=fun {H' pl} hn hp b hb=>by
  obtain⟨o,e⟩:=obj3 b hb
  refine⟨hn b hb,lJw (lJg e),?_,.inl hb,fun x d hd=>(f3 b hb).2.2.2.2.1 x d (jYd ok.cl (by simp) _ _ hd),fun p hpp z=> ?_⟩
  ·intro z
   rcases lJj.mp (I3.stkSub b z) with q | q
   ·exact (f3 b hb).2.1 q
   ·exact (f3 b hb).2.2.1 q
  ·have hpp':p∈pl:=by simpa[jQ5] using hpp
   exact hp p hpp' (z▸hb)
 have loop:∀s4:Shared,s4={s3 with heap:=h4,toks:=s3.toks+([]:List (Str×Value)).length}->
   codeAny (model X.prog X.w) X.A (.compLoop (.ListComp elt [⟨tg,iter,ifs,0⟩] scope pos) 0 (.ref it) (.ref D) (compEnvC scope cl s3.heap.objs.size X.env)) (RR (.ref D) s3.heap.objs.size) s4:=by
  rintro s4 rfl
  refine kZ8 (fun n s'=>∃i acc G' H',n=xs.length-i/\i<=xs.length/\Ext H2 H'/\Inv3 (jQ5 X scope cl s3.heap.objs.size fp s3 (upd H2 D (.lst []))) [] (msk mask τ) G' H' s'/\tn i s'.heap/\(∀b∈fp,H' b=none)/\P i acc G') ?_ xs.length
   ⟨0,[],_,_,rfl,lJq _,e3,⟨_,Ic,kY0 (hs2.mono e3) hl3,hg3⟩,st4,fun b hb=>(f3 b hb).1,p0⟩
  rintro n s5 ⟨i,acc,G5,H5,en,hi5,e5,⟨σ5,I5,hs5,hg5⟩,st5,fr5,p5⟩
  obtain⟨hstay,hacc⟩:=hst i acc G5 hi5 p5
  obtain⟨go,stop,yl⟩:=IT i H5 G5 e5 hg5 hstay
  by_cases hlt:i<xs.length
  ·refine thn (T0.item (jQ5 X scope cl s3.heap.objs.size fp s3 (upd H2 D (.lst []))) rfl rfl rfl hc i [] s5 σ5 H5 (fun _ _=>False) I5 (fpc fr5 (by simp)) st5 (go hlt)) fun r s6 ⟨u,hr,h6⟩=> ?_
   subst hr
   refine thn h6 fun _ s7 ⟨x,H7,I7,r7,y7,st7,fr7⟩=> ?_
   obtain⟨e7,g7,t,ht,rt⟩:=yl hlt x H7 y7
   have I7':=I7.pinned (fpc fr7 (by simp)) (T0.obj _ _ st7)
   refine thn (hg _ _ _ _ ([]++jVe fp s7.heap) s7 (msk mask τ) G5 H7 t u _ ⟨σ5,I7',hs5.mono e7,g7⟩ ⟨x,rt,r7⟩ (hgk _ _ _ _ (turn i t acc G5 ht p5))) fun _ s8 ⟨τ8,G8,H8,e8,I8,q8,ql8,qk8⟩=> ?_
   refine thn (hif _ _ _ _ ([]++jVe fp s7.heap) s8 τ8 G8 H8 _ I8 q8) fun b s9 ⟨G9,H9,e9,I9,q9⟩=> ?_
   have back:∀ {Ga:Gp} {Ha:Hp} {sa:Shared} {acc':List T},Ext H7 Ha->Inv3 (jQ5 X scope cl s3.heap.objs.size fp s3 (upd H2 D (.lst []))) ([]++jVe fp s7.heap) τ8 Ga Ha sa->P (i+1) acc' Ga->
     ∃m,m<n/\∃i acc G' H',m=xs.length-i/\i<=xs.length/\Ext H2 H'/\Inv3 (jQ5 X scope cl s3.heap.objs.size fp s3 (upd H2 D (.lst []))) [] (msk mask τ) G' H' sa/\tn i sa.heap/\(∀b∈fp,H' b=none)/\P i acc G':=by
    rintro Ga Ha sa acc' ea ⟨σa,Ia,hsa,hga⟩ pa
    have e2a:Ext H5 Ha:=e7.trans ea
    have hla:mask.length=τ8.length:=by rw[ql8,jXn hl3];exact hl3
    have hsm:=kY0 (mask:=mask) hsa hla
    rw[qK2 hl3 ql8 qk8] at hsm
    refine⟨xs.length-(i+1),by omega,i+1,acc',Ga,Ha,rfl,hlt,e5.trans e2a,⟨msk mask σa,(Ia.weak (jXn (hla.trans hsa.1.symm)) fun j v hv=>(kQ6 hv).2).pins_of (fun p hp=>absurd hp (by simp)),hsm,hga⟩,?_,fun b hb=> ?_,pa⟩
    ·exact T0.keep _ _ _ st7 fun b hb o e=>(Ia.pin (b,o) (lKv _ (lKv _ (jU8 hb e)))).1
    ·obtain⟨o,e,d⟩:=T0.obj _ _ st7 b hb
     exact (Ia.pin (b,o) (lKv _ (lKv _ (jU8 hb e)))).2.1
   cases b with
   | false=>
    rw[lJb lJp] at q9 ⊢
    exact back (e8.trans e9) I9 q9
   | true=>
    rw[lJa rfl] at q9 ⊢
    refine thn (he _ _ _ _ ([]++jVe fp s7.heap) s9 τ8 G9 H9 _ I9 q9) fun y s10 w_=>w_.el fun ty G10 H10 e10 I10 r10 ⟨hD10,hz10,q10⟩=> ?_
    obtain⟨vy,rvy,ruy⟩:=r10
    refine thn (jKk ([]++jVe fp s7.heap) s10 τ8 G10 H10 (.ref D) [ty] (.ref D) [y] (fun _ G'=>P (i+1) (acc++[ty]) G') I10 ⟨.ref D,rfl,rfl⟩ ⟨[vy],.one rvy,.cons ruy .nil⟩ ⟨D,acc,ty,rfl,rfl,hD10,hz10,q10⟩) fun _ s11 w_=>w_.el fun _ G11 H11 e11 I11 _ q11=> ?_
    exact back (((e8.trans e9).trans e10).trans e11) I11 q11
  ·have ei:i=xs.length:=by omega
   refine thn (T0.done (jQ5 X scope cl s3.heap.objs.size fp s3 (upd H2 D (.lst []))) rfl rfl rfl hc i [] s5 σ5 H5 (fun _ _=>False) I5 (fpc fr5 (by simp)) st5 (stop (by omega))) fun r s6 ⟨hr,I6⟩=> ?_
   subst hr;subst ei
   obtain⟨m,hn,_⟩:=I6.loc
   obtain⟨oC,es,ep,hoC,hdC,_⟩:=id hn
   refine hRR D s3.heap.objs.size s6 m hn ⟨G5,H5,eH.trans e5,I6.free,fin acc G5 p5,fun h' hb=>⟨σ,qXg I3 f3 (lJe _) I6 hb,hs2.mono e5,hg5⟩⟩
    ⟨oC,hoC,lQa I3.lt,I3.nofs (lJe _),fun v z=>by rw[hdC] at z;cases z⟩ (fun x d hd=> ?_) (fun p hp=> ?_) I3.sz
   ·obtain⟨v,q⟩:=I3.cell x d hd
    exact lJw q.lt
   ·exact lJw (lJg (I3.pin p hp).1)
 exact codeAny_compStart_list (loop _ (by rw[<-hs3])) (T0.self _ 0 _ _ _ st4 (loop _ (by rw[<-hs3])))
theorem jQv (hc:X.calm=true) (ok:CmpOk X scope cl mask) (hi:PI3 X tg iter wi) (hgk:kXp mask g) (hg:∀C fp s H,PG3 (jQ5 X scope cl C fp s H) tg g) (hif:∀C fp s H,PIf3 (jQ5 X scope cl C fp s H) ifs tif) (he:∀C fp s H,PE3 (jQ5 X scope cl C fp s H) elt te)
  (hs:∀x,foldedSetIterable iter X.env x=pure x:=by intro _;rfl):PE3 X (.ListComp elt [⟨tg,iter,ifs,0⟩] scope pos) (jKu mask wi g tif te):=by
 intro pins s τ G H Q I h
 rw[eval_ListComp]
 refine wpAny_comprehension_free (use:=none) rfl hs (jZ1 ok.cl) ok.kind ok.nm (thn (hi pins s τ G H _ I h) fun xv s1 h1=>thn h1 fun itv s2 h2=> ?_)
 refine jZ0 (RR:=fun acc C=>compPost (model X.prog X.w) X.A X.xe none (EP3 X pins τ H Q) acc C) hc ok hgk hg hif he h2 ?_
 rintro D C s' m hn ⟨G1,H1,e1,_,q1,hI⟩ _ _ _ _
 exact⟨m,hn,fun h' hb=>⟨.ref D,G1,H1,e1,hI h' hb,⟨.ref D,rfl,rfl⟩,q1⟩⟩
theorem jYp {i:Nat} {y:Str} {py spos:Pos} (hc:X.calm=true) (hN:X.N.Nodup) (ok:CmpOk X scope cl mask) (hi:PI3 X tg iter wi) (hgk:kXp mask g) (hg:∀C fp s H,PG3 (jQ5 X scope cl C fp s H) tg g) (hif:∀C fp s H,PIf3 (jQ5 X scope cl C fp s H) ifs tif) (he:∀C fp s H,PE3 (jQ5 X scope cl C fp s H) elt te)
  (hy:X.N[i]? =some y:=by rfl) (hx:X.env.scope.names.lookup y=some .local:=by rfl)
  (hsw:swapsWith (.ListComp elt [⟨tg,iter,ifs,0⟩] scope pos) (some (.Name y py)) spos.line X.env=pure true:=by rfl)
  (hs:∀x,foldedSetIterable iter X.env x=pure x:=by intro _;rfl):PS3 X (.Assign [.Name y py] (.ListComp elt [⟨tg,iter,ifs,0⟩] scope pos) spos) (tAsg (jKu mask wi g tif te) (jJh i)):=by
 intro pins s τ G H D I h
 rw[exec_Assign_Name_used _ _ _ _ hsw];refine lJc (wpAny_standAt (lJc ?_))
 show wpAny _ X.A (do let _ <-comprehension (.ListComp elt [⟨tg,iter,ifs,0⟩] scope pos) scope X.env _ (newList []) false (eval iter X.env) (some (assign (.Name y py) X.env))) _ _ s
 refine lJc (lKn (wpAny_comprehension_free (use:=some (assign (.Name y py) X.env)) (Q:=fun _ s'=>SP3 X pins H D .next s') rfl hs (jZ1 ok.cl) ok.kind ok.nm
  (thn (hi pins s τ G H _ I h) fun xv s1 h1=>thn h1 fun itv s2 h2=> ?_)) (fun _ s' hq=>lJd (lJd hq)) fun _ _ e=>e)
 refine jZ0 (RR:=fun acc C=>compPost (model X.prog X.w) X.A X.xe (some (assign (.Name y py) X.env)) (fun _ s'=>SP3 X pins H D .next s') acc C) hc ok hgk hg hif he h2 ?_
 rintro Dd C s' m hn ⟨G1,H1,e1,hH1C,q1,hI⟩ ⟨oC,hoC,c1,c2,c3⟩ c4 c5 c6
 show wpAny _ X.A (assign (.Name y py) X.env (.ref Dd)) _ _ _
 obtain⟨σ1,I1,hs1,hg1⟩:=hI s'.heap (.refl ..)
 have I1':Inv X (pins++[(C,oC)]) σ1 H1 s':=I1.pins_of fun p hp=>(lJ1.mp hp).elim (fun z=>I1.pin p (lKv _ z)) fun z=>by
  obtain rfl:p=(C,oC):=by simpa using z
  exact⟨hoC,hH1C,c1,c2,c3⟩
 refine wpAny_assign_Name (jU4 I1' hN hy (.inl hx) (v:= .ref Dd) rfl (fun s2 I2=> ?_) (.inr hx))
 have hC2:s2.heap.get? C=some oC:=(I2.pin (C,oC) (lKv _ (lKv _ (by simp)))).1
 obtain⟨oC',es,ep,hoC',r⟩:=hn
 have eo:oC'=oC:=by rw[hoC] at hoC';exact (lKb hoC').symm
 subst eo
 refine⟨m,⟨oC',es,ep,hC2,r⟩,fun h' hb=>⟨_,G1,H1,e1,⟨_,?_,hs1.set i (show Rep X.K H1 (.ref Dd) (.ref Dd) from rfl),hg1⟩,q1⟩⟩
 exact I2.unpinned.turned (t':=s2.toks) (fun b o hb' e=>(hb.2 b hb').trans e) hH1C c1 (.inr c6) c4 c5
end
end L3
namespace HT
open PySem PyProof.Rows
def lexLe:(xs ys:List Int)->Bool
 | [],_=>true
 | _::_,[]=>false
 | x::xs,y::ys=>if x=y then lexLe xs ys else decide (x<=y)
theorem kXb (x y:Int) (xs ys:List Int):lexLe (x::xs) (y::ys)=if x=y then lexLe xs ys else decide (x<=y):=rfl
theorem kY4 (ys:List Int):lexLe [] ys=true:=by cases ys<;>rfl
theorem jZm (x:Int) (xs:List Int):lexLe (x::xs) []=false:=rfl
theorem qKi (A:Around) (s:Shared) (a:Int) (t:Tok) (c:Int) (u:Tok) (prog:Program) (w:World) (E:Value->Shared->Prop) (Q:Value->Shared->Prop) (h:Q (.bool (decide (a<=c))) s):
  wpAny (model prog w) A (richCompare .LtE (.int a t) (.int c u)) Q E s:=
 (PyProof.Rows.le_int h:wpAny (model prog w) A (compareOp .LtE (.int a t) (.int c u)) Q E s)
section
open PySem.SeqAt
open PySem.AutoSeq1 (wpAny_loadPart')
open PySem.MeetsSeq PySem.MeetsSeq2 PySem.MeetsSeq3
theorem jZ6 (l b:Addr) (items items2:Array Value) (n n2:Nat) (dd dd2:Option Addr) (sl sl2:Array (Option Value)) (ns ms:List Int) (hi:IntsAre items.toList ns) (hj:IntsAre items2.toList ms):
  Meets (Builtin.«tuple.__le__» ⟨[.ref l,.ref b],[]⟩)
   (fun _ R s=>s.heap.get? l=some {cls:= .type "tuple",dict:=dd,data:= .seq items n,slots:=sl}/\s.heap.get? b=some {cls:= .type "tuple",dict:=dd2,data:= .seq items2 n2,slots:=sl2}/\
    R (.ok (.ret (.bool (lexLe ns ms)))) s):=
 .of_wp fun prog w A R s h=>by
  obtain⟨hp,g,d,tk,os⟩:=s;obtain⟨hl,hb,h⟩:=h
  have f2:=AutoSeq1.sub_tuple_tuple
  have z1:items.size=ns.length:=by rw[<-hi.length];simp
  have z2:items2.size=ms.length:=by rw[<-hj.length];simp
  wp_walk using wpAny_loadPart' hl,wpAny_loadPart' hb,wpAny_forIn_list _ (fun rest b s'=>b.1=none/\s'=⟨hp,g,d,tk,os⟩/\∃(vs ws:List Value) (ns' ms':List Int),rest=vs.zip ws/\
   IntsAre vs ns'/\IntsAre ws ms'/\ns'.length+items2.size=ms'.length+items.size/\R (.ok (.ret (.bool (lexLe ns' ms')))) ⟨hp,g,d,tk,os⟩) _
  case turn=>
   rintro⟨y,x⟩ rest b s' ⟨hb',rfl,vs,ws,ns',ms',hz,hvi,hwi,hlen,hR⟩
   cases hvi with
   | nil=>rw[List.zip_nil_left] at hz;cases hz
   | cons a t hvi'=>
    cases hwi with
    | nil=>rw[List.zip_nil_right] at hz;cases hz
    | cons c u hwi'=>
     rw[lVy] at hz
     injection hz with hyx hrest
     injection hyx with hy hx
     subst hy hx
     rw[kXb] at hR
     simp only[lKe] at hlen
     obtain⟨e,he,hiff⟩:=qQq A.in1 ⟨hp,g,d,tk,os⟩ a t c u
     refine lJc (he prog w _ _ ?_)
     cases e with
     | true=>
      rw[lJa (hiff.mp rfl)] at hR
      wp_walk
      exact⟨rfl,rfl,_,_,_,_,hrest,hvi',hwi',by omega,hR⟩
     | false=>
      rw[lJb (fun q=>absurd (hiff.mpr q) lJp)] at hR
      have hri:=qKi A.in1 ⟨hp,g,d,tk,os⟩ a t c u prog w
      wp_walk using hri
      exact⟨_,rfl,by simpa using hR⟩
  case fin=>
   rintro⟨b1,b2⟩ s' ⟨hb',rfl,vs,ws,ns',ms',hz,hvi,hwi,hlen,hR⟩
   simp only at hb'
   subst hb'
   have hv:lexLe ns' ms'=decide (items.size<=items2.size):=by
    cases hvi with
    | nil=>
     simp only[lQk] at hlen
     rw[kY4]
     exact (lJs (by omega)).symm
    | cons a t hv=>
     cases hwi with
     | nil=>
      simp only[lQk,lKe] at hlen
      rw[jZm]
      exact (lJu (by omega)).symm
     | cons c u hw=>
      rw[lVy] at hz
      cases hz
   rw[hv] at hR
   wp_walk
   exact⟨_,rfl,by simpa[Builtin.Tuple.tupleCompareSizes] using hR⟩
  case h=>
   exact⟨rfl,rfl,items.toList,items2.toList,ns,ms,rfl,hi,hj,by omega,h⟩
end
theorem le_tupInts {prog:Program} {w:World} {A:Around} {E:Value->Shared->Prop} {s:Shared} {l b:Addr} {items items2:Array Value} {ns ms:List Int} {Q:Value->Shared->Prop} (hl:IsTup s.heap l items) (hb:IsTup s.heap b items2) (hi:IntsAre items.toList ns) (hj:IntsAre items2.toList ms)
  (hu:A.units<cLine) (h:Q (.bool (lexLe ns ms)) s):wpAny (model prog w) A (compareOp .LtE (.ref l) (.ref b)) Q E s:=by
 obtain⟨⟨cls,dd,data,sl⟩,ho,hc,n,hd⟩:=id hl
 obtain⟨⟨cls2,dd2,data2,sl2⟩,ho2,hc2,n2,hd2⟩:=id hb
 simp only at hc hd hc2 hd2
 subst hc hd hc2 hd2
 exact richCompare_meets_room (op:= .LtE) ⟨_,ho,rfl⟩ ⟨_,ho2,rfl⟩ PySem.F.slot_tuple_le PySem.F.entry_tuple_le (PySem.F.args_tuple_le_2 _ _) (jZ6 l b items items2 n n2 dd dd2 sl sl2 ns ms hi hj)
  ⟨ho,ho2,show Value.bool (lexLe ns ms)≠Value.notImplemented/\Q (.bool (lexLe ns ms)) s from⟨(fun x=>nomatch x),h⟩⟩ hu
end HT
namespace L3
open PySem PySem.Spec PyProof.Rows L2
section
variable {X:Cx}
theorem jKw {K:PySem.W.Frag} {H:Hp}:∀ {ns:List Int} {vs:List V},Reps K H (ns.map T.int) vs->vs=ns.map V.int
 | [],_,h=>h
 | n::ns,_,⟨v,ws,e,r,rs⟩=>by
  subst e;cases (show v= .int n from r)
  rw[jKw rs];rfl
def rLeT:R3:=fun x y G Q=>∃ns ms,x= .tup (ns.map T.int)/\y= .tup (ms.map T.int)/\Q (.bl (HT.lexLe ns ms)) G
theorem o_leT (hu:X.A.units<cLine):Op3 X (compareOp .LtE) rLeT:=by
 rintro pins s τ G H x y v u Q ⟨σ,I,hs,hg⟩ ⟨a,ra,rv⟩ ⟨b,rb,ru⟩ ⟨ns,ms,ex,ey,q⟩
 subst ex;subst ey
 obtain⟨p,vs,e1,h1,h2⟩:=(show ∃p vs,a= .ref p/\H p=some (.tup vs)/\Reps X.K H (ns.map T.int) vs from ra)
 obtain⟨p',ws,e2,h3,h4⟩:=(show ∃p vs,b= .ref p/\H p=some (.tup vs)/\Reps X.K H (ms.map T.int) vs from rb)
 subst e1;subst e2
 cases rv;cases ru
 rw[jKw h2] at h1
 rw[jKw h4] at h3
 obtain⟨its,r1,p1,_⟩:=I.tuple (.of h1)
 obtain⟨its2,r2,p2,_⟩:=I.tuple (.of h3)
 exact HT.le_tupInts p1 p2 (show IntsAre its.toArray.toList ns from jZw r1) (show IntsAre its2.toArray.toList ms from jZw r2) hu ⟨.bl _,G,H,.refl H,⟨σ,I,hs,hg⟩,⟨.bl _,rfl,rfl⟩,q⟩
def rLeI:R3:=rI0 fun i j=> .bl (decide (i<=j))
def rLeA:R3:=fun x y G Q=>rLeI x y G Q\/rLeT x y G Q
theorem o_leA (hu:X.A.units+20<cLine):Op3 X (compareOp .LtE) rLeA:=o_le.or (o_leT (by omega))
theorem kZu {G:Gp} {x y:T} {b:Bool} (h:eqG G x y=some b):
  (∃p q xs ys,x= .ref p/\y= .ref q/\G p=some (.lst xs)/\G q=some (.lst ys)/\jX2 xs=true/\jX2 ys=true/\b=eqTs xs ys)\/(eqOk x=true/\eqOk y=true/\b=eqT x y):=by
 by_cases hr:∃p q,x= .ref p/\y= .ref q
 ·obtain⟨p,q,ex,ey⟩:=hr
  subst ex;subst ey
  refine .inl ?_
  simp only[eqG] at h
  split at h
  ·rename_i xs ys h1 h2
   split at h
   ·rename_i hc
    cases h
    exact⟨p,q,xs,ys,rfl,rfl,h1,h2,hc.1,hc.2,rfl⟩
   ·cases h
  ·cases h
 ·refine .inr ?_
  have e:eqG G x y=if eqOk x=true/\eqOk y=true then some (eqT x y) else none:=by
   cases x with
   | ref p=>cases y with
    | ref q=>exact absurd ⟨p,q,rfl,rfl⟩ hr
    | _=>rfl
   | _=>rfl
  rw[e] at h
  split at h
  ·rename_i hc
   cases h
   exact⟨hc.1,hc.2,rfl⟩
  ·cases h
mutual
theorem kJh {X:Cx} {pins:List (Addr×Obj)} {σ:L2.St} {H:Hp} {s:Shared} (I:Inv X pins σ H s):∀(x:T) {a:V} {u:Value},tree x=true->Rep X.K H x a->RelV a u->∃as,Reads s.heap u (td x) as
 | .non,a,u,_,r,q=>by cases (show a= .non from r);cases q;exact⟨_,.none⟩
 | .bl b,a,u,_,r,q=>by cases (show a= .bl b from r);cases q;exact⟨_,.bool b⟩
 | .int b,a,u,_,r,q=>by cases (show a= .int b from r);obtain⟨t,rfl⟩:=q;exact⟨_,.int b t⟩
 | .str b,a,u,_,r,q=>by cases (show a= .str b from r);obtain⟨t,rfl⟩:=q;exact⟨_,.str b t⟩
 | .tup xs,a,u,ht,r,q=>by
  obtain⟨p,vs,e1,h1,h2⟩:=(show ∃p vs,a= .ref p/\H p=some (.tup vs)/\Reps X.K H xs vs from r)
  subst e1;cases q
  obtain⟨its,rv,⟨o,ho,hc,n,hd⟩,_⟩:=I.tuple (.of h1)
  obtain⟨as,ra⟩:=jVt I xs (show jK5 xs=true from ht) h2 rv
  exact⟨_,.tuple ho hc hd (by simpa using ra)⟩
 | .ref _,_,_,ht,_,_=>absurd (show false=true from ht) lJp
 | .scr _,_,_,ht,_,_=>absurd (show false=true from ht) lJp
 | .ty _,_,_,ht,_,_=>absurd (show false=true from ht) lJp
theorem jVt {X:Cx} {pins:List (Addr×Obj)} {σ:L2.St} {H:Hp} {s:Shared} (I:Inv X pins σ H s):∀(xs:List T) {vs:List V} {us:List Value},jK5 xs=true->Reps X.K H xs vs->Vals vs us->∃as,ReadsAll s.heap us (tds xs) as
 | [],_,_,_,r,q=>by cases r;cases q;exact⟨_,.nil⟩
 | x::xs,_,_,ht,⟨v,ws,e,r1,r2⟩,q=>by
  subst e
  cases q with
  | cons q1 q2=>
   have hx:tree x=true/\jK5 xs=true:=by simpa[jK5] using ht
   obtain⟨as,ra⟩:=kJh I x hx.1 r1 q1
   obtain⟨bs,rb⟩:=jVt I xs hx.2 r2 q2
   exact⟨_,.cons ra rb⟩
end
mutual
theorem eqv_T:∀(x y:T),tree x=true->tree y=true->PyData.eqv (td x) (td y)=eqT x y
 | .non,y,_,hy=>by cases y<;>first | rfl | exact absurd (show false=true from hy) lJp
 | .bl b,y,_,hy=>by cases y<;>first | rfl | exact absurd (show false=true from hy) lJp
 | .int b,y,_,hy=>by cases y<;>first | rfl | exact absurd (show false=true from hy) lJp
 | .str b,y,_,hy=>by cases y<;>first | rfl | exact absurd (show false=true from hy) lJp
 | .tup xs,y,hx,hy=>by
  cases y with
  | tup ys=>exact kZs xs ys (show jK5 xs=true from hx) (show jK5 ys=true from hy)
  | _=>first | rfl | exact absurd (show false=true from hy) lJp
 | .ref _,_,ht,_=>absurd (show false=true from ht) lJp
 | .scr _,_,ht,_=>absurd (show false=true from ht) lJp
 | .ty _,_,ht,_=>absurd (show false=true from ht) lJp
theorem kZs:∀(xs ys:List T),jK5 xs=true->jK5 ys=true->PyData.eqvAll (tds xs) (tds ys)=eqTs xs ys
 | [],[],_,_=>rfl
 | [],_::_,_,_=>rfl
 | _::_,[],_,_=>rfl
 | x::xs,y::ys,hx,hy=>by
  have hx':tree x=true/\jK5 xs=true:=by simpa[jK5] using hx
  have hy':tree y=true/\jK5 ys=true:=by simpa[jK5] using hy
  show (PyData.eqv (td x) (td y)&&PyData.eqvAll (tds xs) (tds ys))=(eqT x y&&eqTs xs ys)
  rw[eqv_T x y hx'.1 hy'.1,kZs xs ys hx'.2 hy'.2]
end
theorem kVf {pins:List (Addr×Obj)} {σ:L2.St} {H:Hp} {s:Shared} {G:Gp} {x y:T} {a b:V} {u v:Value} {k:Bool} (I:Inv X pins σ H s) (hg:GRel X.K H G) (ra:Rep X.K H x a) (rb:Rep X.K H y b) (ru:RelV a u) (rv:RelV b v) (h:eqG G x y=some k):
  ∃da db as bs,Reads s.heap u da as/\Reads s.heap v db bs/\da.canLay0=true/\db.canLay0=true/\da.depth<=50/\PyData.eqv da db=k:=by
 rcases kZu h with ⟨p,q,xs,ys,ex,ey,hp,hq,ox,oy,e⟩ | ⟨ox,oy,e⟩
 ·subst ex;subst ey
  cases (show a= .ref p from ra);cases (show b= .ref q from rb)
  cases ru;cases rv
  obtain⟨vs,h1,h2⟩:=hg.lst hp
  obtain⟨ws,h3,h4⟩:=hg.lst hq
  obtain⟨its,r1,⟨o,n,ho,hc,_,hd⟩,_⟩:=I.list (.of h1)
  obtain⟨its',r2,⟨o',n',ho',hc',_,hd'⟩,_⟩:=I.list (.of h3)
  simp only[jX2,lKy,lQh] at ox oy
  obtain⟨as,r3⟩:=jVt I xs ox.1.1 h2 r1
  obtain⟨bs,r4⟩:=jVt I ys oy.1.1 h4 r2
  exact⟨.list (tds xs),.list (tds ys),_,_,.list ho hc hd (by simpa using r3),.list ho' hc' hd' (by simpa using r4),ox.1.2,oy.1.2,ox.2,by rw[e];exact kZs xs ys ox.1.1 oy.1.1⟩
 ·simp only[eqOk,lKy,lQh] at ox oy
  obtain⟨as,r3⟩:=kJh I x ox.1.1 ra ru
  obtain⟨bs,r4⟩:=kJh I y oy.1.1 rb rv
  exact⟨td x,td y,_,_,r3,r4,ox.1.2,oy.1.2,ox.2,by rw[e];exact eqv_T x y ox.1.1 oy.1.1⟩
theorem jK3 (hu:X.A.units+64<cLine):Op3 X (compareOp .Eq) rEqA:=by
 rintro pins s τ G H x y v u Q ⟨σ,I,hs,hg⟩ ⟨a,ra,rv⟩ ⟨b,rb,ru⟩ ⟨k,hk,q⟩
 obtain⟨da,db,as,bs,r1,r2,c1,c2,d,e⟩:=kVf I hg ra rb rv ru hk
 exact SeqAt.compareEq_reads r1 r2 c1 c2 (by omega) ⟨.bl k,G,H,.refl H,⟨σ,I,hs,hg⟩,⟨.bl k,rfl,by rw[e];rfl⟩,q⟩
theorem o_neA (hu:X.A.units+64<cLine):Op3 X (compareOp .NotEq) rNeA:=by
 rintro pins s τ G H x y v u Q ⟨σ,I,hs,hg⟩ ⟨a,ra,rv⟩ ⟨b,rb,ru⟩ ⟨k,hk,q⟩
 obtain⟨da,db,as,bs,r1,r2,c1,c2,d,e⟩:=kVf I hg ra rb rv ru hk
 exact SeqAt.compareNe_reads r1 r2 c1 c2 (by omega) ⟨.bl (!k),G,H,.refl H,⟨σ,I,hs,hg⟩,⟨.bl (!k),rfl,by rw[e];rfl⟩,q⟩
end
section
variable {X:Cx}
def jUo:T->Bool
 | .non=>true
 | .bl _=>true
 | .int _=>true
 | .str _=>true
 | _=>false
theorem jVa {K:PySem.W.Frag} {H:Hp} {x:T} {a:V} (r:Rep K H x a) (f:jUo x=true):jZn a=true:=by
 cases x with
 | non=>cases (show a= .non from r);rfl
 | bl _=>cases (show a= .bl _ from r);rfl
 | int _=>cases (show a= .int _ from r);rfl
 | str _=>cases (show a= .str _ from r);rfl
 | _=>exact absurd (show false=true from f) lJp
theorem kUd {K:PySem.W.Frag} {H:Hp} {x y:T} {a b:V} (r:Rep K H x a) (q:Rep K H y b) (f:jUo x=true) (g:jUo y=true):eqV a b=eqT x y:=by
 cases x with
 | non=>cases (show a= .non from r);cases y with
  | non=>cases (show b= .non from q);rfl
  | bl _=>cases (show b= .bl _ from q);rfl
  | int _=>cases (show b= .int _ from q);rfl
  | str _=>cases (show b= .str _ from q);rfl
  | _=>exact absurd (show false=true from g) lJp
 | bl _=>cases (show a= .bl _ from r);cases y with
  | non=>cases (show b= .non from q);rfl
  | bl _=>cases (show b= .bl _ from q);rfl
  | int _=>cases (show b= .int _ from q);rfl
  | str _=>cases (show b= .str _ from q);rfl
  | _=>exact absurd (show false=true from g) lJp
 | int _=>cases (show a= .int _ from r);cases y with
  | non=>cases (show b= .non from q);rfl
  | bl _=>cases (show b= .bl _ from q);rfl
  | int _=>cases (show b= .int _ from q);rfl
  | str _=>cases (show b= .str _ from q);rfl
  | _=>exact absurd (show false=true from g) lJp
 | str _=>cases (show a= .str _ from r);cases y with
  | non=>cases (show b= .non from q);rfl
  | bl _=>cases (show b= .bl _ from q);rfl
  | int _=>cases (show b= .int _ from q);rfl
  | str _=>cases (show b= .str _ from q);rfl
  | _=>exact absurd (show false=true from g) lJp
 | _=>exact absurd (show false=true from f) lJp
def inT (x:T) (xs:List T):Bool:=xs.any fun y=>eqT y x
theorem jYb {K:PySem.W.Frag} {H:Hp} {x:T} {a:V} (r:Rep K H x a) (f:jUo x=true):∀ {xs:List T} {vs:List V},Reps K H xs vs->xs.all jUo=true->vs.all jZn=true/\inV a vs=inT x xs
 | [],_,h,_=>by cases h;exact⟨rfl,rfl⟩
 | y::ys,_,⟨v,ws,e,r1,r2⟩,g=>by
  subst e
  rw[lQj,lKy] at g
  obtain⟨h1,h2⟩:=jYb r f r2 g.2
  refine⟨by rw[lQj,jVa r1 g.1,h1];rfl,?_⟩
  unfold inV inT at h2 ⊢
  rw[lQb,lQb,kUd r1 r g.1 f,h2]
def rInF (neg:Bool):R3:=fun x y G Q=>∃xs,seqT G y=some xs/\jUo x=true/\xs.all jUo=true/\Q (.bl (if neg then !inT x xs else inT x xs)) G
theorem kZl {neg:Bool} {op:CmpOp} (h:OpR X (compareOp op) (L2.rIn X.K neg)):Op3 X (compareOp op) (rInF neg):=
 Op3.of h fun H G x y a b Q hg ra rb ⟨xs,hx,fx,fs,q⟩=>by
  obtain⟨p,vs,e,hq,r⟩:=jQy hg rb hx
  obtain⟨h1,h2⟩:=jYb ra fx r fs
  exact⟨p,vs,e,hq,jVa ra fx,h1,.bl _,G,.refl H,hg,by rw[h2];rfl,q⟩
theorem o_inF:Op3 X (compareOp .In) (rInF false):=kZl kYp
theorem o_notInF:Op3 X (compareOp .NotIn) (rInF true):=kZl kKt
def kT:Key->T
 | .inl i=> .int i
 | .inr x=> .str x
def jQm:T->Option Key
 | .int i=>some (.inl i)
 | .str x=>some (.inr x)
 | _=>none
def allK {K:Type} (f:T->Option K):List T->Option (List K)
 | []=>some []
 | x::xs=>match f x,allK f xs with
  | some k,some ks=>some (k::ks)
  | _,_=>none
def key1:T->Option K1
 | .tup ts=>(allK jQm ts).map .inr
 | x=>(jQm x).map .inl
def key2:T->Option K2
 | .tup ts=>(allK key1 ts).map .inr
 | x=>(jQm x).map .inl
def jQ4:List T->Option TKey:=allK key2
theorem jQl {K:PySem.W.Frag} {H:Hp} {x:T} {a:V} {k:Key} (h:jQm x=some k) (r:Rep K H x a):a=kV k:=by
 cases x with
 | int i=>cases h;exact r
 | str i=>cases h;exact r
 | non=>cases h
 | bl _=>cases h
 | tup _=>cases h
 | scr _=>cases h
 | ref _=>cases h
 | ty _=>cases h
theorem jYf {K:PySem.W.Frag} {H:Hp} {κ:Type} {f:T->Option κ} {R:κ->V->Prop} (hf:∀x k a,f x=some k->Rep K H x a->R k a):∀ {xs:List T} {vs:List V} {ks:List κ},allK f xs=some ks->Reps K H xs vs->Paired R ks vs
 | [],_,_,h,r=>by cases h;cases (show _=[] from r);exact .nil
 | x::xs,_,ks,h,⟨v,ws,e,r1,r2⟩=>by
  subst e
  unfold allK at h
  cases e1:f x with
  | none=>rw[e1] at h;cases h
  | some k=>
   cases e2:allK f xs with
   | none=>rw[e1,e2] at h;cases h
   | some ks'=>
    rw[e1,e2] at h;cases h
    exact .cons (hf _ _ _ e1 r1) (jYf hf e2 r2)
theorem qQc {K:PySem.W.Frag} {H:Hp} (x:T) (k:K1) (a:V) (h:key1 x=some k) (r:Rep K H x a):Rk1 H k a:=by
 cases x with
 | tup ts=>
  obtain⟨ks,h1,rfl⟩:=lQl.mp (show (allK jQm ts).map Sum.inr=some k from h)
  obtain⟨p,vs,e,h3,h4⟩:=(show ∃p vs,a= .ref p/\H p=some (.tup vs)/\Reps K H ts vs from r)
  exact⟨p,vs,e,h3,jYf (fun x k a h r=>jQl h r) h1 h4⟩
 | int i=>cases h;exact r
 | str i=>cases h;exact r
 | non=>cases h
 | bl _=>cases h
 | scr _=>cases h
 | ref _=>cases h
 | ty _=>cases h
theorem qQa {K:PySem.W.Frag} {H:Hp} (x:T) (k:K2) (a:V) (h:key2 x=some k) (r:Rep K H x a):Rk2 H k a:=by
 cases x with
 | tup ts=>
  obtain⟨ks,h1,rfl⟩:=lQl.mp (show (allK key1 ts).map Sum.inr=some k from h)
  obtain⟨p,vs,e,h3,h4⟩:=(show ∃p vs,a= .ref p/\H p=some (.tup vs)/\Reps K H ts vs from r)
  exact⟨p,vs,e,h3,jYf qQc h1 h4⟩
 | int i=>cases h;exact r
 | str i=>cases h;exact r
 | non=>cases h
 | bl _=>cases h
 | scr _=>cases h
 | ref _=>cases h
 | ty _=>cases h
theorem jQ3 {K:PySem.W.Frag} {H:Hp} {xs:List T} {vs:List V} {ks:TKey} {p:Addr} (h:jQ4 xs=some ks) (e:H p=some (.tup vs)) (r:Reps K H xs vs):TKeyAt H ks p:=⟨vs,e,jYf qQa h r⟩
def valT {κ:Type} [DecidableEq κ] (kvs:List (κ×T)) (k:κ):Option T:=(kvs.find? fun kv=>decide (kv.1=k)).map (·.2)
noncomputable def putT {κ:Type} [DecidableEq κ] (kvs:List (κ×T)) (k:κ) (v:T):List (κ×T):=
 if (kvs.any fun kv=>decide (kv.1=k))=true then kvs.map (fun kv=>if kv.1=k then (kv.1,v) else kv) else kvs++[(k,v)]
theorem PKV.val {κ:Type} [DecidableEq κ] {K:PySem.W.Frag} {H:Hp} {kvs:List (κ×T)} {ws:List (κ×V)} (r:PKV K H kvs ws) (k:κ):(∀t,valT kvs k=some t->∃v,valV ws k=some v/\Rep K H t v)/\(valT kvs k).isSome=(valV ws k).isSome:=by
 unfold PKV at r
 induction r with
 | nil=>exact⟨fun t h=>by simp[valT] at h,rfl⟩
 | @cons p q ps qs h t ih=>
  by_cases e:p.1=k
  ·have e':q.1=k:=h.1.symm.trans e
   have b:valT (p::ps) k=some p.2:=by simp[valT,lQc,e]
   rw[b,jX5 e']
   exact⟨fun t ht=>by cases ht;exact⟨q.2,rfl,h.2⟩,rfl⟩
  ·have e':¬ q.1=k:=fun z=>e (h.1.trans z)
   have b:valT (p::ps) k=valT ps k:=by simp[valT,lQc,e]
   rw[b,jX6 e']
   exact ih
theorem PKV.any {κ:Type} [DecidableEq κ] {K:PySem.W.Frag} {H:Hp} {kvs:List (κ×T)} {ws:List (κ×V)} (r:PKV K H kvs ws) (k:κ):(kvs.any fun kv=>decide (kv.1=k))=ws.any fun kv=>decide (kv.1=k):=by
 unfold PKV at r
 induction r with
 | nil=>rfl
 | cons h t ih=>rw[lQb,lQb,ih,h.1]
theorem PKV.put {κ:Type} [DecidableEq κ] {K:PySem.W.Frag} {H:Hp} {kvs:List (κ×T)} {ws:List (κ×V)} (r:PKV K H kvs ws) (k:κ) {t:T} {v:V} (rt:Rep K H t v):PKV K H (putT kvs k t) (putK ws k v):=by
 unfold putT putK
 rw[r.any k]
 by_cases e:(ws.any fun kv=>decide (kv.1=k))=true
 ·rw[lJa e,lJa e]
  unfold PKV at r ⊢
  clear e
  induction r with
  | nil=>exact .nil
  | @cons p q ps qs h t' ih=>
   rw[lJn,lJn]
   refine .cons ?_ ih
   obtain⟨h1,h2⟩:=h
   by_cases e:p.1=k
   ·rw[lJa e,lJa (h1.symm.trans e)];exact⟨h1,rt⟩
   ·rw[lJb e,lJb (fun z=>e (h1.trans z))];exact⟨h1,h2⟩
 ·rw[lJb e,lJb e];exact Paired.snoc r ⟨rfl,rt⟩
theorem PKV.length {κ:Type} {K:PySem.W.Frag} {H:Hp} {kvs:List (κ×T)} {ws:List (κ×V)} (r:PKV K H kvs ws):kvs.length=ws.length:=lQ4 r
noncomputable def dAt (G:Gp) (x y:T):Option (Option T):=match x with
 | .ref p=>match G p with
  | some (.dct kvs)=>match y with
   | .tup ys=>match jQ4 ys with
    | some ks=>some (valT kvs ks)
    | none=>none
   | _=>none
  | some (.dck kvs)=>match jQm y with
   | some k=>some (valT kvs k)
   | none=>none
  | some (.fdc kvs)=>match y with
   | .tup ys=>match jQ4 ys with
    | some ks=>some (valT kvs ks)
    | none=>none
   | _=>none
  | _=>none
 | _=>none
theorem kJ5 {K:PySem.W.Frag} {H:Hp} {G:Gp} {x y:T} {a b:V} {o:Option T} (hg:GRel K H G) (ra:Rep K H x a) (rb:Rep K H y b) (h:dAt G x y=some o):
  ∃p ov,a= .ref p/\DGet H p b ov/\o.isSome=ov.isSome/\∀t,o=some t->∃v,ov=some v/\Rep K H t v:=by
 unfold dAt at h
 split at h
 ·rename_i p
  cases (show a= .ref p from ra)
  split at h
  ·rename_i kvs hG
   split at h
   ·rename_i ys
    split at h
    ·rename_i ks hk
     cases h
     obtain⟨ws,h1,h2⟩:=hg p _ hG
     obtain⟨q,vs,e,h3,h4⟩:=(show ∃q vs,b= .ref q/\H q=some (.tup vs)/\Reps K H ys vs from rb)
     subst e
     exact⟨p,_,rfl,DGet.t h1 (jQ3 hk h3 h4),(h2.val ks).2,(h2.val ks).1⟩
    ·cases h
   ·cases h
  ·rename_i kvs hG
   split at h
   ·rename_i k hk
    cases h
    obtain⟨ws,h1,h2⟩:=hg p _ hG
    rw[jQl hk rb]
    exact⟨p,_,rfl,DGet.k h1,(h2.val k).2,(h2.val k).1⟩
   ·cases h
  ·rename_i kvs hG
   split at h
   ·rename_i ys
    split at h
    ·rename_i ks hk
     cases h
     obtain⟨ob,ws,h1,h2⟩:=(show ∃ob ws,H p=some (.frz ob (.dT ws))/\PKV K H kvs ws from hg p _ hG)
     obtain⟨q,vs,e,h3,h4⟩:=(show ∃q vs,b= .ref q/\H q=some (.tup vs)/\Reps K H ys vs from rb)
     subst e
     exact⟨p,_,rfl,.inr ⟨ws,ks,q,.inr ⟨ob,h1⟩,rfl,jQ3 hk h3 h4,rfl⟩,(h2.val ks).2,(h2.val ks).1⟩
    ·cases h
   ·cases h
  ·cases h
 ·cases h
def rDGet:R3:=fun x y G Q=>∃t,dAt G x y=some (some t)/\Q t G
theorem qVz (hu:X.A.units+20<cLine):Ix3 X rDGet:=by
 rintro value slice pins s τ G H x y v u Q ⟨σ,I,hs,hg⟩ ⟨a,ra,rv⟩ ⟨b,rb,ru⟩ ⟨t,hd,q⟩ hsl
 obtain⟨p,ov,e,g,_,hh⟩:=kJ5 hg ra rb hd
 obtain⟨w,ew,rw'⟩:=hh t rfl
 subst e;subst ew
 cases rv
 have hT:s.TypeIs (.ref p) "dict":=kUi I g
 unfold subscriptTail
 refine lJc ?_
 rw[getitemInPython_of_ne hT.not_modules]
 refine lJc (wpAny_specialOf hT PySem.F.slot_dict_getitem.lookup ?_)
 have fin:wpAny (model X.prog X.w) X.A (subscripted slice false (.ref p) u) (fun r s₃=>wpAny (model X.prog X.w) X.A (letTemporaryGo value (.ref p) r >>= fun _=>pure r) (EP3 X pins τ H Q) X.xe s₃) X.xe s:=by
  rw[hsl]
  exact wpAny_operating (kZ4 hu I g ru fun w' s' I' r'=>lJc (wpAny_letTemporaryGo (lJd ⟨t,G,H,.refl H,⟨σ,I',hs,hg⟩,⟨w,rw',r'⟩,q⟩)))
 first
  | exact lJd (lJc fin)
  | exact lJc (lJd (lJc fin))
  | exact lJc fin
theorem Ix3.or {r r':R3} (h:Ix3 X r) (h':Ix3 X r'):Ix3 X (fun x y G Q=>r x y G Q\/r' x y G Q):=by
 intro value slice pins s τ G H x y v u Q I rx ry q hs
 rcases q with q | q
 ·exact h value slice pins s τ G H x y v u Q I rx ry q hs
 ·exact h' value slice pins s τ G H x y v u Q I rx ry q hs
def rIxA:R3:=fun x y G Q=>rIx x y G Q\/rDGet x y G Q
theorem qV0 (hu:X.A.units+20<cLine):Ix3 X rIxA:=ix_any.or (qVz hu)
def rDIn:R3:=fun x y G Q=>∃o,dAt G y x=some o/\Q (.bl o.isSome) G
def kYk:R3:=fun x y G Q=>∃o,dAt G y x=some o/\Q (.bl (!o.isSome)) G
theorem o_dIn (hu:X.A.units+20<cLine):Op3 X (compareOp .In) rDIn:=by
 rintro pins s τ G H x y v u Q ⟨σ,I,hs,hg⟩ ⟨a,ra,rv⟩ ⟨b,rb,ru⟩ ⟨o,hd,q⟩
 obtain⟨p,ov,e,g,e2,_⟩:=kJ5 hg rb ra hd
 subst e;cases ru
 exact d_in hu I g rv fun s' I'=>⟨.bl _,G,H,.refl H,⟨σ,I',hs,hg⟩,⟨.bl _,rfl,by rw[<-e2];rfl⟩,q⟩
theorem qKw (hu:X.A.units+20<cLine):Op3 X (compareOp .NotIn) kYk:=by
 rintro pins s τ G H x y v u Q ⟨σ,I,hs,hg⟩ ⟨a,ra,rv⟩ ⟨b,rb,ru⟩ ⟨o,hd,q⟩
 obtain⟨p,ov,e,g,e2,_⟩:=kJ5 hg rb ra hd
 subst e;cases ru
 exact qXe hu I g rv fun s' I'=>⟨.bl _,G,H,.refl H,⟨σ,I',hs,hg⟩,⟨.bl _,rfl,by rw[<-e2];rfl⟩,q⟩
def rInL:R3:=fun x y G Q=>rInF false x y G Q\/rDIn x y G Q
def kYf:R3:=fun x y G Q=>rInF true x y G Q\/kYk x y G Q
theorem o_in (hu:X.A.units+20<cLine):Op3 X (compareOp .In) rInL:=o_inF.or (o_dIn hu)
theorem qVi (hu:X.A.units+20<cLine):Op3 X (compareOp .NotIn) kYf:=o_notInF.or (qKw hu)
def jQk:TE3:=fun _ G Q=>(∀p,G p=none->Q (.ref p) (gup G p (.dct [])))\/∀p,G p=none->Q (.ref p) (gup G p (.dck []))
theorem qQs {pos:Pos}:PE3 X (.Dict [] [] pos) jQk:=by
 rintro pins s τ G H Q ⟨σ,I,hs,hg⟩ h
 rcases h with h | h
 ·exact thn (qKp pins s σ H (up X.K H Q) I fun p hp=>⟨.ref p,_,.upd (.none hp),hg.upd (.none hp) (go:= .dct []) ⟨[],jJ6,.nil⟩,rfl,h p (hg.fresh hp)⟩) fun u s' z=>jUf hs z
 ·exact thn (qKq pins s σ H (up X.K H Q) I fun p hp=>⟨.ref p,_,.upd (.none hp),hg.upd (.none hp) (go:= .dck []) ⟨[],jJ6,.nil⟩,rfl,h p (hg.fresh hp)⟩) fun u s' z=>jUf hs z
noncomputable def qUc:T->T->T->Gp->(Gp->Prop)->Prop:=fun o i v G Q=>∃p ys ks kvs,o= .ref p/\i= .tup ys/\jQ4 ys=some ks/\G p=some (.dct kvs)/\kvs.length<sizeLine/\Q (gup G p (.dct (putT kvs ks v)))
def qUd:T->T->T->Gp->(Gp->Prop)->Prop:=fun o i v G Q=>∃p k kvs,o= .ref p/\jQm i=some k/\G p=some (.dck kvs)/\kvs.length<sizeLine/\Q (gup G p (.dck (putT kvs k v)))
theorem qU0 (hu:X.A.units+20<cLine):Set3 X qUc:=by
 rintro pins s τ G H o i v ov iv u Q ⟨σ,I,hs,hg⟩ ⟨a,ra,rv⟩ ⟨b,rb,ru⟩ ⟨c,rc,rw'⟩ ⟨p,ys,ks,kvs,eo,ei,hk,hG,hz,q⟩
 subst eo;subst ei
 cases (show a= .ref p from ra);cases rv
 obtain⟨ws,h1,h2⟩:=hg p _ hG
 obtain⟨b',vs,e,h3,h4⟩:=(show ∃q vs,b= .ref q/\H q=some (.tup vs)/\Reps X.K H ys vs from rb)
 subst e
 have h3:=jQ3 hk h3 h4
 have e:Ext H (upd H p (.dT (putK ws ks c))):= .upd (.dT h1)
 exact kQb hu I (DPut.t h1 h3 (by rw[<-h2.length];exact hz)) ru rw' fun s' I'=>⟨_,_,e,⟨σ,I',hs.mono e,hg.upd (.dT h1) (go:= .dct (putT kvs ks v)) ⟨_,jJ6,(h2.put ks rc).mono e⟩⟩,q⟩
theorem qU1 (hu:X.A.units+20<cLine):Set3 X qUd:=by
 rintro pins s τ G H o i v ov iv u Q ⟨σ,I,hs,hg⟩ ⟨a,ra,rv⟩ ⟨b,rb,ru⟩ ⟨c,rc,rw'⟩ ⟨p,k,kvs,eo,hk,hG,hz,q⟩
 subst eo
 cases (show a= .ref p from ra);cases rv
 obtain⟨ws,h1,h2⟩:=hg p _ hG
 have eb:=jQl hk rb
 subst eb
 have e:Ext H (upd H p (.dK (putK ws k c))):= .upd (.dK h1)
 exact kQb hu I (DPut.k h1 (by rw[<-h2.length];exact hz)) ru rw' fun s' I'=>⟨_,_,e,⟨σ,I',hs.mono e,hg.upd (.dK h1) (go:= .dck (putT kvs k v)) ⟨_,jJ6,(h2.put k rc).mono e⟩⟩,q⟩
theorem Set3.or {r r':T->T->T->Gp->(Gp->Prop)->Prop} (h:Set3 X r) (h':Set3 X r'):Set3 X (fun o i v G Q=>r o i v G Q\/r' o i v G Q):=by
 intro pins s τ G H o i v ov iv u Q I ro ri rv q
 rcases q with q | q
 ·exact h pins s τ G H o i v ov iv u Q I ro ri rv q
 ·exact h' pins s τ G H o i v ov iv u Q I ro ri rv q
def rSetA:T->T->T->Gp->(Gp->Prop)->Prop:=fun o i v G Q=>qKl o i v G Q\/qUc o i v G Q\/qUd o i v G Q
theorem s_any (hu:X.A.units+20<cLine):Set3 X rSetA:=s_list.or ((qU0 hu).or (qU1 hu))
end
noncomputable def jYh (G:Gp):T->Option String
 | .non=>some "NoneType"
 | .bl _=>some "bool"
 | .int _=>some "int"
 | .str _=>some "str"
 | .tup _=>some "tuple"
 | .scr _=>some "list"
 | .ref p=>match G p with
  | some (.lst _)=>some "list"
  | some (.dct _)=>some "dict"
  | some (.dck _)=>some "dict"
  | some (.fdc _)=>none
  | some (.ins _ _)=>none
  | some (.exc _)=>none
  | some (.tb _ _ _)=>none
  | none=>none
 | .ty _=>none
def subT (t n:String):Option Bool:=
 if n="bool"\/n="int"\/n="str"\/n="list"\/n="tuple" then some (t == n||(t == "bool"&&n == "int")) else none
theorem qK9 (K:PySem.W.Frag) {n:String} {b:Bool} (h:subT "bool" n=some b):PySem.W.kitOne K (.type "bool") (.type n)=some b:=by
 unfold subT at h
 split at h
 ·rename_i hn
  rcases hn with rfl | rfl | rfl | rfl | rfl<;>(cases h;kernel_rfl)
 ·cases h
theorem qK8 (K:PySem.W.Frag) {n:String} {b:Bool} (h:subT "NoneType" n=some b):PySem.W.kitOne K (.type "NoneType") (.type n)=some b:=by
 unfold subT at h
 split at h
 ·rename_i hn
  rcases hn with rfl | rfl | rfl | rfl | rfl<;>(cases h;kernel_rfl)
 ·cases h
theorem qVx (K:PySem.W.Frag) {n:String} {b:Bool} (h:subT "int" n=some b):PySem.W.kitOne K (.type "int") (.type n)=some b:=by
 unfold subT at h
 split at h
 ·rename_i hn
  rcases hn with rfl | rfl | rfl | rfl | rfl<;>(cases h;kernel_rfl)
 ·cases h
theorem qVw (K:PySem.W.Frag) {n:String} {b:Bool} (h:subT "str" n=some b):PySem.W.kitOne K (.type "str") (.type n)=some b:=by
 unfold subT at h
 split at h
 ·rename_i hn
  rcases hn with rfl | rfl | rfl | rfl | rfl<;>(cases h;kernel_rfl)
 ·cases h
theorem kY7 (K:PySem.W.Frag) {n:String} {b:Bool} (h:subT "tuple" n=some b):PySem.W.kitOne K (.type "tuple") (.type n)=some b:=by
 unfold subT at h
 split at h
 ·rename_i hn
  rcases hn with rfl | rfl | rfl | rfl | rfl<;>(cases h;kernel_rfl)
 ·cases h
theorem kU7 (K:PySem.W.Frag) {n:String} {b:Bool} (h:subT "list" n=some b):PySem.W.kitOne K (.type "list") (.type n)=some b:=by
 unfold subT at h
 split at h
 ·rename_i hn
  rcases hn with rfl | rfl | rfl | rfl | rfl<;>(cases h;kernel_rfl)
 ·cases h
theorem kU8 (K:PySem.W.Frag) {n:String} {b:Bool} (h:subT "dict" n=some b):PySem.W.kitOne K (.type "dict") (.type n)=some b:=by
 unfold subT at h
 split at h
 ·rename_i hn
  rcases hn with rfl | rfl | rfl | rfl | rfl<;>(cases h;kernel_rfl)
 ·cases h
section
variable {X:Cx}
theorem e_ty {x:Str} {n:String} {pos:Pos} (hg:Gl X x) (hm:X.mg x=none) (hv:bootBuiltins x=some (.type n)) (hn:x≠"__name__":=by decide) (hd:(x == ("__debug__":Str))=false:=by decide):PE3 X (.Name x pos) (tC (.ty n)):=
 fun pins s τ G H Q ⟨σ,I,hs,hg'⟩ q=>thn (qVb (v:= .ty n) hg hm hv rfl hn hd pins s σ H (up X.K H Q) I ⟨.ty n,G,.refl H,hg',rfl,q⟩) fun u s' h=>jUf hs h
def kitT (t:String):List T->Option Bool
 | []=>some false
 | .ty n::r=>match subT t n with
  | some true=>some true
  | some false=>kitT t r
  | none=>none
 | _::_=>none
def isiC:Option String->T->Option Bool
 | some t,.ty n=>subT t n
 | some t,.tup cs=>kitT t cs
 | _,_=>none
def isiT (G:Gp) (x c:T):Option Bool:=isiC (jYh G x) c
def rIsi:List T->Gp->VK3->Prop:=fun xs G Q=>∃x c b,xs=[x,c]/\isiT G x c=some b/\Q (.bl b) G
theorem kY8 {K:PySem.W.Frag} {H:Hp} {t:String} (ok:∀n b,subT t n=some b->PySem.W.kitOne K (.type t) (.type n)=some b):∀ {cs:List T} {vs:List V} {us:List Value} {b:Bool},Reps K H cs vs->Vals vs us->kitT t cs=some b->PySem.W.kitAny K (.type t) us=some b
 | [],_,_,_,r,q,h=>by cases r;cases q;exact h
 | c::cs,_,_,b,⟨v,ws,e,r1,r2⟩,q,h=>by
  subst e
  cases q with
  | cons q1 q2=>
   cases c with
   | ty n=>
    cases (show v= .ty n from r1)
    cases q1
    unfold kitT at h
    unfold PySem.W.kitAny
    cases e:subT t n with
    | none=>rw[e] at h;cases h
    | some k=>
     rw[e] at h
     rw[ok n k e]
     cases k with
     | true=>exact h
     | false=>exact kY8 ok r2 q2 h
   | _=>cases h
theorem jQe {pins:List (Addr×Obj)} {τ:St3} {G:Gp} {H:Hp} {s:Shared} {σ:L2.St} {c:T} {cv:V} {u cu:Value} {t:String} {b:Bool} {Q:VK3} {Hh:Heap->Prop} (I:Inv X pins σ H s) (hs:SRel X.K H σ τ) (hg:GRel X.K H G)
  (Z:PySem.W.KitX X.K u (.type t) Hh) (p:Hh s.heap) (hx:u≠ .builtin "__main__.__loader__#opaque") (ok:∀n b,subT t n=some b->PySem.W.kitOne X.K (.type t) (.type n)=some b)
  (rc:Rep X.K H c cv) (ru:RelV cv cu) (h:isiC (some t) c=some b) (q:Q (.bl b) G):
  wpAny (model X.prog X.w) X.A (call (.builtin "isinstance") [u,cu]) (EP3 X pins τ H Q) X.xe s:=by
 have fin:∀tk,EP3 X pins τ H Q (.bool b) {s with toks:=tk}:=fun tk=>⟨.bl b,G,H,.refl H,⟨σ,I.tok tk,hs,hg⟩,⟨.bl b,rfl,rfl⟩,q⟩
 cases c with
 | ty n=>
  cases (show cv= .ty n from rc);cases ru
  exact PySem.W.kia_one Z I.kIn p (ok n b h) hx fin
 | tup cs=>
  obtain⟨pp,vs,e,h1,h2⟩:=(show ∃p vs,cv= .ref p/\H p=some (.tup vs)/\Reps X.K H cs vs from rc)
  subst e;cases ru
  obtain⟨its,rv,⟨⟨cls,dd,data,sl⟩,ho,hc,n,hd⟩,_⟩:=I.tuple (.of h1)
  simp only at hc hd
  subst hc hd
  exact PySem.W.kia_tup Z I.kIn p ho (kY8 ok h2 rv h) hx fin
 | _=>cases h
theorem kUk:Call3 X (.builtin "isinstance") rIsi:=by
 rintro pins s τ G H xs us Q ⟨σ,I,hs,hg⟩ ⟨as,ras,rvs⟩ ⟨x,c,b,e,h,q⟩
 subst e
 obtain⟨a,cv,rfl,ra,rc⟩:=kYb ras
 obtain⟨u,cu,rfl,ru,rcu⟩:=rvs.two
 unfold isiT at h
 cases x with
 | non=>cases (show a= .non from ra);cases ru;exact jQe I hs hg PySem.W.kitx_none True.intro (fun z=>nomatch z) (fun n b=>qK8 _) rc rcu h q
 | bl k=>cases (show a= .bl k from ra);cases ru;exact jQe I hs hg PySem.W.kitx_bool True.intro (fun z=>nomatch z) (fun n b=>qK9 _) rc rcu h q
 | int k=>cases (show a= .int k from ra);obtain⟨t,rfl⟩:=ru;exact jQe I hs hg PySem.W.kitx_int True.intro (fun z=>nomatch z) (fun n b=>qVx _) rc rcu h q
 | str k=>cases (show a= .str k from ra);obtain⟨t,rfl⟩:=ru;exact jQe I hs hg PySem.W.kitx_str True.intro (fun z=>nomatch z) (fun n b=>qVw _) rc rcu h q
 | tup ys=>
  obtain⟨p,vs,e,h1,h2⟩:=(show ∃p vs,a= .ref p/\H p=some (.tup vs)/\Reps X.K H ys vs from ra)
  subst e;cases ru
  obtain⟨its,rv,⟨o,ho,hc,_⟩,_⟩:=I.tuple (.of h1)
  exact jQe I hs hg PySem.W.kitx_tuple ⟨o,ho,hc⟩ (fun z=>nomatch z) (fun n b=>kY7 _) rc rcu h q
 | scr ys=>
  obtain⟨p,vs,e,h1,h2⟩:=(show ∃p vs,a= .ref p/\FrL X.K H p vs/\Reps X.K H ys vs from ra)
  subst e;cases ru
  obtain⟨its,rv,⟨o,n,ho,hc,_⟩,_⟩:=I.list h1.sq
  exact jQe I hs hg PySem.W.kitx_list ⟨o,ho,hc⟩ (fun z=>nomatch z) (fun n b=>kU7 _) rc rcu h q
 | ref p=>
  cases (show a= .ref p from ra);cases ru
  cases hG:G p with
  | none=>simp only[jYh,hG] at h;cases h
  | some g=>
   cases g with
   | lst ys=>
    simp only[jYh,hG] at h
    obtain⟨vs,h1,h2⟩:=hg.lst hG
    obtain⟨its,rv,⟨o,n,ho,hc,_⟩,_⟩:=I.list (.of h1)
    exact jQe I hs hg PySem.W.kitx_list ⟨o,ho,hc⟩ (fun z=>nomatch z) (fun n b=>kU7 _) rc rcu h q
   | fdc kvs=>simp only[jYh,hG] at h;cases h
   | ins _ _=>simp only[jYh,hG] at h;cases h
   | exc _=>simp only[jYh,hG] at h;cases h
   | tb _ _ _=>simp only[jYh,hG] at h;cases h
   | dct kvs=>
    simp only[jYh,hG] at h
    obtain⟨ws,h1,_⟩:=hg p _ hG
    obtain⟨_,_,xs,_,o,es,ep,h3,h4,_⟩:=(show ObjOk X.prog X.w H s.heap p (.dT ws) from I.hok p _ h1)
    exact jQe I hs hg PySem.W.kitx_dict ⟨o,h3,h4.1⟩ (fun z=>nomatch z) (fun n b=>kU8 _) rc rcu h q
   | dck kvs=>
    simp only[jYh,hG] at h
    obtain⟨ws,h1,_⟩:=hg p _ hG
    obtain⟨_,_,vs,_,pp⟩:=(show ObjOk X.prog X.w H s.heap p (.dK ws) from I.hok p _ h1)
    obtain⟨o,es,ep,h3,h4,_⟩:=pp
    exact jQe I hs hg PySem.W.kitx_dict ⟨o,h3,h4.1⟩ (fun z=>nomatch z) (fun n b=>kU8 _) rc rcu h q
 | ty _=>cases h
abbrev TO3:=St3->Gp->(Option Int->Gp->Prop)->Prop
def PO3 (X:Cx) (e:Option Expr) (t:TO3):Prop:=
 ∀(pins:List (Addr×Obj)) (s:Shared) (τ:St3) (G:Gp) (H:Hp) (Q:Option Int->Gp->Prop),Inv3 X pins τ G H s->t τ G Q->
  wpAny (model X.prog X.w) X.A (evalPart e X.env) (fun u s'=>∃o G' H',Ext H H'/\Inv3 X pins τ G' H' s'/\IsPart u o/\Q o G') X.xe s
def jQ9:TO3:=fun _ G Q=>Q none G
def jVq (t:TE3):TO3:=fun τ G Q=>t τ G fun x G1=>∃i,x= .int i/\Q (some i) G1
theorem jZs:PO3 X none jQ9:=by
 intro pins s τ G H Q I h
 rw[evalPart_none]
 exact lJd ⟨none,G,H,.refl H,I,.none,h⟩
theorem jVx {e:Expr} {te:TE3} (h:PE3 X e te):PO3 X (some e) (jVq te):=by
 intro pins s τ G H Q I hw
 rw[evalPart_some]
 refine thn (h pins s τ G H _ I hw) fun u s1 w_=>w_.el fun x G1 H1 e1 I1 r_ ⟨i,ex,q⟩=>r_.el fun v rv ru=> ?_
 subst ex
 cases (show v= .int i from rv)
 obtain⟨t,rfl⟩:=ru
 exact⟨some i,G1,H1,e1,I1,.int i t,q⟩
def Sl3 (X:Cx) (r:T->Option Int->Option Int->Gp->VK3->Prop):Prop:=
 ∀(pins:List (Addr×Obj)) (s:Shared) (τ:St3) (G:Gp) (H:Hp) (x:T) (v vl vu:Value) (lo hi:Option Int) (sl:Addr) (Q:VK3),Inv3 X pins τ G H s->RU X.K H x v->s.heap.IsSliceOf sl vl vu .none->IsPart vl lo->IsPart vu hi->r x lo hi G Q->
  ∃T id,typeLookup (.type T) "__getitem__"=pure (some (.builtin id))/\s.TypeIs v T/\wpAny (model X.prog X.w) X.A (getItem v (.ref sl)) (EP3 X pins τ H Q) X.xe s
def tSl (r:T->Option Int->Option Int->Gp->VK3->Prop) (te:TE3) (tl th:TO3):TE3:=fun τ G Q=>te τ G fun x G1=>tl τ G1 fun l G2=>th τ G2 fun u G3=>r x l u G3 Q
theorem jXu {r:T->Option Int->Option Int->Gp->VK3->Prop} {e:Expr} {te:TE3} {lo hi:Option Expr} {tl th:TO3} {pos p2:Pos} (hr:Sl3 X r) (he:PE3 X e te) (hl:PO3 X lo tl) (hu:PO3 X hi th):PE3 X (.Subscript e (.Slice lo hi none p2) pos) (tSl r te tl th):=by
 intro pins s τ G H Q I h
 refine Subscript_ (thn (he pins s τ G H _ I h) fun v s1 w_=>w_.el fun x G1 H1 e1 I1 r1 q1=> ?_)
 refine wpAny_Slice (thn (hl pins s1 τ G1 H1 _ I1 q1) fun vl s2 ⟨l,G2,H2,e2,I2,pl,q2⟩=>thn (hu pins s2 τ G2 H2 _ I2 q2) fun vu s3 ⟨u,G3,H3,e3,⟨σ,I3,hs3,hg3⟩,pu,q3⟩=> ?_)
 rw[evalPart_none]
 refine lJd ?_
 have I4:Inv X pins σ H3 {s3 with heap:=s3.heap.push {cls:= .type "slice",data:= .fields #[vl,vu,.none]} }:=I3.kept (t':=s3.toks) fun b ob q=>lJo _ q
 obtain⟨T0,id,hT,ht,hg⟩:=hr pins {s3 with heap:=s3.heap.push {cls:= .type "slice",data:= .fields #[vl,vu,.none]} } τ G3 H3 x v vl vu l u s3.heap.objs.size Q ⟨σ,I4,hs3,hg3⟩ ((r1.mono e2).mono e3) (Heap.IsSliceOf.new ..) pl pu q3
 show wpAny (model X.prog X.w) X.A (subscriptTail e (.Slice lo hi none p2) v (.ref s3.heap.objs.size)) (EP3 X pins τ H Q) X.xe {s3 with heap:=s3.heap.push {cls:= .type "slice",data:= .fields #[vl,vu,.none]} }
 exact thn (tail_any (ops:=[.ref s3.heap.objs.size,v]) ht hT hg (by with_unfolding_all rfl)) fun _ _ z=>z.ext ((e1.trans e2).trans e3)
def cutT (xs:List T) (lo hi:Option Int):List T:=(xs.drop (HT.sIx xs.length 0 lo)).take (HT.sIx xs.length xs.length hi-HT.sIx xs.length 0 lo)
noncomputable def rSlA:T->Option Int->Option Int->Gp->VK3->Prop:=fun x lo hi G Q=>
 (∃xs,jK4 G x=some xs/\∀p,G p=none->Q (.ref p) (gup G p (.lst (cutT xs lo hi))))\/∃xs,x= .tup xs/\Q (.tup (cutT xs lo hi)) G
end
end L3
namespace HT
open PySem PyProof.Rows
theorem getItem_tuple_whole {prog:Program} {w:World} {A:Around} {E:Value->Shared->Prop} {s:Shared} {t sl:Addr} {items:Array Value} {vl vu:Value} {lo hi:Option Int} {Q:Value->Shared->Prop} (ht:IsTup s.heap t items) (hs:s.heap.IsSliceOf sl vl vu .none) (pl:IsPart vl lo) (pu:IsPart vu hi)
  (hw:sIx items.size 0 lo=0/\sIx items.size items.size hi=items.size) (h:Q (.ref t) s):wpAny (model prog w) A (getItem (.ref t) (.ref sl)) Q E s:=by
 obtain⟨os,hos,hcs,hds⟩:=id hs
 have hTs:s.TypeIs (.ref sl) "slice":=⟨os,hos,hcs⟩
 unfold getItem
 try with_reducible refine lQg ?_
 first | refine lJc (lJd ?_) | skip
 refine lJc (wpAny_sequenceKey ht.typeIs (by decide) ?_)
 refine lJc (lVq (name:=Str.ofString "__getitem__") ht.typeIs lVi
  (lVr lVi ht.typeIs entry_tuple_getitem ?_ (args_tuple_getitem _ _)))
 show wpAny _ _ (Builtin.Tuple.tupleItemsOf (.ref t) >>= _) _ _ s
 refine lJc (tupleItemsOf_ ht ?_)
 refine lJc (wpAny_typeOf hTs ?_)
 rw[lJa (by decide)]
 refine lJc (jUj hs pl pu ?_)
 have hyes:(((sIx items.size 0 lo:Nat):Int) == 0&&(1:Int) == 1&&(sIx items.size items.size hi-sIx items.size 0 lo) == items.size)=true:=by
  rw[hw.1,hw.2];simp
 show wpAny _ _ (if (((sIx items.size 0 lo:Nat):Int) == 0&&(1:Int) == 1&&(sIx items.size items.size hi-sIx items.size 0 lo) == items.size)=true then _ else _) _ _ s
 rw[lJa hyes]
 refine lJc ?_
 unfold Builtin.Tuple.tupleIsExact
 refine lJc (wpAny_typeOf ht.typeIs (lJd ?_))
 rw[lJa (by decide)]
 exact lJc (lVf (lJd ⟨_,rfl,lJd h⟩))
end HT
namespace L3
open PySem PySem.Spec PyProof.Rows L2
section
variable {X:Cx}
theorem Reps.cut {K:PySem.W.Frag} {H:Hp} {xs:List T} {vs:List V} (r:Reps K H xs vs) (lo hi:Option Int):Reps K H (cutT xs lo hi) (cutV vs lo hi):=by
 unfold cutT cutV
 rw[<-r.length]
 exact (r.drop _).take _
theorem kXj {xs:List T} {lo hi:Option Int} (h:HT.sIx xs.length 0 lo=0/\HT.sIx xs.length xs.length hi=xs.length):cutT xs lo hi=xs:=by
 unfold cutT
 rw[h.1,h.2]
 simp
theorem sl_any:Sl3 X rSlA:=by
 rintro pins s τ G H x v vl vu lo hi sl Q ⟨σ,I,hs,hg⟩ ⟨a,ra,rv⟩ hsl pl pu h
 rcases h with ⟨xs,hx,q⟩ | ⟨xs,ex,q⟩
 ·obtain⟨p,vs,e,hq,r⟩:=jQd hg ra hx
  subst e
  obtain⟨T0,id,h1,h2,h3⟩:=qUz pins s σ H (.ref p) v vl vu lo hi sl (up X.K H Q) I rv hsl pl pu ⟨p,vs,rfl,hq,fun l hl=>⟨.ref l,_,.upd (.none hl),hg.lstNew (r.cut lo hi) (.none hl),rfl,q l (hg.fresh hl)⟩⟩
  exact⟨T0,id,h1,h2,thn h3 fun _ _ z=>jUf hs z⟩
 ·subst ex
  obtain⟨p,vs,e,h1,h2⟩:=(show ∃p vs,a= .ref p/\H p=some (.tup vs)/\Reps X.K H xs vs from ra)
  subst e
  by_cases hw:HT.sIx xs.length 0 lo=0/\HT.sIx xs.length xs.length hi=xs.length
  ·cases rv
   obtain⟨its,rv',ht,hz⟩:=I.tuple (.of h1)
   have hlen:its.toArray.size=xs.length:=by rw[lJk,<-rv'.length,h2.length]
   refine⟨"tuple",_,lVi.lookup,ht.typeIs,HT.getItem_tuple_whole ht hsl pl pu (by rw[hlen];exact hw) ?_⟩
   rw[kXj hw] at q
   exact⟨.tup xs,G,H,.refl H,⟨σ,I,hs,hg⟩,⟨.ref p,ra,rfl⟩,q⟩
  ·obtain⟨T0,id,h3,h4,h5⟩:=sl_tup pins s σ H (.ref p) v vl vu lo hi sl (up X.K H Q) I rv hsl pl pu ⟨p,vs,rfl,.of h1,by rw[<-h2.length];exact hw,fun l hl=>⟨.tup (cutT xs lo hi),G,.upd (.none hl),hg.tupNew hl,Rep.tupNew (h2.cut lo hi) hl,q⟩⟩
   exact⟨T0,id,h3,h4,thn h5 fun _ _ z=>jUf hs z⟩
def jQh (ta:TA3):TE3:=fun τ G Q=>ta τ G fun vs G1=>∃j:Int,vs=[.int j]/\ -(2^62)<=j/\j<=2^20/\∀p,G1 p=none->Q (.ref p) (gup G1 p (.lst (rngT 0 j.toNat)))
theorem qKg {K:PySem.W.Frag} {H:Hp} {n:Nat} {vs:List V} (hl:vs.length=n) (h:∀(i:Nat) v,vs[i]? =some v->v= .int (0+i)):Reps K H (rngT 0 n) vs:=by
 have e:vs=(List.range n).map fun (k:Nat)=>V.int (0+k):=by
  apply lQ2
  intro i
  cases hv:vs[i]? with
  | none=>
   have:n<=i:=by rw[<-hl];exact lXj.mp hv
   simp[this]
  | some v=>
   have hi:i<n:=by rw[<-hl];exact (lJh.mp hv).1
   rw[h i v hv];simp[hi]
 rw[e]
 unfold rngT
 generalize List.range n=l
 induction l with
 | nil=>rfl
 | cons k ks ih=>exact⟨_,_,rfl,rfl,ih⟩
end
section
variable {X:Cx}
theorem jY7 {a:Expr} {ta:TA3} {pos p p2 p3:Pos} (hgl:Gl X "list") (hml:X.mg "list"=none) (hgr:Gl X "range") (hmr:X.mg "range"=none) (hc:X.calm=true) (ha:PA3 X [a] ta) (hs:starEach [a] X.env=[(false,eval a X.env)]:=by rfl)
  (ho:starEach [Expr.Call (.Name "range" p2) [a] [] p3] X.env=[(false,eval (.Call (.Name "range" p2) [a] [] p3) X.env)]:=by rfl):
  PE3 X (.Call (.Name "list" p) [.Call (.Name "range" p2) [a] [] p3] [] pos) (jQh ta):=by
 intro pins s τ G H Q I h
 obtain⟨σ0,I0,hs0,hg0⟩:=id I
 refine lVd (jUk I0 hgl hml (u:= .type "list") (by rfl) ?_)
 refine lQ5 (T:="list") ?_ ho rfl
 rw[ho]
 show wpAny _ _ (spliced ((false,eval (.Call (.Name "range" p2) [a] [] p3) X.env)::backTo pos [])) _ _ s
 refine Calls.spliced_cons ?_
 refine Call_ (jUk I0 hgr hmr boot_range (lQ5 (thn (ha p3 pins s τ G H _ I h) fun us s1 w_=>w_.el fun xs G1 H1 e1 i_ r_ ⟨j,e,q1,q2,q⟩=>i_.el fun σ I1 hs1 hg1=>r_.el fun as ras rvs=> ?_) hs rfl))
 subst e
 obtain⟨v,rfl,rv⟩:=jQo ras
 cases (show v= .int j from rv)
 obtain⟨u,rfl,ru⟩:=rvs.one
 obtain⟨t,rfl⟩:=ru
 refine call_range_1 ?_
 refine Calls.spliced_nil ?_
 have I2:Inv X pins σ H1 {s1 with heap:=s1.heap.push {cls:= .type "range",data:= .fields #[.int 0 s1.toks,.int j t,.int 1 (s1.toks+1)]},toks:=s1.toks+1+1}:=I1.kept fun b o e=>lJo _ e
 refine call_list_range (n:=j.toNat) (I1.ok.hd hc) (IsRange.new ..) (small_one (by omega) (by omega) q1 (by omega)) (by rw[rangeSize_one];split<;>omega) (by omega) fun h' tk acc' c' hk hobj hit=> ?_
 have hf:H1 (s1.heap.push {cls:= .type "range",data:= .fields #[.int 0 s1.toks,.int j t,.int 1 (s1.toks+1)]}).objs.size=none:=I2.hok.fresh (lJe _)
 have hz:acc'.size<=sizeLine:=by rw[hit.1,lKo];omega
 obtain⟨vs,hvs,rr⟩:∃vs:List V,Vals vs acc'.toList/\Reps X.K H1 (rngT 0 j.toNat) vs:=by
  refine⟨(List.range j.toNat).map fun (k:Nat)=>V.int (0+k),?_,qKg (by simp) (fun i v hv=> ?_)⟩
  ·have all:∀(l:List Value) (n0:Nat),(∀(i:Nat) v,l[i]? =some v->∃t,v= .int ((0:Int)+((n0+i:Nat):Int)*1) t)->Vals ((List.range' n0 l.length).map fun (k:Nat)=>V.int (0+k)) l:=by
    intro l
    induction l with
    | nil=>intro n0 _;exact .nil
    | cons v l ih=>
     intro n0 hh
     obtain⟨t,ht⟩:=hh 0 v rfl
     rw[lKe,List.range'_succ,lJn]
     refine .cons ⟨t,by rw[ht];simp⟩ (ih (n0+1) fun i w hw=> ?_)
     obtain⟨t',ht'⟩:=hh (i+1) w (by simpa using hw)
     exact⟨t',by rw[ht'];congr 1;omega⟩
   have:=all acc'.toList 0 (fun i v hv=>by
    obtain⟨t,ht⟩:=hit.2 i v (by simpa using hv)
    exact⟨t,by rw[ht];simp⟩)
   rw[List.range_eq_range']
   rw[show acc'.toList.length=j.toNat by simpa using hit.1] at this
   exact this
  ·rw[lJx] at hv
   cases e:(List.range j.toNat)[i]? with
   | none=>rw[e] at hv;cases hv
   | some k=>
    rw[e] at hv;cases hv
    have:=lJh.mp e
    obtain⟨h1,h2⟩:=this
    simp at h2;rw[<-h2]
 refine⟨.ref _,_,_,e1.trans (.upd (.none hf)),⟨σ,I2.laid (t':=tk) (o:= .lst vs) hk (lJe _) ⟨by rw[hvs.length];simpa using hz,acc'.toList,c',hvs,by simpa using hobj⟩,hs1.mono (.upd (.none hf)),hg1.lstNew rr (.none hf)⟩,⟨.ref _,rfl,rfl⟩,q _ (hg1.fresh hf)⟩
def insT (xs:List T) (k:Nat) (y:T):List T:=xs.take k++y::xs.drop k
noncomputable def jXl:T->List T->Gp->VK3->Prop:=fun x as G Q=>∃p xs k y,x= .ref p/\as=[.int k,y]/\G p=some (.lst xs)/\0<=k/\k<=xs.length/\xs.length<sizeLine/\Q .non (gup G p (.lst (insT xs k.toNat y)))
theorem kU4:Mt3 X "list.insert" jXl:=by
 rintro pins s τ G H x as v us Q ⟨σ,I,hs,hg⟩ ⟨a,ra,rv⟩ ⟨bs,rbs,rus⟩ ⟨p,xs,k,y,ex,ea,hp,k0,k1,hz,q⟩
 subst ex;subst ea
 cases (show a= .ref p from ra);cases rv
 obtain⟨b1,b2,rfl,r1,r2⟩:=kYb rbs
 cases (show b1= .int k from r1)
 obtain⟨u1,u2,rfl,ru1,ru2⟩:=rus.two
 obtain⟨t,rfl⟩:=ru1
 obtain⟨vs,h1,h2⟩:=hg.lst hp
 obtain⟨z,its,n,r,hl,e⟩:=I.lstM h1
 have hlen:=h2.length
 have hfit:¬ (!Builtin.List.listFitsIndex k)=true:=by
  have h63:=jYz
  rw[fitsIndex_both (by omega) (by omega)]
  exact lJp
 refine lQ1 F.slot_list_insert ⟨_,e,rfl⟩ F.entry_list_insert (F.args_list_insert_3 _ _ _) (AutoSeq1.list_insert_list_int_val_1 p its.toArray n k t u2 hfit (by rw[lJk];omega)) ⟨e,?_⟩
 have e2:Ext H (upd H p (.lst (vs.take k.toNat++b2::vs.drop k.toNat))):= .upd (.lst h1)
 refine⟨.non,_,_,e2,⟨σ,I.lset (its':=its.take k.toNat++u2::its.drop k.toNat) h1 e ?_ ((r.take _).append (.cons ru2 (r.drop _))) ?_,hs.mono e2,hg.lstNew (xs:=insT xs k.toNat y) ((h2.take _).append ⟨b2,_,rfl,r2,h2.drop _⟩) (.lst h1)⟩,⟨.non,rfl,rfl⟩,q⟩
 ·have hk:¬ k<0:=by omega
  have hm:min k.toNat its.toArray.size=k.toNat:=by rw[lJk];omega
  simp only[hk,lKk,hm]
  apply Array.ext'
  simp[Array.toList_extract]
  rw[lK3 (Nat.le_of_eq (by simp))]
 ·simp only[lKd,lKe,lKw,lVv]
  omega
def qUe:T->List T->Gp->VK3->Prop:=fun x as G Q=>∃p xs y,x= .ref p/\as=[y]/\G p=some (.lst xs)/\jUo y=true/\xs.all jUo=true/\Q (.int (xs.countP fun z=>eqT z y)) G
theorem kQc {K:PySem.W.Frag} {H:Hp} {y:T} {b:V} (ry:Rep K H y b) (fy:jUo y=true):∀ {xs:List T} {vs:List V} {us:List Value},Reps K H xs vs->Vals vs us->xs.all jUo=true->us.countP (eqU b)=xs.countP fun z=>eqT z y
 | [],_,_,r,q,_=>by cases r;cases q;rfl
 | x::xs,_,_,⟨v,ws,e,r1,r2⟩,q,f=>by
  subst e
  cases q with
  | cons q1 q2=>
   rw[lQj,lKy] at f
   rw[List.countP_cons,List.countP_cons,kQc ry fy r2 q2 f.2,kVg q1 (jVa r1 f.1),kUd r1 ry f.1 fy]
theorem qVr:Mt3 X "list.count" qUe:=by
 rintro pins s τ G H x as v us Q ⟨σ,I,hs,hg⟩ ⟨a,ra,rv⟩ ⟨bs,rbs,rus⟩ ⟨p,xs,y,ex,ea,hp,fy,fs,q⟩
 subst ex;subst ea
 cases (show a= .ref p from ra);cases rv
 obtain⟨b,rfl,rb⟩:=jQo rbs
 obtain⟨u,rfl,ru⟩:=rus.one
 obtain⟨vs,h1,h2⟩:=hg.lst hp
 obtain⟨z,its,n,r,hl,e⟩:=I.lstM h1
 have fl:=(jYb rb fy h2 fs).1
 refine lQ1 F.slot_list_count ⟨_,e,rfl⟩ F.entry_list_count (F.args_list_count_2 _ _) (SeqAt.list_countAt p its.toArray n none #[] u (eqU b)) ⟨e,fun w hw=>jUg ru (jVa rb fy) r fl w (by simpa using hw),?_⟩
 refine⟨.int _,G,H,.refl H,⟨σ,I.tok _,hs,hg⟩,⟨.int _,rfl,s.toks,?_⟩,q⟩
 rw[<-kQc rb fy h2 r fs]
def tBM0 (T0:String) (r:T->List T->Gp->VK3->Prop) (to:TE3):TE3:=fun τ G Q=>to τ G fun x G1=>tyT G1 T0 x/\r x [] G1 Q
theorem e_bm0 {T0 id:String} {r:T->List T->Gp->VK3->Prop} {o:Expr} {name:Str} {apos cpos:Pos} {to:TE3} (pa:PlainAttrs T0) (slot:Slot T0 name id) (hty:typeOf (.builtin id)=pure (.type "method_descriptor")) (hm:Mt3 X id r) (ho:PE3 X o to)
  (hbase:attributeBase o name X.env (eval o X.env)=eval o X.env:=by rfl) (hline:(apos.endLine == cpos.line)=true:=by rfl):PE3 X (.Call (.Attribute o name apos) [] [] cpos) (tBM0 T0 r to):=by
 intro pins s τ G H Q I h
 refine wpAny_Call_method0_late hbase hline (thn (ho pins s τ G H _ I h) fun v s1 w_=>w_.el fun x G1 H1 e1 I1 r1 ⟨ty,q1⟩=> ?_)
 obtain⟨σ,I0,hs0,hg0⟩:=_root_.id I1
 obtain⟨a0,ra0,rv0⟩:=_root_.id r1
 obtain⟨h1,h2⟩:=qQ9 I0 rv0 (tyT.of hg0 ra0 ty)
 exact⟨T0,id,pa,slot,hty,h1,h2,Calls.callWith_builtin rfl (PySem.evalArgs_none (thn (hm pins s1 τ G1 H1 x [] v [] Q I1 r1 ⟨[],rfl,.nil⟩ q1) fun _ _ z=>z.ext e1))⟩
def kUl:List T->Option Bool
 | []=>some true
 | .bl b::r=>match kUl r with
  | some c=>some (b&&c)
  | none=>none
 | _::_=>none
def rAll:List T->Gp->VK3->Prop:=fun as G Q=>∃p xs b,as=[.ref p]/\G p=some (.lst xs)/\kUl xs=some b/\Q (.bl b) G
theorem kQl:∀ {xs:List T} {b:Bool},kUl xs=some b->∃bs:List Bool,xs=bs.map T.bl/\b=bs.all (fun x=>x)
 | [],b,h=>by cases h;exact⟨[],rfl,rfl⟩
 | .bl c::r,b,h=>by
  unfold kUl at h
  cases e:kUl r with
  | none=>rw[e] at h;cases h
  | some d=>
   rw[e] at h;cases h
   obtain⟨bs,h1,h2⟩:=kQl e
   exact⟨c::bs,by rw[h1];rfl,by rw[h2];rfl⟩
 | .non::_,_,h=>by cases h
 | .int _::_,_,h=>by cases h
 | .str _::_,_,h=>by cases h
 | .tup _::_,_,h=>by cases h
 | .scr _::_,_,h=>by cases h
 | .ref _::_,_,h=>by cases h
 | .ty _::_,_,h=>by cases h
theorem kUx {K:PySem.W.Frag} {H:Hp}:∀ {bs:List Bool} {vs:List V} {us:List Value},Reps K H (bs.map T.bl) vs->Vals vs us->us=bs.map Value.bool
 | [],_,_,h,q=>by cases h;cases q;rfl
 | n::ns,_,_,⟨v,ws,e,r,rs⟩,q=>by
  subst e;cases (show v= .bl n from r)
  cases q with
  | cons q1 q2=>cases q1;rw[kUx rs q2];rfl
theorem kQk:∀(bs:List Bool),bs.all (fun x=>x)=(List.range bs.length).all fun i=>bs.getD i true
 | []=>rfl
 | b::bs=>by
  rw[lQj,kQk bs,lKe,List.range_succ_eq_map,lQj,List.all_map]
  simp[Function.comp_def,List.getD]
theorem c_all (hc:X.calm=true):Call3 X (.builtin "all") rAll:=by
 rintro pins s τ G H as us Q ⟨σ,I,hs,hg⟩ ⟨bs',rbs,rus⟩ ⟨p,xs,b,e,hp,hb,q⟩
 subst e
 obtain⟨a,rfl,ra⟩:=jQo rbs
 cases (show a= .ref p from ra)
 obtain⟨u,rfl,ru⟩:=rus.one
 cases ru
 obtain⟨vs,h1,h2⟩:=hg.lst hp
 obtain⟨bs,ex,eb⟩:=kQl hb
 subst ex
 obtain⟨its,rv,pl,hz⟩:=I.list (.of h1)
 have eit:=kUx h2 rv
 subst eit
 refine call_all_walk (wpAny_pyIter_list pl.isList ?_)
 have hne:p≠s.heap.objs.size:=by obtain⟨o,n,ho,_⟩:=pl;exact lJw (lJg ho)
 refine⟨s.heap.objs.size,[s.heap.objs.size,p],[s.heap.objs.size],(bs.map Value.bool).toArray.size,_,_,fun i=>bs.getD i true,rfl,Walks.list (A:=X.A.in1) (show X.A.in1.handled=none from I.ok.hd hc) s.heap.objs.size p hne (bs.map Value.bool).toArray,⟨⟨_,lJ5 _ rfl,rfl,rfl⟩,pl.isList.push _⟩,?_,?_⟩
 ·intro i v s' Q' E' hP hQ
  have hP':(bs.map Value.bool)[i]? =some v:=by simpa using hP
  rw[lJx] at hP'
  cases e:bs[i]? with
  | none=>rw[e] at hP';cases hP'
  | some c=>
   rw[e] at hP';cases hP'
   have:bs.getD i true=c:=by simp[List.getD,e]
   have hQ':Q' (bs.getD i true) s':=hQ
   rw[this] at hQ'
   exact lVa hQ'
 ·intro h' tk hk
  have hk2:∀b o,s.heap.get? b=some o->h'.get? b=some o:=fun b o e=>hk b o (by simpa using lJw (lJg e)) (lJo _ e)
  refine⟨.bl b,G,H,.refl H,⟨σ,I.kept hk2,hs,hg⟩,⟨.bl b,rfl,?_⟩,q⟩
  rw[eb,kQk]
  simp
  rfl
end
structure Cal (P:Program) (w:World) (K:PySem.W.Frag) (mg:Str->Option Value) (base:Heap) (k:Nat) (x:Str) (ps:List Str) (sp:Sp3):Prop where
 ex:∃f fd,Fn3 P w K mg base k f fd ps sp/\mg x=some (.ref f)/\PySem.W.keepIn K (.ref f)=true/\Binds K fd ps []
 mono:Mono sp
 len:∀xs G Q,sp xs G Q->xs.length=ps.length
theorem jJ4 {X:Cx} {k:Nat} {ps:List Str} {sp:Sp3} {x:Str} {p pos:Pos} {e:Expr} {es:List Expr} {t:TA3} (C:Cal X.prog X.w X.K X.mg X.base k x ps sp) (hr:Room k X.A) (ha:PA3 X (e::es) t) (hg:Gl X x:=by rfl)
  (hdb:(x == ("__debug__":Str))=false:=by decide) (he:starEach (e::es) X.env=(false,eval e X.env)::starEach es X.env:=by rfl) (hpl:(backTo pos (starEach es X.env)).any (·.1)=false:=by rfl):
  PE3 X (.Call (.Name x p) (e::es) [] pos) (jJx sp t):=by
 intro pins s τ G H Q I h
 obtain⟨f,fd,F,hm,hk,hb⟩:=C.ex
 obtain⟨σ0,I0,hs0,hg0⟩:=id I
 refine lVd (jXo I0 hg hm ?_ hdb)
 refine PySem.W.callWith_K (h₀:=X.base) I0.ok.mod.kin hk (thn (ha pos pins s τ G H _ I h) fun us s1 w_=>w_.el fun xs G1 H1 e1 i_ r_ q=>i_.el fun σ I1 hs1 hg1=>r_.el fun as ras rvs=>⟨I1.kIn,?_⟩) he hpl
 refine thn (run_fn (dvs:=[]) (ds:=[]) (E:=E0) (Q:=up X.K H1 Q) F hr hb .nil pass0 I1 rvs ?_) fun u s' z=>(jUf hs1 z).ext e1
 rw[lKh]
 exact⟨by rw[<-ras.length];exact C.len _ _ _ q,xs,G1,ras,hg1,C.mono _ _ _ _ (fun t G' hq v H' e g r=>⟨t,G',e,g,r,hq⟩) q⟩
def kKq:=kJq
theorem qJh {X:Cx}:Call3 X (.type "list") kKq:=c_list
end L3
namespace L3
open PySem PySem.Spec PyProof.Rows
inductive Res where
 | val (t:T) | newL (xs:List T)
def fin3:Res->Gp->VK3->Prop
 | .val t,G,Q=>Q t G
 | .newL xs,G,Q=>∀p,G p=none->Q (.ref p) (gup G p (.lst xs))
theorem Op3.imp {X:L2.Cx} {f:Value->Value->Sem Value} {r r':R3} (h:Op3 X f r) (i:∀x y G Q,r' x y G Q->r x y G Q):Op3 X f r':=fun pins s τ G H x y v u Q I rx ry q=>h pins s τ G H x y v u Q I rx ry (i x y G Q q)
theorem Ix3.imp {X:L2.Cx} {r r':R3} (h:Ix3 X r) (i:∀x y G Q,r' x y G Q->r x y G Q):Ix3 X r':=fun a b pins s τ G H x y v u Q I rx ry q hs=>h a b pins s τ G H x y v u Q I rx ry (i x y G Q q) hs
theorem Set3.imp {X:L2.Cx} {r r':T->T->T->Gp->(Gp->Prop)->Prop} (h:Set3 X r) (i:∀o j v G Q,r' o j v G Q->r o j v G Q):Set3 X r':=fun pins s τ G H o j v a b c Q I ro rj rv q=>h pins s τ G H o j v a b c Q I ro rj rv (i o j v G Q q)
theorem Sl3.imp {X:L2.Cx} {r r':T->Option Int->Option Int->Gp->VK3->Prop} (h:Sl3 X r) (i:∀x l u G Q,r' x l u G Q->r x l u G Q):Sl3 X r':=fun pins s τ G H x v vl vu lo hi sl Q I rx hs pl pu q=>h pins s τ G H x v vl vu lo hi sl Q I rx hs pl pu (i x lo hi G Q q)
noncomputable def addR (G:Gp):T->T->Option Res
 | .int i,.int j=>some (.val (.int (i+j)))
 | .ref p,.ref q=>match G p,G q with
  | some (.lst xs),some (.lst ys)=>if xs.length+ys.length<=sizeLine then some (.newL (xs++ys)) else none
  | _,_=>none
 | .tup xs,.tup ys=>if xs.length≠0/\xs.length+ys.length<=sizeLine then some (.val (.tup (xs++ys))) else none
 | _,_=>none
def jKm:R3:=fun x y G Q=>∃r,addR G x y=some r/\fin3 r G Q
theorem add_F {x y:T} {G:Gp} {Q:VK3} (h:jKm x y G Q):rAddA x y G Q:=by
 obtain⟨r,hr,q⟩:=h
 unfold addR at hr
 split at hr
 ·cases hr;exact .inl ⟨_,_,rfl,rfl,q⟩
 ·rename_i p q'
  split at hr
  ·rename_i xs ys h1 h2
   split at hr
   ·rename_i hz;cases hr;exact .inr (.inl ⟨p,q',xs,ys,rfl,rfl,h1,h2,hz,q⟩)
   ·cases hr
  ·cases hr
 ·rename_i xs ys
  split at hr
  ·rename_i hz;cases hr;exact .inr (.inr ⟨xs,ys,rfl,rfl,fun z=>hz.1 (by rw[z];rfl),hz.2,q⟩)
  ·cases hr
 ·cases hr
theorem o_addF {X:L2.Cx}:Op3 X (binaryOp .Add) jKm:=o_addA.imp fun _ _ _ _=>add_F
noncomputable def mulR (G:Gp):T->T->Option Res
 | .int i,.int j=>some (.val (.int (i*j)))
 | .ref p,.int n=>match G p with
  | some (.lst xs)=>if n.toNat * xs.length<=sizeLine/\n<2^62/\ -(2^62)<n then some (.newL (List.replicate n.toNat xs).flatten) else none
  | _=>none
 | _,_=>none
def mulC:T->T->Prop
 | .int i,.int j=>L2.CMul i j
 | _,_=>True
def jUn:R3:=fun x y G Q=>∃r,mulR G x y=some r/\mulC x y/\fin3 r G Q
theorem mul_F {x y:T} {G:Gp} {Q:VK3} (h:jUn x y G Q):rMulA x y G Q:=by
 obtain⟨r,hr,c,q⟩:=h
 unfold mulR at hr
 split at hr
 ·cases hr;exact .inl ⟨_,_,rfl,rfl,c,q⟩
 ·rename_i p n
  split at hr
  ·rename_i xs h1
   split at hr
   ·rename_i hz;cases hr;exact .inr ⟨p,xs,n,rfl,rfl,h1,hz.1,hz.2.1,hz.2.2,q⟩
   ·cases hr
  ·cases hr
 ·cases hr
theorem jQ2 {X:L2.Cx}:Op3 X (binaryOp .Mult) jUn:=o_mulA.imp fun _ _ _ _=>mul_F
def ixR (G:Gp) (x y:T):Option T:=match seqT G x with
 | some xs=>match y with
  | .int i=>L2.atI xs i
  | _=>none
 | none=>match dAt G x y with
  | some o=>o
  | none=>none
def rIxF:R3:=fun x y G Q=>∃t,ixR G x y=some t/\Q t G
theorem ix_F' {x y:T} {G:Gp} {Q:VK3} (h:rIxF x y G Q):rIxA x y G Q:=by
 obtain⟨t,ht,q⟩:=h
 unfold ixR at ht
 split at ht
 ·rename_i xs hx
  split at ht
  ·rename_i i;exact .inl ⟨xs,i,t,hx,rfl,ht,q⟩
  ·cases ht
 ·split at ht
  ·rename_i o ho;subst ht;exact .inr ⟨t,ho,q⟩
  ·cases ht
theorem ix_F {X:L2.Cx} (hu:X.A.units+20<cLine):Ix3 X rIxF:=(qV0 hu).imp fun _ _ _ _=>ix_F'
noncomputable def setR (G:Gp) (o i v:T):Option Gp:=match o with
 | .ref p=>match G p with
  | some (.lst xs)=>match i with
   | .int k=>match L2.ixN xs.length k with
    | some j=>some (gup G p (.lst (xs.set j v)))
    | none=>none
   | _=>none
  | some (.dct kvs)=>match i with
   | .tup ys=>match jQ4 ys with
    | some ks=>if kvs.length<sizeLine then some (gup G p (.dct (putT kvs ks v))) else none
    | none=>none
   | _=>none
  | some (.dck kvs)=>match jQm i with
   | some k=>if kvs.length<sizeLine then some (gup G p (.dck (putT kvs k v))) else none
   | none=>none
  | some (.fdc _)=>none
  | some (.ins _ _)=>none
  | some (.exc _)=>none
  | some (.tb _ _ _)=>none
  | none=>none
 | _=>none
def jQ1:T->T->T->Gp->(Gp->Prop)->Prop:=fun o i v G Q=>∃G',setR G o i v=some G'/\Q G'
theorem set_F' {o i v:T} {G:Gp} {Q:Gp->Prop} (h:jQ1 o i v G Q):rSetA o i v G Q:=by
 obtain⟨G',hr,q⟩:=h
 unfold setR at hr
 split at hr
 ·rename_i p
  split at hr
  ·rename_i xs h1
   split at hr
   ·rename_i k
    split at hr
    ·rename_i j hj;cases hr;exact .inl ⟨p,xs,k,j,rfl,rfl,h1,hj,q⟩
    ·cases hr
   ·cases hr
  ·rename_i kvs h1
   split at hr
   ·rename_i ys
    split at hr
    ·rename_i ks hk
     split at hr
     ·rename_i hz;cases hr;exact .inr (.inl ⟨p,ys,ks,kvs,rfl,rfl,hk,h1,hz,q⟩)
     ·cases hr
    ·cases hr
   ·cases hr
  ·rename_i kvs h1
   split at hr
   ·rename_i k hk
    split at hr
    ·rename_i hz;cases hr;exact .inr (.inr ⟨p,k,kvs,rfl,hk,h1,hz,q⟩)
    ·cases hr
   ·cases hr
  ·cases hr
  ·cases hr
  ·cases hr
  ·cases hr
  ·cases hr
 ·cases hr
theorem s_F {X:L2.Cx} (hu:X.A.units+20<cLine):Set3 X jQ1:=(s_any hu).imp fun _ _ _ _ _=>set_F'
noncomputable def rLeF:R3:=fun x y G Q=>∃b,(match x,y with
 | .int i,.int j=>some (decide (i<=j))
 | .tup [.int a,.int b],.tup [.int c,.int d]=>some (HT.lexLe [a,b] [c,d])
 | _,_=>none)=some b/\Q (.bl b) G
theorem le_F' {x y:T} {G:Gp} {Q:VK3} (h:rLeF x y G Q):rLeA x y G Q:=by
 obtain⟨b,hb,q⟩:=h
 split at hb
 ·cases hb;exact .inl ⟨_,_,rfl,rfl,q⟩
 ·cases hb;exact .inr ⟨_,_,rfl,rfl,q⟩
 ·cases hb
theorem qKv {X:L2.Cx} (hu:X.A.units+20<cLine):Op3 X (compareOp .LtE) rLeF:=(o_leA hu).imp fun _ _ _ _=>le_F'
noncomputable def inR (G:Gp) (x y:T):Option Bool:=match seqT G y with
 | some xs=>if jUo x=true/\xs.all jUo=true then some (inT x xs) else none
 | none=>match dAt G y x with
  | some o=>some o.isSome
  | none=>none
def kYj:R3:=fun x y G Q=>∃b,inR G x y=some b/\Q (.bl b) G
def jKx:R3:=fun x y G Q=>∃b,inR G x y=some b/\Q (.bl (!b)) G
theorem in_F' {x y:T} {G:Gp} {Q:VK3} (h:kYj x y G Q):rInL x y G Q:=by
 obtain⟨b,hb,q⟩:=h
 unfold inR at hb
 split at hb
 ·rename_i xs hx
  split at hb
  ·rename_i hc;cases hb;exact .inl ⟨xs,hx,hc.1,hc.2,q⟩
  ·cases hb
 ·split at hb
  ·rename_i o ho;cases hb;exact .inr ⟨o,ho,q⟩
  ·cases hb
theorem qKz {x y:T} {G:Gp} {Q:VK3} (h:jKx x y G Q):kYf x y G Q:=by
 obtain⟨b,hb,q⟩:=h
 unfold inR at hb
 split at hb
 ·rename_i xs hx
  split at hb
  ·rename_i hc;cases hb;exact .inl ⟨xs,hx,hc.1,hc.2,q⟩
  ·cases hb
 ·split at hb
  ·rename_i o ho;cases hb;exact .inr ⟨o,ho,q⟩
  ·cases hb
theorem qUf {X:L2.Cx} (hu:X.A.units+20<cLine):Op3 X (compareOp .In) kYj:=(o_in hu).imp fun _ _ _ _=>in_F'
theorem jVy {X:L2.Cx} (hu:X.A.units+20<cLine):Op3 X (compareOp .NotIn) jKx:=(qVi hu).imp fun _ _ _ _=>qKz
noncomputable def slR (G:Gp) (x:T) (lo hi:Option Int):Option Res:=match x with
 | .tup xs=>some (.val (.tup (cutT xs lo hi)))
 | .scr xs=>some (.newL (cutT xs lo hi))
 | .ref p=>match G p with
  | some (.lst xs)=>some (.newL (cutT xs lo hi))
  | _=>none
 | _=>none
def rSlF:T->Option Int->Option Int->Gp->VK3->Prop:=fun x lo hi G Q=>∃r,slR G x lo hi=some r/\fin3 r G Q
theorem sl_F' {x:T} {lo hi:Option Int} {G:Gp} {Q:VK3} (h:rSlF x lo hi G Q):rSlA x lo hi G Q:=by
 obtain⟨r,hr,q⟩:=h
 unfold slR at hr
 split at hr
 ·cases hr;exact .inr ⟨_,rfl,q⟩
 ·cases hr;exact .inl ⟨_,rfl,q⟩
 ·split at hr
  ·rename_i xs h1;cases hr;exact .inl ⟨xs,by simp only[jK4,h1,asL],q⟩
  ·cases hr
 ·cases hr
theorem sl_F {X:L2.Cx}:Sl3 X rSlF:=sl_any.imp fun _ _ _ _ _=>sl_F'
end L3
namespace L2
open PySem PySem.Spec PyProof.Rows
section
variable {X:Cx} {tg:Expr}
end
end L2
namespace L3
open PySem PySem.Spec PyProof.Rows L2
def Off (cs:List Addr) (g g':Heap):Prop:=∀c,c∉cs->∀o,g.get? c=some o->g'.get? c=some o
theorem Off.then {cs:List Addr} {g g' g'':Heap} (p:Off cs g g') (q:Off cs g' g''):Off cs g g'':=fun c n o e=>q c n o (p c n o e)
theorem Off.ext {cs:List Addr} {c:Addr} {g g':Heap} (h:Heap.ExtBut c g g') (m:c∈cs):Off cs g g':=fun b n o e=>h b o (fun q=>n (q▸m)) e
theorem Off.one {cs:List Addr} {c:Addr} {g g':Heap} (h:Heap.SameBut c g g') (m:c∈cs):Off cs g g':= .ext h.extBut m
theorem Off.new (cs:List Addr) (g:Heap) (o:Obj):Off cs g (g.push o):=fun _ _ _ e=>lJo _ e
theorem Off.at {cs:List Addr} {g g':Heap} (p:Off cs g g') {c:Addr} {o:Obj} (n:c∉cs) (e:g.get? c=some o):g'.get? c=some o:=p c n o e
def jZe (cs:List Addr) (S:Heap->Prop):Prop:=∀g g',Off cs g g'->S g->S g'
def Draw (P:Program) (w:World) (A:Around) (i:Addr) (r:Option Value) (S S':Heap->Prop):Prop:=
 ∀(s:Shared) (Q E:Value->Shared->Prop),S s.heap->
  (∀x g,r=some x->S' g->Heap.SameBut i s.heap g->Q x {s with heap:=g})->
  (∀g e o,r=none->Heap.ExtBut i s.heap g->g.get? e=some o->o.cls= .type "StopIteration"->E (.ref e) {s with heap:=g})->
  wpAny (model P w) A (Builtin.SmallTypes.nextOf (.ref i)) Q E s
def OnTup (i t:Addr) (k:Nat) (xs:Array Value) (h:Heap):Prop:=h.IsTupleIter i t k/\h.IsTuple t xs
theorem OnTup.still {cs:List Addr} {i t:Addr} {k:Nat} {xs:Array Value} (hi:i∉cs) (ht:t∉cs):jZe cs (OnTup i t k xs):=
 fun _ _ p ⟨⟨o,e,c⟩,⟨q,e',c'⟩⟩=>⟨⟨o,p.at hi e,c⟩,⟨q,p.at ht e',c'⟩⟩
theorem jQ8 {P:Program} {w:World} {A:Around} {i t:Addr} {k:Nat} {xs:Array Value} (hh:A.handled=none) (ne:t≠i):Draw P w A i xs[k]? (OnTup i t k xs) (OnTup i t (k+1) xs):=by
 rintro s Q E ⟨⟨o,ho,hc,hd⟩,q,hq,hqc,n,hn⟩ item stop
 have ty:s.TypeIs (.ref i) "tuple_iterator":=⟨o,ho,hc⟩
 refine lJc (lVq (name:=Str.ofString "__next__") ty F.slot_tuple_iterator_next (lVr F.slot_tuple_iterator_next ty F.entry_tuple_iterator_next ?_ (F.args_tuple_iterator_next_1 _)))
 refine (show wpAny _ _ (field (.ref i) 0 >>= _) _ _ s from lJc (lQf ho hd (x:= .ref t) rfl ?_))
 refine (show wpAny _ _ (if (Value.ref t == Value.none)=true then _ else field (.ref i) 1 >>= _) _ _ s from ?_)
 rw[lJb (by exact lJp)]
 refine lJc (lQf ho hd (x:= .int k 0) rfl (show wpAny _ _ (seqItems? (.ref t) >>= _) _ _ s from lJc (lVp hq hn ?_)))
 cases hx:xs[k]? with
 | some x=>
  simp only[hx,Int.toNat_natCast]
  have up:OnTup i t (k+1) xs (s.heap.update i (Obj.mapFields (·.setIfInBounds 1 (rawInt ((k:Int)+1))))):=by
   refine⟨⟨_,Heap.get?_update_self _ ho (Obj.isFreed_of_fields (Obj.data_mapFields hd _)),(Obj.cls_mapFields ..).trans hc,?_⟩,q,(lXe ..).extBut t q ne hq,hqc,n,hn⟩
   rw[Obj.data_mapFields hd];simp[rawInt]
  exact lJc (wpAny_setField ho hd (by simp) (lJd ⟨x,rfl,lJd (item x _ hx up (lXe ..))⟩))
 | none=>
  simp only[hx,Int.toNat_natCast]
  refine lJc (lVf (lJc (wpAny_setField ho hd (by simp) (show wpAny _ _ (newExc (.type "StopIteration") [] >>= _) _ _ _ from lJc ?_))))
  simp only[newExc,newTuple,raiseNew]
  refine lJc (lVc (lJc (m:=firstArgMember _ _) (wpAny_of_eq (a:=Value.none) (by first | rfl | (simp only[firstArgMember];rfl)) (lVc ?_ (by size_fits)))) (by size_fits))
  refine lJc (wpAny_handled ?_);rw[show A.in1.handled=none from hh]
  exact lJc (lJd (wpAny_throw (stop _ _ _ hx (((lXe ..).extBut.push _).push _) (lJ5 _ rfl) rfl)))
structure ZipAt (z TI TO i j:Addr):Prop where
 nd:[z,TI,TO,i,j].Nodup
theorem qJv {P:Program} {w:World} {A:Around} {z TI TO i j:Addr} {r1 r2:Option Value} {S S' U U':Heap->Prop} {a b:Value} {s:Shared} {Q E:Value->Shared->Prop}
  (D1:Draw P w A i r1 S S') (D2:Draw P w A j r2 U U') (nd:ZipAt z TI TO i j) (s1:jZe [z,TO,j] S) (s1':jZe [z,TO,j] S') (s2:jZe [z,TO,i] U) (s2':jZe [z,TO,i] U')
  (hz:IsZip s.heap z TI TO .none) (hTI:IsPair s.heap TI (.ref i) (.ref j)) (hTO:IsPair s.heap TO a b) (h1:S s.heap) (h2:U s.heap)
  (item:∀x y g,r1=some x->r2=some y->IsZip g z TI TO (rawInt s.heap.objs.size)->IsPair g TO x y->S' g->U' g->IsPair g s.heap.objs.size x y->Off [z,TO,i,j] s.heap g->Q (.ref s.heap.objs.size) {s with heap:=g})
  (stop:∀g e o,(r1=none\/r2=none)->Off [z,TO,i,j] s.heap g->g.get? e=some o->o.cls= .type "StopIteration"->E (.ref e) {s with heap:=g}):
  wpAny (model P w) A (Builtin.«zip.__next__» ⟨[.ref z],[]⟩) (fun f s'=>∃v,f= .done (.ret v)/\Q v s') E s:=by
 have ap:=nd.nd
 simp only[lKp,lJj,lJv,lKm,not_or] at ap
 obtain⟨⟨zTI,zTO,zi,zj⟩,⟨TITO,TIi,TIj⟩,⟨TOi,TOj⟩,ij,_⟩:=ap
 refine (show wpAny _ _ (field (.ref z) 2 >>= _) _ _ _ from lJc (lQf hz rfl (x:= .bool false) rfl (show wpAny _ _ (field (.ref z) 3 >>= _) _ _ _ from lJc (lQf hz rfl (x:= .ref TI) rfl (lJc (lVp hTI rfl ?_))))))
 refine (show wpAny _ _ (Builtin.SmallTypes.ownedTupleIsFree (.ref z) >>= _) _ _ _ from lJc ?_)
 unfold Builtin.SmallTypes.ownedTupleIsFree;refine lJc (lQf hz rfl (x:= .none) rfl (lJd ?_))
 rw[lJa rfl]
 refine lJc (lVf (lJc (lQf hz rfl (x:= .ref TO) rfl (lJc (lV9 hz (by simp) fun g1 hz1 b1=>lJc ?_)))))
 replace hz1:IsZip g1 z TI TO .ellipsis:=hz1
 have o1:Off [z,TO,i,j] s.heap g1:= .one b1 (by simp)
 simp only[List.forIn_cons,List.forIn_nil,List.zipIdx_cons,List.zipIdx_nil]
 refine lJc (lJc (wpAny_onRaise (show wpAny _ _ (Builtin.SmallTypes.nextOf (.ref i) >>= _) _ _ _ from lJc (D1 _ _ _ (s1 _ _ (.one b1 (by simp)) h1) (fun x g2 ex S2 b2=>lJd ?_) fun g2 e o en b2 he hc=> ?_))))
 ·have o2:Off [z,TO,i,j] s.heap g2:=o1.then (.one b2 (by simp))
  have hz2:IsZip g2 z TI TO .ellipsis:=b2.extBut _ _ zi hz1
  have hp2:IsPair g2 TO a b:=b2.extBut _ _ TOi (b1.extBut _ _ (Ne.symm zTO) hTO)
  refine lJc (lVp hp2 rfl (lJc (wpAny_updateSeq_pair hp2 fun g3 hp3 b3=>lJc (wpAny_letGo (lJd ?_)))))
  replace hp3:IsPair g3 TO x b:=hp3
  have o3:Off [z,TO,i,j] s.heap g3:=o2.then (.one b3 (by simp))
  have hz3:IsZip g3 z TI TO .ellipsis:=b3.extBut _ _ zTO hz2
  have U3:U g3:=s2 _ _ (((Off.one b1 (by simp)).then (.one b2 (by simp))).then (.one b3 (by simp))) h2
  refine lJc (lJc (wpAny_onRaise (show wpAny _ _ (Builtin.SmallTypes.nextOf (.ref j) >>= _) _ _ _ from lJc (D2 _ _ _ U3 (fun y g4 ey U4 b4=>lJd ?_) fun g4 e o en b4 he hc=> ?_))))
  ·have hp4:IsPair g4 TO x b:=b4.extBut _ _ TOj hp3
   refine lJc (lVp hp4 rfl (lJc (wpAny_updateSeq_pair hp4 fun g5 hp5 b5=>lJc (wpAny_letGo (lJd (lJd ?_))))))
   replace hp5:IsPair g5 TO x y:=hp5
   have o5:Off [z,TO,i,j] s.heap g5:=(o3.then (.one b4 (by simp))).then (.one b5 (by simp))
   have hz5:IsZip g5 z TI TO .ellipsis:=b5.extBut _ _ zTO (b4.extBut _ _ zj hz3)
   have S5:S' g5:=s1' _ _ (((Off.one b3 (by simp)).then (.one b4 (by simp))).then (.one b5 (by simp))) S2
   have U5:U' g5:=s2' _ _ (.one b5 (by simp)) U4
   have n5:g5.objs.size=s.heap.objs.size:=by rw[b5.1,b4.1,b3.1,b2.1,b1.1]
   refine lJc (lVp hp5 rfl (lJc (wpAny_newTuple ?_)))
   refine (show wpAny _ _ (Builtin.SmallTypes.ownedTupleHandOut (.ref z) (.ref g5.objs.size) >>= _) _ _ _ from lJc ?_)
   unfold Builtin.SmallTypes.ownedTupleHandOut;refine lJc (lV9 (show IsZip (g5.push {cls:= .type "tuple",data:= .seq #[x,y]}) z TI TO .ellipsis from lJo _ hz5) (by simp) fun g6 hz6 b6=> ?_)
   refine lV9 hz6 (by simp) fun g7 hz7 b7=>lJd ⟨_,rfl,?_⟩
   have o7:Off [z] g5 g7:=((Off.new _ _ _).then (.one b6 (by simp))).then (.one b7 (by simp))
   have zl:z<g5.objs.size:=lJg hz5
   have new:IsPair g7 g5.objs.size x y:=b7.extBut _ _ (lQa zl) (b6.extBut _ _ (lQa zl) (lJ5 _ rfl))
   replace hz7:IsZip g7 z TI TO (rawInt g5.objs.size):=hz7
   show Q (.ref g5.objs.size) _
   rw[n5] at hz7 new ⊢
   have w1:∀ {cs:List Addr},z∈cs->Off cs g5 g7:=fun m c n=>o7 c (by simp only[lJr];exact fun q=>n (q▸m))
   exact item x y g7 ex ey hz7 (o7.at (by simpa using Ne.symm zTO) hp5) (s1' _ _ (w1 (by simp)) S5) (s2' _ _ (w1 (by simp)) U5) new (o5.then (w1 (by simp)))
  ·have hz4:IsZip g4 z TI TO .ellipsis:=b4 _ _ zj hz3
   have ez:e≠z:=fun q=>by subst q;rw[hz4] at he;cases he;simp at hc
   exact lV9 hz4 (by simp) fun g5 _ b5=>stop g5 e o (.inr en) ((o3.then (.ext b4 (by simp))).then (.one b5 (by simp))) (b5.extBut _ _ ez he) hc
 ·have hz2:IsZip g2 z TI TO .ellipsis:=b2 _ _ zi hz1
  have ez:e≠z:=fun q=>by subst q;rw[hz2] at he;cases he;simp at hc
  exact lV9 hz2 (by simp) fun g3 _ b3=>stop g3 e o (.inl en) ((o1.then (.ext b2 (by simp))).then (.one b3 (by simp))) (b3.extBut _ _ ez he) hc
theorem kUq {P:Program} {w:World} {A:Around} {z TI TO i j:Addr} {r1 r2:Option Value} {S S' U U':Heap->Prop} {a b:Value} {s:Shared} {Q:Option Value->Shared->Prop} {E:Value->Shared->Prop}
  (D1:Draw P w A.in1 i r1 S S') (D2:Draw P w A.in1 j r2 U U') (nd:ZipAt z TI TO i j) (s1:jZe [z,TO,j] S) (s1':jZe [z,TO,j] S') (s2:jZe [z,TO,i] U) (s2':jZe [z,TO,i] U')
  (hz:IsZip s.heap z TI TO .none) (hTI:IsPair s.heap TI (.ref i) (.ref j)) (hTO:IsPair s.heap TO a b) (h1:S s.heap) (h2:U s.heap)
  (item:∀x y g,r1=some x->r2=some y->IsZip g z TI TO (rawInt s.heap.objs.size)->IsPair g TO x y->S' g->U' g->IsPair g s.heap.objs.size x y->Off [z,TO,i,j] s.heap g->Q (some (.ref s.heap.objs.size)) {s with heap:=g})
  (stop:∀g,(r1=none\/r2=none)->Off [z,TO,i,j] s.heap g->Q none {s with heap:=g}):wpAny (model P w) A (pyNext (.ref z)) Q E s:=by
 have ty:s.TypeIs (.ref z) "zip":=⟨_,hz,rfl⟩
 refine lJc (lVt (lVq (name:=Str.ofString "__next__") ty F.slot_zip_next (lVr F.slot_zip_next ty F.entry_zip_next ?_ (F.args_zip_next_1 _))))
 refine qJv D1 D2 nd s1 s1' s2 s2' hz hTI hTO h1 h2 (fun x y g q1 q2 q3 q4 q5 q6 q7 q8=>lJd (item x y g q1 q2 q3 q4 q5 q6 q7 q8)) fun g e o en f he hc=> ?_
 exact lJc (wpAny_isInstance (T:="StopIteration") (b:=true) ⟨o,he,hc⟩ isSubtype_stop (lJd (stop g en f)))
def itOf (t:Addr):Obj:={cls:= .type "tuple_iterator",data:= .fields #[.ref t,.int 0 0]}
def jV9 (xs:Array Value):Obj:={cls:= .type "tuple",data:= .seq xs}
noncomputable def zips (g:Heap) (t u:Addr):Heap:=
 let g2:=(g.push (itOf t)).push (itOf u)
 let g3:=g2.push (jV9 #[.ref g.objs.size,.ref (g.push (itOf t)).objs.size])
 let g4:=g3.push (jV9 #[.none,.none])
 g4.push {cls:= .type "zip",data:= .fields #[.none,.bool false,.bool false,.ref g2.objs.size,.ref g3.objs.size]}
theorem qUq (t u:Addr) (xs ys:Array Value):
  Meets (Builtin.«zip.__new__» ⟨[.type "zip",.ref t,.ref u],[]⟩) fun _ R s=>s.heap.IsTuple t xs/\s.heap.IsTuple u ys/\R (.ok (.ret (.ref (((((s.heap.push (itOf t)).push (itOf u)).push (jV9 #[.ref s.heap.objs.size,.ref (s.heap.push (itOf t)).objs.size])).push (jV9 #[.none,.none])).objs.size)))) {s with heap:=zips s.heap t u}:=by
 refine .of_wp fun P w A R s ⟨ht,hu,h⟩=> ?_
 obtain⟨g,a1,a2,a3,a4⟩:=s
 have sb:=sub_zip
 have m1:Heap.IsTuple (Shared.heap ⟨g,a1,a2,a3,a4⟩) t xs:=ht
 have m2:Heap.IsTuple (Shared.heap ⟨g.push {cls:= .type "tuple_iterator",data:= .fields #[.ref t,.int 0 0]},a1,a2,a3,a4⟩) u ys:=hu.push _
 wp_walk using wpAny_pyIter_tuple m1,wpAny_pyIter_tuple m2
 exact⟨_,rfl,h⟩
theorem qJu {P:Program} {w:World} {A:Around} {s:Shared} {t u:Addr} {xs ys:Array Value} {Q E:Value->Shared->Prop} (ht:s.heap.IsTuple t xs) (hu:s.heap.IsTuple u ys)
  (h:∀g n,n=s.heap.objs.size->IsZip g (n+4) (n+2) (n+3) .none->IsPair g (n+2) (.ref n) (.ref (n+1))->IsPair g (n+3) .none .none->OnTup n t 0 xs g->OnTup (n+1) u 0 ys g->
   (∀c o,s.heap.get? c=some o->g.get? c=some o)->Q (.ref (n+4)) {s with heap:=g}):wpAny (model P w) A (call (.type "zip") [.ref t,.ref u]) Q E s:=by
 refine callType_new F.called_zip (by decide) (F.typeCall_zip_2 _ _) (F.newCall_zip_2 _ _) (fun obj=>F.args_object_init_3 obj _ _) F.entry_zip_new (qUq t u xs ys) ⟨ht,hu,?_⟩
 have hn:∀(g:Heap) (o:Obj),(g.push o).objs.size=g.objs.size+1:=fun _ _=>Heap.size_push ..
 have up:∀ {g:Heap} {o q:Obj} {c:Addr},g.get? c=some q->(g.push o).get? c=some q:=fun e=>lJo _ e
 have at':∀(g:Heap) (o:Obj),o.isFreed=false->(g.push o).get? g.objs.size=some o:=fun g o h=>lJ5 _ h
 have kp:∀c o,s.heap.get? c=some o->(zips s.heap t u).get? c=some o:=fun c o e=>up (up (up (up (up e))))
 obtain⟨q,hq,hr⟩:=ht
 obtain⟨q',hq',hr'⟩:=hu
 have c0:(zips s.heap t u).get? s.heap.objs.size=some (itOf t):=up (up (up (up (at' _ _ rfl))))
 have c1:(zips s.heap t u).get? (s.heap.push (itOf t)).objs.size=some (itOf u):=up (up (up (at' _ _ rfl)))
 have c2:=up (g:=((s.heap.push (itOf t)).push (itOf u)).push (jV9 #[.ref s.heap.objs.size,.ref (s.heap.push (itOf t)).objs.size])) (o:=jV9 #[.none,.none]) (at' ((s.heap.push (itOf t)).push (itOf u)) (jV9 #[.ref s.heap.objs.size,.ref (s.heap.push (itOf t)).objs.size]) rfl)
 have c2':(zips s.heap t u).get? ((s.heap.push (itOf t)).push (itOf u)).objs.size=some (jV9 #[.ref s.heap.objs.size,.ref (s.heap.push (itOf t)).objs.size]):=up c2
 have c3:(zips s.heap t u).get? (((s.heap.push (itOf t)).push (itOf u)).push (jV9 #[.ref s.heap.objs.size,.ref (s.heap.push (itOf t)).objs.size])).objs.size=some (jV9 #[.none,.none]):=up (at' _ _ rfl)
 have c4:(zips s.heap t u).get? ((((s.heap.push (itOf t)).push (itOf u)).push (jV9 #[.ref s.heap.objs.size,.ref (s.heap.push (itOf t)).objs.size])).push (jV9 #[.none,.none])).objs.size=some {cls:= .type "zip",data:= .fields #[.none,.bool false,.bool false,.ref ((s.heap.push (itOf t)).push (itOf u)).objs.size,.ref (((s.heap.push (itOf t)).push (itOf u)).push (jV9 #[.ref s.heap.objs.size,.ref (s.heap.push (itOf t)).objs.size])).objs.size]}:=at' _ _ rfl
 show _/\_
 simp only[hn] at c1 c2' c3 c4 ⊢
 exact⟨⟨_,c4,rfl⟩,h _ _ rfl c4 c2' c3 ⟨⟨_,c0,rfl,rfl⟩,q,kp _ _ hq,hr⟩ ⟨⟨_,c1,rfl,rfl⟩,q',kp _ _ hq',hr'⟩ kp⟩
noncomputable def Itz (K:PySem.W.Frag) (a1 a2:Addr):It:=
 ⟨fun i H=>∃xs ys x y,SqT K H a1 xs/\SqT K H a2 ys/\xs[i]? =some x/\ys[i]? =some y,
  fun i H v H'=>∃p x y,H p=none/\v= .ref p/\(∀xs,SqT K H a1 xs->xs[i]? =some x)/\(∀ys,SqT K H a2 ys->ys[i]? =some y)/\H'=upd H p (.tup [x,y]),
  fun i H=>∃xs ys,SqT K H a1 xs/\SqT K H a2 ys/\(xs.length<=i\/ys.length<=i)⟩
theorem qQ6 {z TI TO i1 i2 a1 a2:Addr} (D:ZipApart z TI TO i1 i2 a1 a2):ZipAt z TI TO i1 i2:=
 ⟨by simp[D.TIz.symm,D.TOz.symm,D.i1z.symm,D.i2z.symm,D.TITO,D.TIi1,D.TIi2,D.TOi1,D.TOi2,D.i12]⟩
theorem jZ9 {z TI TO i1 i2 a1 a2:Addr} {k:Nat} {xs:Array Value} (D:ZipApart z TI TO i1 i2 a1 a2):jZe [z,TO,i2] (OnTup i1 a1 k xs):=
 OnTup.still (by simp[D.i1z,D.TOi1.symm,D.i12]) (by simp[D.l1z,D.l1TO,D.l1i2])
theorem jZ8 {z TI TO i1 i2 a1 a2:Addr} {k:Nat} {xs:Array Value} (D:ZipApart z TI TO i1 i2 a1 a2):jZe [z,TO,i1] (OnTup i2 a2 k xs):=
 OnTup.still (by simp[D.i2z,D.TOi2.symm,D.i12.symm]) (by simp[D.l2z,D.l2TO,D.l2i1])
theorem qJ1 {P:Program} {w:World} {K:PySem.W.Frag} {elts:List Expr} {k:Nat} {pos:Pos} (z TI TO i1 i2 a1 a2:Addr) (D:ZipApart z TI TO i1 i2 a1 a2):
  Turn P w K (.Tuple elts k pos) (Itz K a1 a2) [z,TI,TO,i1,i2] z (fun i h=>IsZip h z TI TO .none/\IsPair h TI (.ref i1) (.ref i2)/\(∃a b,IsPair h TO a b)/\h.IsTupleIter i1 a1 i/\h.IsTupleIter i2 a2 i) where
 mem:=by simp
 obj:=fun i h ⟨hz,hTI,⟨a,b,hTO⟩,h1,h2⟩ c hc=>by
  simp only[lJj,lJv,lKm] at hc
  rcases hc with rfl | rfl | rfl | rfl | rfl
  ·exact⟨_,hz,fun v z=>nomatch (show Data.fields _=Data.cell v from z)⟩
  ·exact⟨_,hTI,fun v z=>nomatch (show Data.seq _ _=Data.cell v from z)⟩
  ·exact⟨_,hTO,fun v z=>nomatch (show Data.seq _ _=Data.cell v from z)⟩
  ·obtain⟨o,e,c,d⟩:=h1;exact⟨o,e,fun v z=>by rw[d] at z;cases z⟩
  ·obtain⟨o,e,c,d⟩:=h2;exact⟨o,e,fun v z=>by rw[d] at z;cases z⟩
 keep:=fun i h h' ⟨hz,hTI,⟨a,b,hTO⟩,h1,h2⟩ kp=>⟨kp z (by simp) _ hz,kp TI (by simp) _ hTI,⟨a,b,kp TO (by simp) _ hTO⟩,h1.at fun o q=>kp i1 (by simp) o q,h2.at fun o q=>kp i2 (by simp) o q⟩
 item:=by
  rintro X hP hw hK hc i pins s σ H E I hf ⟨hz,hTI,⟨a,b,hTO⟩,h1,h2⟩ hg
  subst hP hw hK
  obtain⟨xs,ys,x,y,hq1,hq2,hx,hy⟩:=hg
  obtain⟨its1,rv1,p1,hz1⟩:=I.tuple hq1
  obtain⟨its2,rv2,p2,hz2⟩:=I.tuple hq2
  obtain⟨u1,hu1,ru1⟩:=rv1.get hx
  obtain⟨u2,hu2,ru2⟩:=rv2.get hy
  refine kUq (r1:=its1.toArray[i]?) (r2:=its2.toArray[i]?) (jQ8 (I.ok.hd hc) D.l1i1) (jQ8 (I.ok.hd hc) D.l2i2) (qQ6 D) (jZ9 D) (jZ9 D) (jZ8 D) (jZ8 D) hz hTI hTO ⟨h1,p1⟩ ⟨h2,p2⟩ (fun x' y' g1 ex ey ho gTO g3 g4 hT hk=> ?_) (fun g en _=> ?_)
  rotate_left
  ·rcases en with e | e
   ·rw[show its1.toArray[i]? =some u1 by simpa using hu1] at e;cases e
   ·rw[show its2.toArray[i]? =some u2 by simpa using hu2] at e;cases e
  obtain rfl:u1=x':=by simpa[hu1] using ex
  obtain rfl:u2=y':=by simpa[hu2] using ey
  refine⟨_,rfl,wpAny_letOwnedTupleGo_zip ho fun g2 gz hs2=> ?_⟩
  have hzl:z<s.heap.objs.size:=lJg hz
  have hp2:∀b o,b∉[z,TI,TO,i1,i2]->s.heap.get? b=some o->g2.get? b=some o:=fun b o hb q=>by
   simp only[lJj,lJv,lKm,not_or] at hb
   exact (hs2.2 b hb.1).trans (hk b (by simp only[lJj,lJv,lKm,not_or];exact⟨hb.1,hb.2.2.1,hb.2.2.2.1,hb.2.2.2.2⟩) o q)
  have hT2:g2.get? s.heap.objs.size=some {cls:= .type "tuple",data:= .seq #[u1,u2]}:=(hs2.2 _ (lQa hzl)).trans hT
  have I2:=jVp (t':=s.toks) (h':=g2) (p:=s.heap.objs.size) (vs:=[x,y]) (us:=[u1,u2]) I hp2 hf (lJe _) ⟨_,hT2,rfl,_,rfl,rfl⟩ (.cons ru1 (.cons ru2 .nil)) (by show 2<=sizeLine;decide)
  refine⟨.ref s.heap.objs.size,_,I2,rfl,⟨_,x,y,I.hok.fresh (lJe _),rfl,fun zs hz=>by rw[I.tuple_inj hz hq1];exact hx,fun zs hz=>by rw[I.tuple_inj hz hq2];exact hy,rfl⟩,
   ⟨gz,(hs2.2 _ D.TIz).trans (hk _ (by simp[D.TIz,D.TITO,D.TIi1,D.TIi2]) _ hTI),⟨_,_,(hs2.2 _ D.TOz).trans gTO⟩,g3.1.at fun o q=>(hs2.2 _ D.i1z).trans q,g4.1.at fun o q=>(hs2.2 _ D.i2z).trans q⟩,fun b hb=> ?_⟩
  have hbs:∃o,s.heap.get? b=some o:=by
   have hbq:=hb
   simp only[lJj,lJv,lKm] at hbq
   rcases hbq with rfl | rfl | rfl | rfl | rfl
   ·exact⟨_,hz⟩
   ·exact⟨_,hTI⟩
   ·exact⟨_,hTO⟩
   ·obtain⟨o,q,_⟩:=h1;exact⟨o,q⟩
   ·obtain⟨o,q,_⟩:=h2;exact⟨o,q⟩
  obtain⟨o,q⟩:=hbs
  rw[jJu (lJw (lJg q))]
  exact (hf b hb).1
 done:=by
  rintro X hP hw hK hc i pins s σ H E I hf ⟨hz,hTI,⟨a,b,hTO⟩,h1,h2⟩ hg
  subst hP hw hK
  obtain⟨xs,ys,hq1,hq2,hx⟩:=hg
  obtain⟨its1,rv1,p1,hz1⟩:=I.tuple hq1
  obtain⟨its2,rv2,p2,hz2⟩:=I.tuple hq2
  have hl1:=rv1.length
  have hl2:=rv2.length
  refine kUq (r1:=its1.toArray[i]?) (r2:=its2.toArray[i]?) (jQ8 (I.ok.hd hc) D.l1i1) (jQ8 (I.ok.hd hc) D.l2i2) (qQ6 D) (jZ9 D) (jZ9 D) (jZ8 D) (jZ8 D) hz hTI hTO ⟨h1,p1⟩ ⟨h2,p2⟩ (fun x' y' g1 ex ey _ _ _ _ _ _=> ?_) (fun g1 _ hk=>⟨rfl,jZ5 (t':=s.toks) (fp:=[z,TI,TO,i1,i2]) I (fun b o hb q=> ?_) hf⟩)
  ·have q1:i<its1.length:=by simpa using (Array.getElem?_eq_some_iff.mp ex).1
   have q2:i<its2.length:=by simpa using (Array.getElem?_eq_some_iff.mp ey).1
   omega
  ·exact hk b (fun m=>hb (by simp only[lJj,lJv,lKm] at m ⊢; rcases m with h | h | h | h<;>simp[h])) o q
 self:=fun _ _ _ _ _ ⟨hz,_⟩ h=>wpAny_pyIter_zip hz h
theorem qQ7 {n a b:Nat} (ha:a<n) (hb:b<n):ZipApart (n+4) (n+2) (n+3) n (n+1) a b:=by
 constructor<;>(show @Ne Nat _ _;omega)
def zipT (xs ys:List T):List T:=(xs.zip ys).map fun p=>T.tup [p.1,p.2]
end L3
namespace L3
open PySem
theorem atN {α:Type} {xs:List α} {n:Nat}:L2.atI xs (n:Int)=xs[n]? :=by
 unfold L2.atI L2.ixN
 by_cases h:n<xs.length
 ·simp[h]
 ·simp[h]
theorem at0 {α:Type} {x:α} {xs:List α}:L2.atI (x::xs) 0=some x:=(atN (n:=0)).trans rfl
theorem at1 {α:Type} {x y:α} {xs:List α}:L2.atI (x::y::xs) 1=some y:=(atN (n:=1)).trans rfl
theorem at2 {α:Type} {x y z:α} {xs:List α}:L2.atI (x::y::z::xs) 2=some z:=(atN (n:=2)).trans rfl
theorem atZ {α:Type} {xs:List α} {i:Int} (h:0<=i):L2.atI xs i=xs[i.toNat]? :=by
 obtain⟨n,rfl⟩:=lK4 h
 simpa using atN
theorem kZe {n k:Nat} (h:k<n):L2.ixN n (k:Int)=some k:=by simp[L2.ixN,h]
theorem ix0 {n:Nat}:L2.ixN (n+1) 0=some 0:=kZe (k:=0) (by omega)
theorem ix1 {n:Nat}:L2.ixN (n+2) 1=some 1:=kZe (k:=1) (by omega)
theorem ix2 {n:Nat}:L2.ixN (n+3) 2=some 2:=kZe (k:=2) (by omega)
theorem ix30:L2.ixN 3 0=some 0:=ix0
theorem ix31:L2.ixN 3 1=some 1:=ix1
theorem ix32:L2.ixN 3 2=some 2:=ix2
theorem qQz {G:Gp} {i j:Int}:addR G (.int i) (.int j)=some (.val (.int (i+j))):=rfl
theorem qQy {G:Gp} {p q:Addr} {xs ys:List T} (h1:G p=some (.lst xs)) (h2:G q=some (.lst ys)) (hz:xs.length+ys.length<=sizeLine):addR G (.ref p) (.ref q)=some (.newL (xs++ys)):=by simp only[addR,h1,h2,hz,lK5]
theorem kU3 {G:Gp} {i j:Int}:mulR G (.int i) (.int j)=some (.val (.int (i*j))):=rfl
theorem qK1 {i j:Int}:mulC (.int i) (.int j)=L2.CMul i j:=rfl
theorem qK0 {p:Addr} {j:Int}:mulC (.ref p) (.int j)=True:=rfl
theorem kUe {t:T} {G:Gp} {Q:VK3}:fin3 (.val t) G Q=Q t G:=rfl
theorem kJ0 {xs:List T} {G:Gp} {Q:VK3}:fin3 (.newL xs) G Q=∀p,G p=none->Q (.ref p) (gup G p (.lst xs)):=rfl
theorem kZd {G:Gp} {xs:List T} {i:Int}:ixR G (.tup xs) (.int i)=L2.atI xs i:=rfl
theorem qV1 {G:Gp} {xs:List T} {i:Int}:ixR G (.scr xs) (.int i)=L2.atI xs i:=rfl
theorem jJ9 {G:Gp} {p:Addr} {xs:List T} {i:Int} (h:G p=some (.lst xs)):ixR G (.ref p) (.int i)=L2.atI xs i:=by simp only[ixR,seqT,h,asL]
theorem qKa {G:Gp} {p:Addr} {xs:List T} {k:Int} {j:Nat} {v:T} (h:G p=some (.lst xs)) (hj:L2.ixN xs.length k=some j):setR G (.ref p) (.int k) v=some (gup G p (.lst (xs.set j v))):=by simp only[setR,h,hj]
theorem qKd {G:Gp} {xs:List T}:seqT G (.tup xs)=some xs:=rfl
theorem jJl {G:Gp} {p:Addr} {xs:List T} (h:G p=some (.lst xs)):seqT G (.ref p)=some xs:=by simp only[seqT,h,asL]
theorem kUu {G:Gp} {p:Addr} {xs:List T} {k:Int} {v:T} (h:G p=some (.lst xs)):setR G (.ref p) (.int k) v=(L2.ixN xs.length k).map fun j=>gup G p (.lst (xs.set j v)):=by
 cases e:L2.ixN xs.length k with
 | none=>simp only[setR,h,e,Option.map_none]
 | some j=>simp only[setR,h,e,Option.map_some]
theorem qKb {G:Gp} {p:Addr} {xs:List T} {k:Int} {v:T}:setR (gup G p (.lst xs)) (.ref p) (.int k) v=(L2.ixN xs.length k).map fun j=>gup G p (.lst (xs.set j v)):=by
 rw[kUu jJf];simp only[kZp]
theorem qV2 {G:Gp} {p:Addr} {xs:List T} {i:Int}:ixR (gup G p (.lst xs)) (.ref p) (.int i)=L2.atI xs i:=jJ9 jJf
theorem kUv {G:Gp} {p:Addr} {xs:List T}:seqT (gup G p (.lst xs)) (.ref p)=some xs:=jJl jJf
def ForAt (g:TG3) (tb:TS3) (D:Ends3) (τ:St3) (xs:List T) (stay:Gp->Prop) (G:Gp):Prop:=∃P:Nat->St3->Gp->Prop,P 0 τ G/\(∀i τ G,i<=xs.length->P i τ G->stay G)/\
 (∀i x τ G,xs[i]? =some x->P i τ G->g x τ G fun τ2 G2=>tb {D with nx:=P (i+1),ct:=P (i+1),bk:=D.nx} τ2 G2)/\∀ τ G,P xs.length τ G->D.nx τ G
theorem jKq {wi:TI3} {g:TG3} {tb:TS3} {D:Ends3} {τ:St3} {G:Gp}:tFor wi g tb D τ G=wi τ G fun xs stay G1=>ForAt g tb D τ xs stay G1:=rfl
def jU2 (mask:List Bool) (g:TG3) (tif:TT3) (te:TE3) (τ:St3) (xs:List T) (stay:Gp->Prop) (G:Gp) (Q:VK3):Prop:=kQs mask g tif te τ xs stay G Q
theorem qJ4 {mask:List Bool} {wi:TI3} {g:TG3} {tif:TT3} {te:TE3} {τ:St3} {G:Gp} {Q:VK3}:jKu mask wi g tif te τ G Q=wi τ G fun xs stay G1=>jU2 mask g tif te τ xs stay G1 Q:=rfl
def Sub (G G':Gp):Prop:=∀c o,G c=some o->G' c=some o
theorem Sub.refl (G:Gp):Sub G G:=fun _ _ h=>h
theorem Sub.trans {G G1 G2:Gp} (h:Sub G G1) (h':Sub G1 G2):Sub G G2:=fun c o e=>h' c o (h c o e)
theorem Sub.new {p:Addr} {G:Gp} {o:GO} (hp:G p=none):Sub G (gup G p o):=fun c u e=>by rw[jJk];exact e;rintro rfl;rw[hp] at e;cases e
theorem Sub.over {p:Addr} {G G':Gp} {o:GO} (h:Sub G G') (hp:G p=none):Sub G (gup G' p o):=fun c u e=>by rw[jJk];exact h c u e;rintro rfl;rw[hp] at e;cases e
theorem Sub.none {G G':Gp} {p:Addr} (h:Sub G G') (hp:G' p=none):G p=none:=by
 cases e:G p with
 | none=>rfl
 | some o=>rw[h p o e] at hp;cases hp
theorem jQt {G:Gp} {a p:Addr} {o:GO} (h:gup G a o p=none):p≠a/\G p=none:=by
 by_cases e:p=a
 ·subst e;rw[jJf] at h;cases h
 ·rw[jJk e] at h;exact⟨e,h⟩
theorem jJg {G:Gp} {a p:Addr} {o:GO} (h:G a=some o) (hp:G p=none):a≠p:=by rintro rfl;rw[h] at hp;cases hp
theorem jKt {α β:Type} {enc:α->β} {es:List α} {i:Nat} {x:β} (h:(es.map enc)[i]? =some x):∃e,es[i]? =some e/\x=enc e:=by
 rw[lJx] at h
 cases e1:es[i]? with
 | none=>rw[e1] at h;cases h
 | some e=>rw[e1] at h;exact⟨e,rfl,(lKb h).symm⟩
theorem jVb {α:Type} {mask:List Bool} {g:TG3} {tif:TT3} {te:TE3} {τ:St3} {es:List α} {enc:α->T} {stay:Gp->Prop} {G:Gp} {Q:VK3} (f:α->Option T) (hz:es.length<=sizeLine) (hst:∀G',Sub G G'->stay G')
  (h:∀(i:Nat) e,es[i]? =some e->∀G' (K:T->Gp->Prop) (K0:Gp->Prop),Sub G G'->(∀y G4,f e=some y->Sub G' G4->K y G4)->(f e=none->∀G4,Sub G' G4->K0 G4)->g (enc e) (msk mask τ) G' fun τ2 G2=>tif τ2 G2 fun b G3=>if b=true then te τ2 G3 K else K0 G3)
  (hq:∀D G',G D=none->G' D=some (.lst (es.filterMap f))->Sub G G'->Q (.ref D) G'):jU2 mask g tif te τ (es.map enc) stay G Q:=by
 intro D hD
 refine⟨fun i acc G'=>acc=(es.take i).filterMap f/\G' D=some (.lst acc)/\Sub G G',⟨by simp,jJf,.new hD⟩,?_,?_,?_⟩
 ·rintro i acc G' hi ⟨ea,eg,hs⟩
  exact⟨hst G' hs,eg⟩
 ·rintro i x acc G' hx0 ⟨ea,eg,hs⟩
  obtain⟨e,hx,rfl⟩:=jKt hx0
  have hi:i<es.length:=(lJh.mp hx).1
  have tk:es.take (i+1)=es.take i++[e]:=by rw[lQv,hx];rfl
  have hlen:acc.length<sizeLine:=by
   have h1:acc.length<=(es.take i).length:=by rw[ea];exact List.length_filterMap_le _ _
   rw[lKw] at h1;omega
  refine h i e hx G' _ _ hs (fun y G4 hy h4=>⟨h4 D _ eg,hlen,?_,jJf,(hs.trans h4).over hD⟩) fun hn G4 h4=>⟨?_,h4 D _ eg,hs.trans h4⟩
  ·rw[tk,List.filterMap_append,<-ea];simp[hy]
  ·rw[tk,List.filterMap_append,<-ea];simp[hn]
 ·rintro acc G' ⟨ea,eg,hs⟩
  rw[lJf,lQ6] at ea
  rw[ea] at eg
  exact hq D G' hD eg hs
theorem jK1 {α:Type} {mask:List Bool} {g:TG3} {tif:TT3} {te:TE3} {τ:St3} {es:List α} {enc:α->T} {stay:Gp->Prop} {G:Gp} {Q:VK3} (f:α->T) (hz:es.length<=sizeLine) (hst:∀G',Sub G G'->stay G')
  (h:∀(i:Nat) e,es[i]? =some e->∀G' (K:T->Gp->Prop) (K0:Gp->Prop),Sub G G'->(∀G4,Sub G' G4->K (f e) G4)->g (enc e) (msk mask τ) G' fun τ2 G2=>tif τ2 G2 fun b G3=>if b=true then te τ2 G3 K else K0 G3)
  (hq:∀D G',G D=none->G' D=some (.lst (es.map f))->Sub G G'->Q (.ref D) G'):jU2 mask g tif te τ (es.map enc) stay G Q:=by
 refine jVb (fun e=>some (f e)) hz hst (fun i e he G' K K0 hs hk _=>h i e he G' K K0 hs fun G4 h4=>hk _ G4 rfl h4) fun D G' hD h1 h2=>hq D G' hD ?_ h2
 rw[h1];congr 2;induction es with
 | nil=>rfl
 | cons a as ih=>simp
theorem jKi {G:Gp} {p:Addr} {xs:List T} (h:G p=some (.lst xs)):tyT G "list" (.ref p)=True:=by simp[tyT,h]
theorem kXs {G:Gp} {p:Addr} {xs:List T}:tyT (gup G p (.lst xs)) "list" (.ref p)=True:=jKi jJf
theorem jZz {α:Type} {mask:List Bool} {g:TG3} {tif:TT3} {te:TE3} {τ:St3} {es:List α} {enc:α->T} {stay:Gp->Prop} {G:Gp} {Q:VK3} (f:α->List T) (hz:es.length<=sizeLine) (hst:∀G',Sub G G'->stay G')
  (h:∀(i:Nat) e,es[i]? =some e->∀G' (K:T->Gp->Prop) (K0:Gp->Prop),Sub G G'->(∀p G4,G' p=none->G4 p=some (.lst (f e))->Sub G' G4->K (.ref p) G4)->g (enc e) (msk mask τ) G' fun τ2 G2=>tif τ2 G2 fun b G3=>if b=true then te τ2 G3 K else K0 G3)
  (hq:∀D rs G',G D=none->G' D=some (.lst (rs.map T.ref))->Sub G G'->rs.length=es.length->(D::rs).Nodup->(∀(i:Nat) (r:Addr) (e:α),rs[i]? =some r->es[i]? =some e->G r=none/\G' r=some (.lst (f e)))->Q (.ref D) G'):jU2 mask g tif te τ (es.map enc) stay G Q:=by
 intro D hD
 refine⟨fun i acc G'=>∃rs:List Addr,acc=rs.map T.ref/\rs.length=i/\G' D=some (.lst acc)/\Sub G G'/\(D::rs).Nodup/\(∀(i:Nat) (r:Addr) (e:α),rs[i]? =some r->es[i]? =some e->G r=none/\G' r=some (.lst (f e))),⟨[],rfl,rfl,jJf,.new hD,by simp,by simp⟩,?_,?_,?_⟩
 ·rintro i acc G' hi ⟨rs,ea,hl,eg,hs,hn,hr⟩
  exact⟨hst G' hs,eg⟩
 ·rintro i x acc G' hx0 ⟨rs,ea,hl,eg,hs,hn,hr⟩
  obtain⟨e,hx,rfl⟩:=jKt hx0
  have hi:i<es.length:=(lJh.mp hx).1
  have hlen:acc.length<sizeLine:=by rw[ea,lJf];omega
  refine h i e hx G' _ _ hs fun p G4 hp h4 s4=>⟨s4 D _ eg,hlen,rs++[p],by simp[ea],by simp[hl],jJf,(hs.trans s4).over hD,?_,?_⟩
  ·have hDp:D≠p:=jJg eg hp
   have hpr:p∉rs:=by
    intro hm
    obtain⟨j,hj⟩:∃j:Nat,_:=lKj hm
    have hjl:j<rs.length:=(lJh.mp hj).1
    have:=(hr j p es[j] hj (lJl (by omega))).2
    rw[hp] at this;cases this
   rw[lKp] at hn
   simp only[lKp,lJ1,lJr,not_or,lVm,lJv,not_false_eq_true,List.nodup_nil,and_true]
   exact⟨⟨hn.1,hDp⟩,hn.2,trivial,fun a ha b hb=>by subst hb;rintro rfl;exact hpr ha⟩
  ·intro j r e' hj he'
   have hjl:j<rs.length+1:=by have:=(lJh.mp hj).1;simpa using this
   by_cases hjr:j<rs.length
   ·rw[lQi hjr] at hj
    obtain⟨q1,q2⟩:=hr j r e' hj he'
    have:r≠D:=by rintro rfl;exact (lKp.mp hn).1 (lJz hj)
    exact⟨q1,by rw[jJk this];exact s4 _ _ q2⟩
   ·have hj2:j=rs.length:=by omega
    subst hj2
    rw[lVu (lJe _)] at hj
    simp at hj
    subst hj
    rw[hl,hx] at he';cases he'
    exact⟨hs.none hp,by rw[jJk (jJg eg hp).symm];exact h4⟩
 ·rintro acc G' ⟨rs,ea,hl,eg,hs,hn,hr⟩
  rw[ea] at eg
  exact hq D rs G' hD eg hs (by simpa using hl) hn hr
end L3
namespace L3
open PySem PySem.Spec PyProof.Rows L2
section
variable {X:Cx}
def rAddE:R3:=fun x y G Q=>∃ys,x= .tup []/\y= .tup ys/\Q (.tup ys) G
theorem o_addE:Op3 X (binaryOp .Add) rAddE:=by
 rintro pins s τ G H x y v u Q ⟨σ,I,hs,hg⟩ ⟨a,ra,rv⟩ ⟨b,rb,ru⟩ ⟨ys,ex,ey,q⟩
 subst ex;subst ey
 obtain⟨pa,vs,rfl,h1,r1⟩:=(show ∃p vs,a= .ref p/\H p=some (.tup vs)/\Reps X.K H [] vs from ra)
 obtain⟨pb,ws,rfl,h2,r2⟩:=(show ∃p vs,b= .ref p/\H p=some (.tup vs)/\Reps X.K H ys vs from rb)
 cases rv;cases ru
 obtain⟨its,q1,p1,_⟩:=I.tuple (.of h1)
 obtain⟨its2,q2,p2,_⟩:=I.tuple (.of h2)
 have e0:its.toArray.isEmpty=true:=by
  have e1:=r1.length
  have e2:=q1.length
  have:its=[]:=List.eq_nil_of_length_eq_zero (by simp at e1;omega)
  rw[this];rfl
 obtain⟨⟨cls,dd,data,sl⟩,ho,hc,n,hd⟩:=id p1
 obtain⟨⟨cls2,dd2,data2,sl2⟩,ho2,hc2,n2,hd2⟩:=id p2
 simp only at hc hd hc2 hd2
 subst hc hd hc2 hd2
 exact concat_meets ⟨_,ho,rfl⟩ ⟨_,ho2,rfl⟩ noFill_tuple_add seq_tuple_add PySem.F.slot_tuple_add PySem.F.entry_tuple_add (lXk _ _) (tuple_addW0 pa pb its.toArray its2.toArray n n2 dd dd2 sl sl2 e0)
  ⟨ho,ho2,.tup ys,G,H,.refl H,⟨σ,I,hs,hg⟩,⟨.ref pb,⟨pb,ws,rfl,h2,r2⟩,rfl⟩,q⟩
def jQp:R3:=fun x y G Q=>jKm x y G Q\/rAddE x y G Q
theorem jVz:Op3 X (binaryOp .Add) jQp:=o_addF.or o_addE
end
theorem kZ0 {P:Program} {w:World} {A:Around} (hh:A.handled=none) (it t:Addr) (ne:t≠it) (xs:Array Value):Draws P w A it [it,t] xs.size (fun i v=>xs[i]? =some v) (fun i h=>OnTup it t i xs h) where
 live:=fun _ _ ⟨⟨o,ho,_⟩,_⟩=>⟨o,ho⟩
 frame:=fun _ _ _ ⟨⟨o,ho,r⟩,⟨q,hq,r'⟩⟩ k=>⟨⟨o,k it (by simp) o ho,r⟩,⟨q,k t (by simp) q hq,r'⟩⟩
 item:=fun i s Q E hi st hQ=>jQ8 hh ne s Q E st (fun x g e s' b=>hQ x g s.toks e s' b) fun _ _ _ e=>by rw[Array.getElem?_eq_getElem hi] at e;cases e
 done:=fun s Q E st hE=>jQ8 hh ne s Q E st (fun x _ e=>by rw[Array.getElem?_eq_none (lJe _)] at e;cases e) fun g e o _ b he hc=>hE g e b ⟨o,he,hc⟩
def kVj (i:Addr):Obj:={cls:= .type "enumerate",data:= .fields #[.none,.bool false,.ref i,rawInt 0,.none,.none]}
theorem qQr (t:Addr) (xs:Array Value):
  Meets (Builtin.«enumerate.__new__» ⟨[.type "enumerate",.ref t],[]⟩) fun _ R s=>s.heap.IsTuple t xs/\R (.ok (.ret (.ref (s.heap.push (itOf t)).objs.size))) {s with heap:=(s.heap.push (itOf t)).push (kVj s.heap.objs.size)}:=by
 refine .of_wp fun P w A R s ⟨ht,h⟩=> ?_
 obtain⟨g,a1,a2,a3,a4⟩:=s
 have sb:=sub_enumerate
 have m1:Heap.IsTuple (Shared.heap ⟨g,a1,a2,a3,a4⟩) t xs:=ht
 obtain⟨⟨c,dct,dt,sl⟩,hl,hc,n,hd⟩:=id ht
 replace hc:c= .type "tuple":=hc
 replace hd:dt= .seq xs n:=hd
 subst hc hd
 wp_walk using AutoSeq1.wpAny_loadPart' hl
 refine wpAny_stack_any (fun stk=>lJd ?_)
 split
 ·rename_i k _ _ _ _ _
  cases (k == Value.type "enumerate")<;>(wp_walk using AutoSeq1.wpAny_loadPart' hl,wpAny_pyIter_tuple m1;exact⟨_,rfl,h⟩)
 ·wp_walk using AutoSeq1.wpAny_loadPart' hl,wpAny_pyIter_tuple m1;exact⟨_,rfl,h⟩
theorem kZv {P:Program} {w:World} {A:Around} {s:Shared} {t:Addr} {xs:Array Value} {Q E:Value->Shared->Prop} (ht:s.heap.IsTuple t xs)
  (h:∀g n,n=s.heap.objs.size->IsEnum g (n+1) n 0 .none->OnTup n t 0 xs g->(∀c o,s.heap.get? c=some o->g.get? c=some o)->Q (.ref (n+1)) {s with heap:=g}):wpAny (model P w) A (call (.type "enumerate") [.ref t]) Q E s:=by
 refine callType_new F.called_enumerate (by decide) (F.typeCall_enumerate_1 _) (F.newCall_enumerate_1 _) (fun obj=>F.args_object_init_2 obj _) F.entry_enumerate_new (qQr t xs) ⟨ht,?_⟩
 have hn:∀(g:Heap) (o:Obj),(g.push o).objs.size=g.objs.size+1:=fun _ _=>Heap.size_push ..
 have up:∀ {g:Heap} {o q:Obj} {c:Addr},g.get? c=some q->(g.push o).get? c=some q:=fun e=>lJo _ e
 obtain⟨q,hq,hr⟩:=ht
 have c0:((s.heap.push (itOf t)).push (kVj s.heap.objs.size)).get? s.heap.objs.size=some (itOf t):=up (lJ5 _ rfl)
 have c1:((s.heap.push (itOf t)).push (kVj s.heap.objs.size)).get? (s.heap.push (itOf t)).objs.size=some (kVj s.heap.objs.size):=lJ5 _ rfl
 show _/\_
 simp only[hn] at c1 ⊢
 exact⟨⟨_,c1,rfl⟩,h _ _ rfl c1 ⟨⟨_,c0,rfl,rfl⟩,q,up (up hq),hr⟩ fun c o e=>up (up e)⟩
theorem jQ7 {P:Program} {w:World} {A:Around} {s:Shared} {e it t:Addr} {i:Int} {k:Nat} {old:Value} {xs:Array Value} {Q:Option Value->Shared->Prop} {E:Value->Shared->Prop} (hh:A.handled=none) (ne:t≠it) (he:IsEnum s.heap e it i old) (st:OnTup it t k xs s.heap) (hk:xs.size<=k)
  (hQ:∀g,Heap.ExtBut it s.heap g->Q none {s with heap:=g}):wpAny (model P w) A (pyNext (.ref e)) Q E s:=by
 have ty:s.TypeIs (.ref e) "enumerate":=⟨_,he,rfl⟩
 refine lJc (lVt (lVq (name:=Str.ofString "__next__") ty F.slot_enumerate_next (lVr F.slot_enumerate_next ty F.entry_enumerate_next ?_ (F.args_enumerate_next_1 _))))
 refine (show wpAny _ _ (field (.ref e) 2 >>= _) _ _ _ from lJc (lQf he rfl (x:= .ref it) rfl (lJc ?_)))
 refine jQ8 (A:=A.in1) hh ne s _ _ st (fun x _ e=>by rw[Array.getElem?_eq_none hk] at e;cases e) fun g x o _ b hx hc=> ?_
 exact lJc (wpAny_isInstance (T:="StopIteration") (b:=true) ⟨o,hx,hc⟩ isSubtype_stop (lJd (hQ g b)))
noncomputable def Itn (K:PySem.W.Frag) (a:Addr):It:=
 ⟨fun i H=>∃xs x,SqT K H a xs/\xs[i]? =some x,fun i H x H'=>∃p y,H p=none/\x= .ref p/\(∀xs,SqT K H a xs->xs[i]? =some y)/\H'=upd H p (.tup [.int i,y]),fun i H=>∃xs,SqT K H a xs/\xs.length<=i⟩
theorem kVi {h:Heap} {a e it:Addr} {i:Int} {old:Value} {k:Nat} {xs:Array Value} (he:IsEnum h e it i old) (hi:h.IsTupleIter it a k) (ht:h.IsTuple a xs):a≠it/\e∉[it,a]:=by
 obtain⟨o,ho,hc,_⟩:=hi
 obtain⟨q,hq,hqc,_⟩:=ht
 refine⟨fun z=> ?_,fun m=> ?_⟩
 ·subst z;rw[ho] at hq;cases hq;rw[hc] at hqc;simp at hqc
 ·simp only[lJj,lJv,lKm] at m
  rcases m with rfl | rfl
  ·rw[he] at ho;cases ho;simp at hc
  ·rw[he] at hq;cases hq;simp at hqc
theorem kVu {P:Program} {w:World} {K:PySem.W.Frag} {elts:List Expr} {k:Nat} {pos:Pos} (a e it:Addr) (hei:e≠it):
  Turn P w K (.Tuple elts k pos) (Itn K a) [e,it] e (fun i h=>(∃old,IsEnum h e it i old)/\h.IsTupleIter it a i) where
 mem:=lJ7 ..
 obj:=fun i h ⟨⟨old,h1⟩,h2⟩ b hb=>by
  simp only[lJv,lJj,lKm] at hb
  rcases hb with rfl | rfl
  ·exact⟨_,h1,fun v z=>nomatch (show Data.fields _=Data.cell v from z)⟩
  ·obtain⟨o,e2,c,d⟩:=h2
   exact⟨o,e2,fun v z=>by rw[d] at z;cases z⟩
 keep:=fun i h h' ⟨⟨old,h1⟩,h2⟩ kp=>⟨⟨old,kp e (by simp) _ h1⟩,h2.at fun o q=>kp it (by simp) o q⟩
 item:=by
  rintro X hP hw hK hc i pins s σ H E I hf ⟨⟨old,he⟩,hit⟩ ⟨xs,x,hq,hx⟩
  subst hP hw hK
  obtain⟨its,rv,p,hz⟩:=I.tuple hq
  obtain⟨u,hu,ru⟩:=rv.get hx
  have p':s.heap.IsTuple a its.toArray:=p
  obtain⟨nei,hef⟩:=kVi he hit p'
  have hlt:i<its.toArray.size:=by simpa using (lJh.mp hu).1
  refine wpAny_pyNext_enum_itemD (kZ0 (A:=X.A.in1) (I.ok.hd hc) it a nei its.toArray) he ⟨hit,p'⟩ hlt hei hef fun x' h1 tk hx' ho hit1 hT hsz hk=> ?_
  obtain rfl:u=x':=by simpa[hu] using hx'
  refine⟨_,rfl,wpAny_letOwnedTupleGo_enum ho fun h2 he2 hs2=> ?_⟩
  have hel:e<s.heap.objs.size:=lJg he
  have hp2:∀b o,b∉[e,it]->s.heap.get? b=some o->h2.get? b=some o:=fun b o hb q=>by
   simp only[lJj,lJv,lKm,not_or] at hb
   exact (hs2.2 b hb.1).trans (hk b o hb.1 hb.2 q)
  have hT2:h2.get? s.heap.objs.size=some {cls:= .type "tuple",data:= .seq #[.int i tk,u]}:=(hs2.2 _ (lQa hel)).trans hT
  have I2:=jVp (t':=tk+1) (h':=h2) (p:=s.heap.objs.size) (vs:=[.int i,x]) (us:=[.int i tk,u]) I hp2 hf (lJe _) ⟨_,hT2,rfl,_,rfl,rfl⟩ (.cons ⟨_,rfl⟩ (.cons ru .nil)) (by show 2<=sizeLine;decide)
  refine⟨.ref s.heap.objs.size,_,I2,rfl,⟨_,x,I.hok.fresh (lJe _),rfl,fun ys hy=>by rw[I.tuple_inj hy hq];exact hx,rfl⟩,⟨⟨u,by simpa using he2⟩,hit1.1.at fun o q=>(hs2.2 it hei.symm).trans q⟩,fun b hb=> ?_⟩
  have hbs:∃o,s.heap.get? b=some o:=by
   have hb':=hb
   simp only[lJv,lJj,lKm] at hb'
   rcases hb' with rfl | rfl
   ·exact⟨_,he⟩
   ·obtain⟨o,q,_⟩:=hit;exact⟨o,q⟩
  obtain⟨o,q⟩:=hbs
  rw[jJu (lJw (lJg q))]
  exact (hf b hb).1
 done:=by
  rintro X hP hw hK hc i pins s σ H E I hf ⟨⟨old,he⟩,hit⟩ ⟨xs,hq,hx⟩
  subst hP hw hK
  obtain⟨its,rv,p,hz⟩:=I.tuple hq
  have p':s.heap.IsTuple a its.toArray:=p
  obtain⟨nei,hef⟩:=kVi he hit p'
  have hl:=rv.length
  refine jQ7 (I.ok.hd hc) nei he ⟨hit,p'⟩ (by simp;omega) fun h1 hx1=>⟨rfl,jZ5 (t':=s.toks) I (fun b o hb q=>hx1 b o (fun z=>hb (by simp[z])) q) hf⟩
 self:=fun _ _ _ _ _ ⟨⟨old,he⟩,_⟩ h=>lXg he h
def iEnT (ta:TA3):TI3:=fun τ G R=>ta τ G fun vs G1=>∃xs,vs=[.tup xs]/\R (numT xs) (fun _=>True) G1
theorem qQh {X:Cx} {elts:List Expr} {k:Nat} {tpos pos p:Pos} {a:Expr} {ta:TA3} (hg:Gl X "enumerate") (hm:X.mg "enumerate"=none) (hv:bootBuiltins "enumerate"=some (.type "enumerate")) (ha:PA3 X [a] ta) (hs:starEach [a] X.env=[(false,eval a X.env)]:=by rfl):
  PI3 X (.Tuple elts k tpos) (.Call (.Name "enumerate" p) [a] [] pos) (iEnT ta):=by
 intro pins s τ G H R I h
 obtain⟨σ0,I0,_,_⟩:=id I
 refine Call_ (jUk I0 hg hm hv (lQ5 (thn (ha pos pins s τ G H _ I h) fun us s1 w_=>w_.el fun xs' G1 H1 e1 i_ r_ q1=>i_.el fun σ I1 hs1 hg1=>r_.el fun as ras rvs=> ?_) hs rfl))
 obtain⟨xs,e,q⟩:=q1
 subst e
 obtain⟨v,rfl,rv⟩:=jQo ras
 obtain⟨u,rfl,ru⟩:=rvs.one
 obtain⟨pa,vs,rfl,hq,r⟩:=(show ∃p vs,v= .ref p/\H1 p=some (.tup vs)/\Reps X.K H1 xs vs from rv)
 cases ru
 obtain⟨its,rvv,pl,hz⟩:=I1.tuple (.of hq)
 refine kZv (show s1.heap.IsTuple pa its.toArray from pl) fun h1 n hn he hit hk=> ?_
 subst hn
 have I2:Inv X pins σ H1 {s1 with heap:=h1}:=I1.kept (t':=s1.toks) hk
 refine lXg (Q:=PIE3 X pins τ H (.Tuple elts k tpos) R) he ?_
 have fr:∀b∈[s1.heap.objs.size+1,s1.heap.objs.size],FpOk X pins H1 b:=fun b hb=>by
  simp only[lJv,lJj,lKm] at hb
  have hle:s1.heap.objs.size<=b:=by omega
  exact I1.fpOk hle (I1.hok.fresh hle)
 refine⟨s1.heap.objs.size+1,[s1.heap.objs.size+1,s1.heap.objs.size],_,_,numT xs,fun _=>True,G1,H1,rfl,e1,⟨σ,I2,hs1,hg1⟩,kVu pa _ _ (Nat.succ_ne_self _),⟨⟨.none,he⟩,hit.1⟩,fr,?_,q⟩
 intro i H2 G2 e2 g2 _
 obtain⟨pb,ws,eb,h1',h2⟩:=(show ∃p vs,V.ref pa= .ref p/\H2 p=some (.tup vs)/\Reps X.K H2 xs vs from Rep.mono e2 _ rv)
 cases eb
 have hlen:=h2.length
 refine⟨fun hi=> ?_,fun hi=>⟨ws,.of h1',by rw[jKn] at hi;omega⟩,fun hi y H' ⟨pp,z,hn,ey,hy,eH⟩=> ?_⟩
 ·rw[jKn] at hi
  exact⟨ws,ws[i]'(by omega),.of h1',by simp[hlen▸hi]⟩
 ·subst ey;subst eH
  obtain⟨t,ht,rt⟩:=h2.get' (hy ws (.of h1'))
  exact⟨.upd (.none hn),g2.tupNew hn,_,jX8 ht,Rep.tupNew ⟨_,_,rfl,rfl,_,_,rfl,rt,rfl⟩ hn⟩
section
variable {X:Cx}
theorem qJl {K:PySem.W.Frag} {H:Hp} {y:T} {b:V} (ry:Rep K H y b) (fy:jUo y=true):∀ {xs:List T} {vs:List V} {us:List Value},Reps K H xs vs->Vals vs us->xs.all jUo=true->∀(m:Nat) (x:T) (u:Value),xs[m]? =some x->us[m]? =some u->eqU b u=eqT x y
 | [],_,_,_,_,_=>fun m x u h=>by simp at h
 | x::xs,_,_,⟨v,ws,e,r1,r2⟩,q,f=>by
  subst e
  cases q with
  | cons q1 q2=>
   rw[lQj,lKy] at f
   intro m z u hz hu
   cases m with
   | zero=>cases hz;cases hu;rw[kVg q1 (jVa r1 f.1),kUd r1 ry f.1 fy]
   | succ m=>exact qJl ry fy r2 q2 f.2 m z u hz hu
noncomputable def kYi:T->List T->Gp->VK3->Prop:=fun x as G Q=>∃(p:Addr) (xs:List T) (y z:T) (j:Nat),x= .ref p/\as=[y]/\G p=some (.lst xs)/\jUo y=true/\xs.all jUo=true/\xs[j]? =some z/\eqT z y=true/\(∀(m:Nat) (t:T),m<j->xs[m]? =some t->eqT t y=false)/\Q (.int j) G
theorem qVq:Mt3 X "list.index" kYi:=by
 rintro pins s τ G H x as v us Q ⟨σ,I,hs,hg⟩ ⟨a,ra,rv⟩ ⟨bs,rbs,rus⟩ ⟨p,xs,y,z,j,ex,ea,hp,fy,fs,hj,hit,hno,q⟩
 subst ex;subst ea
 cases (show a= .ref p from ra);cases rv
 obtain⟨b,rfl,rb⟩:=jQo rbs
 obtain⟨u,rfl,ru⟩:=rus.one
 obtain⟨vs,h1,h2⟩:=hg.lst hp
 obtain⟨hz,its,n,r,hl,e⟩:=I.lstM h1
 have fl:=(jYb rb fy h2 fs).1
 have hlen:its.length=xs.length:=by have:=r.length;have:=h2.length;omega
 have hjl:j<xs.length:=(lJh.mp hj).1
 have hsl:=jYz
 refine lQ1 F.slot_list_index ⟨_,e,rfl⟩ F.entry_list_index (F.args_list_index_2 _ _) (SeqAt.list_indexAt p its.toArray n none #[] u (eqU b) j (by simp;omega) (by omega) ?_ ?_) ⟨e,fun w hw=>jUg ru (jVa rb fy) r fl w (by simpa using hw),?_⟩
 ·rw[qJl rb fy h2 r fs j z _ hj (by simp)];exact hit
 ·intro m hm hmj
  have hx:xs[m]? =some xs[m]:=lJl (by omega)
  rw[qJl rb fy h2 r fs m xs[m] _ hx (by simp)];exact hno m _ hmj hx
 ·exact⟨.int _,G,H,.refl H,⟨σ,I.tok _,hs,hg⟩,⟨.int _,rfl,s.toks,rfl⟩,q⟩
noncomputable def kX1 (tk tv:TE3):TE3:=fun τ G Q=>∀p,G p=none->tk τ (gup G p (.dck [])) fun x G1=>tv τ G1 fun y G2=>∃k,jQm x=some k/\G2 p=some (.dck [])/\Q (.ref p) (gup G2 p (.dck [(k,y)]))
theorem qXb {pos:Pos} {k v:Expr} {tk tv:TE3} (hk:PE3 X k tk) (hv:PE3 X v tv):PE3 X (.Dict [some k] [v] pos) (kX1 tk tv):=by
 rintro pins s τ G H Q ⟨σ,I,hs,hg⟩ h
 have hn:=I.hok.fresh (lJe s.heap.objs.size)
 have I1:=I.laid (a:=s.heap.objs.size) (o:= .dK []) (h':=s.heap.push {cls:= .type "dict",data:= .dict #[]}) (t':=s.toks) (fun _ _ q=>lJo _ q) (lJe _) (kJ3 s.heap I.big)
 have I3:Inv3 X pins τ (gup G s.heap.objs.size (.dck [])) (upd H s.heap.objs.size (.dK [])) {s with heap:=s.heap.push {cls:= .type "dict",data:= .dict #[]},toks:=s.toks}:=
  ⟨σ,I1,hs.mono (.upd (.none hn)),hg.upd (.none hn) (go:= .dck []) ⟨[],jJ6,.nil⟩⟩
 refine wpAny_Dict_walk (knd:=jKg X.prog X.w) rfl rfl (by simp) (by simp) (lXh (thn (hk pins _ τ _ _ _ I3 (h _ (hg.fresh hn))) fun u s1 w_=>w_.el fun x G1 H1 e1 J1 ru q1=>thn (hv pins s1 τ G1 H1 _ J1 q1) fun u2 s2 w_=>w_.el fun y G2 H2 e2 i_ ru2 ⟨key,hkey,hd,q2⟩=>i_.el fun σ2 J2 hs2 hg2=>pairTrees_nil_walk ?_))
 obtain⟨ws,hH2,pk⟩:=(show ∃ws,H2 s.heap.objs.size=some (.dK ws)/\PKV X.K H2 [] ws from hg2 _ _ hd)
 cases pk
 obtain⟨a,ra,rva⟩:=ru.mono e2
 obtain⟨c,rc,rvc⟩:=ru2
 obtain rfl:=jQl hkey ra
 obtain⟨rs,cr,rk⟩:=jXv (P:=X.prog) (w:=X.w) (kvs:=[(key,c)]) (ws:=[(u,u2)]) (.cons ⟨rva,rvc⟩ .nil)
 obtain⟨z,hdd,vs0,r0,dd⟩:=qQu J2.hok hH2
 cases r0
 refine⟨rs,cr,dd,fun h' dd' hsb=> ?_⟩
 have he:∃q,h'.get? s.heap.objs.size=some q:=let ⟨q,_,_,hq,_⟩:=dd';⟨q,hq⟩
 have JJ:=kJ4 (t':=s2.toks+[(u,u2)].length) J2 (by rw[hH2];exact True.intro) hsb he (kZ2 (kvs:=[(key,c)]) (by rw[lKo];exact Nat.succ_le_of_lt (Nat.succ_pos _)) hdd (rk.merge .nil) dd')
 have ext:Ext H2 (upd H2 s.heap.objs.size (.dK [(key,c)])):= .upd (.dK hH2)
 exact⟨.ref s.heap.objs.size,_,_,(((Ext.upd (.none hn)).trans e1).trans e2).trans ext,⟨σ2,JJ,hs2.mono ext,hg2.upd (.dK hH2) (go:= .dck [(key,y)]) ⟨_,jJ6,PKV.put (kvs:=[]) .nil key (Rep.mono ext _ rc)⟩⟩,⟨.ref _,rfl,rfl⟩,q2⟩
end
section
variable {X:Cx}
theorem kV_of {P:Program} {w:World} {k:Key} {u:Value} (h:(jKg P w).is k u=true):RelV (kV k) u:=by
 cases k with
 | inl i=>exact Value.isInt_shape h
 | inr x=>
  have h':Value.isStrOf x u=true:=h
  cases u<;>simp[Value.isStrOf] at h'
  subst h';exact⟨_,rfl⟩
theorem kKa:∀(us:List Value) (ks:List Key),us.length=ks.length->(∀(j:Nat) (v:Value) (k:Key),us[j]? =some v->ks[j]? =some k->RelV (kV k) v)->Vals (ks.map kV) us
 | [],[],_,_=> .nil
 | u::us,k::ks,hl,h=> .cons (h 0 u k rfl rfl) (kKa us ks (by simpa using hl) fun j v k' h1 h2=>h (j+1) v k' h1 h2)
 | [],_::_,e,_=>by simp at e
 | _::_,[],e,_=>by simp at e
theorem jYq {K:PySem.W.Frag} {H:Hp}:∀ks:List Key,Reps K H (ks.map kT) (ks.map kV)
 | []=>rfl
 | .inl i::ks=>⟨_,_,rfl,rfl,jYq ks⟩
 | .inr x::ks=>⟨_,_,rfl,rfl,jYq ks⟩
theorem KV.keys {kvs:List (Key×V)} {vs:List (Key×Value)} (h:KV kvs vs):vs.map Prod.fst=kvs.map Prod.fst:=by
 unfold KV at h
 induction h with
 | nil=>rfl
 | cons h t ih=>rw[lJn,lJn,ih,h.1]
theorem PKV.keys {K:PySem.W.Frag} {H:Hp} {kvs:List (Key×T)} {ws:List (Key×V)} (h:PKV K H kvs ws):ws.map Prod.fst=kvs.map Prod.fst:=by
 unfold PKV at h
 induction h with
 | nil=>rfl
 | cons h t ih=>rw[lJn,lJn,ih,h.1]
noncomputable def kYh:List T->Gp->VK3->Prop:=fun xs G Q=>∃(p:Addr) (kvs:List (Key×T)),xs=[.ref p]/\G p=some (.dck kvs)/\∀q,G q=none->Q (.ref q) (gup G q (.lst (kvs.map fun kv=>kT kv.1)))
theorem qXi (hc:X.calm=true):Call3 X (.type "list") kYh:=by
 rintro pins s τ G H xs us Q ⟨σ,I,hs,hg⟩ ⟨as,ras,rvs⟩ ⟨p,kvs,e,hp,q⟩
 subst e
 obtain⟨v,rfl,rv⟩:=jQo ras
 obtain⟨u,rfl,ru⟩:=rvs.one
 cases (show v= .ref p from rv);cases ru
 obtain⟨ws,h1,h2⟩:=(show ∃ws,H p=some (.dK ws)/\PKV X.K H kvs ws from hg p _ hp)
 obtain⟨z,hd,vs,kv,dd⟩:=qQu I.hok h1
 obtain⟨ep,dat⟩:=dd.dictAt
 have hk:=KV.keys kv
 have hk2:ws.map Prod.fst=kvs.map Prod.fst:=PKV.keys h2
 have hlen:vs.length=ws.length:=by simpa using lKl List.length hk
 refine PySem.W.kdl_call (PySem.W.kdl_dict (knd:=jKg X.prog X.w) (kvs:=vs) (ep:=ep) hd) (I.ok.hd hc) dat (by omega) fun h' tk acc c' kp hn it=> ?_
 have hv:Vals ((kvs.map Prod.fst).map kV) acc.toList:=kKa _ _ (by rw[<-hk2,<-hk];simpa using it.1) fun j v k h1 h2=>by
  obtain⟨k',x,e1,e2⟩:=it.2 j v (by simpa using h1)
  rw[<-hk2,<-hk,lJx,e1] at h2
  cases h2
  exact kV_of e2
 have fr:=I.hok.fresh (lJe s.heap.objs.size)
 have hkl:(kvs.map Prod.fst).length=ws.length:=by rw[<-hk2];simp
 have I3:=I.laid (a:=s.heap.objs.size) (o:= .lst ((kvs.map Prod.fst).map kV)) (h':=h') (t':=tk) kp (lJe _) ⟨by rw[lJf,hkl];exact z,acc.toList,c',hv,by simpa using hn⟩
 have ext:Ext H (upd H s.heap.objs.size (.lst ((kvs.map Prod.fst).map kV))):= .upd (.none fr)
 refine⟨.ref _,_,_,ext,⟨σ,I3,hs.mono ext,hg.lstNew (jYq _) (.none fr)⟩,⟨.ref _,rfl,rfl⟩,?_⟩
 have:=q _ (hg.fresh fr)
 rw[lJ0]
 exact this
end
end L3
namespace L3
open PySem PySem.Spec PyProof.Rows L2 MeetsSeq
section
variable {X:Cx}
end
end L3
namespace L3
open PySem PySem.Spec PyProof.Rows L2
section
variable {X:Cx}
end
section
variable {X:Cx}
end
section
variable {P:Program} {w:World} {A:Around} {E:Value->Shared->Prop} {s:Shared} {d:Addr}
theorem jXx {o:Obj} {es:Array DictEntry} {ep:Nat} {Q:Value->Shared->Prop} (hd:(d == sysModules)=false) (ho:s.heap.get? d=some o) (hc:o.ExactDict) (hx:o.data= .dict es ep) (hz:es.size<=sizeLine)
  (h:Q (.int es.size (s.toks+1)) {s with toks:=s.toks+1+1}):wpAny (model P w) A (call (.builtin "len") [.ref d]) Q E s:=by
 have hsl:=lKo
 have ty:s.TypeIs (.ref d) "dict":=⟨o,ho,hc.1⟩
 refine Calls.call_function_entry kind_len plain_len entry_len (args_len1 _) ?_;unfold Builtin.«len»; refine lJc (m:=oneArg "len" _) (lJd ?_)
 have M:MeetsIn P w (Builtin.«dict.__len__» ⟨[.ref d],[]⟩) (fun _ R z=>(∃o es ep,z.heap.get? d=some o/\o.data= .dict es ep/\R (.ok (.ret (.int es.size z.toks))) {z with toks:=z.toks+1})):=
  .of_wp fun A R z ⟨o,es,ep,ho,hx,h⟩=>by
   refine (show wpAny _ _ (dictSize d >>= _) _ _ z from ?_)
   unfold dictSize;refine lJc (lJc (lXa ho hx (lJd ?_)))
   refine (show wpAny _ _ (Builtin.Dict.pendingCount d >>= _) _ _ z from lJc (wpAny_pendingCount_other hd (wpAny_ret_mkInt ?_)))
   rw[Nat.add_zero];exact h
 refine lJc (m:=callSpecial? (.ref d) (Str.ofString "__len__")) (lVq (name:=Str.ofString "__len__") ty F.slot_dict_len (call_meetsIn F.slot_dict_len ty F.entry_dict_len (F.args_dict_len_1 _) M ⟨o,es,ep,ho,hx,?_⟩))
 refine (show wpAny _ _ _ _ _ {s with toks:=s.toks+1} from lJc (lQg (lJd (lJc (wpAny_letGo ?_)))))
 refine (show wpAny _ _ (if ((es.size:Nat):Int)<0 then _ else _) _ _ _ from ?_);rw[lJb (by omega)]
 refine (show wpAny _ _ (if ((es.size:Nat):Int)>=2^63 then _ else _) _ _ _ from ?_);rw[lJb (by omega)]
 exact (lJc (wpAny_mkInt (lJd ⟨_,rfl,h⟩)))
end
section
variable {X:Cx}
noncomputable def lenG (G:Gp):T->Option Nat
 | .ref p=>match G p with
  | some (.lst xs)=>some xs.length
  | some (.dct kvs)=>some kvs.length
  | some (.dck kvs)=>some kvs.length
  | some (.fdc _)=>none
  | some (.ins _ _)=>none
  | some (.exc _)=>none
  | some (.tb _ _ _)=>none
  | none=>none
 | .tup xs=>some xs.length
 | .scr xs=>some xs.length
 | _=>none
def jQx:List T->Gp->VK3->Prop:=fun xs G Q=>∃x n,xs=[x]/\lenG G x=some n/\Q (.int (n:Nat)) G
theorem jQ6:Call3 X (.builtin "len") jQx:=by
 rintro pins s τ G H xs us Q I rs ⟨x,n,ex,hx,q⟩
 by_cases hd:∃p,x= .ref p/\((∃kvs,G p=some (.dct kvs))\/∃kvs,G p=some (.dck kvs))
 ·subst ex
  obtain⟨p,rfl,hk⟩:=hd
  obtain⟨σ,I,hs,hg⟩:=I
  obtain⟨as,ras,rvs⟩:=rs
  obtain⟨v,rfl,rv⟩:=jQo ras
  obtain⟨u,rfl,ru⟩:=rvs.one
  cases (show v= .ref p from rv);cases ru
  rcases hk with ⟨kvs,hG⟩ | ⟨kvs,hG⟩
  ·simp only[lenG,hG] at hx;cases hx
   obtain⟨ws,h1,h2⟩:=hg p _ hG
   obtain⟨z,y,xs,r,o,es,ep,e1,e2,e3,e4,e5⟩:=(show ObjOk X.prog X.w H s.heap p (.dT ws) from I.hok p _ h1)
   have l1:es.size=kvs.length:=by
    have a1:=lKl List.length e4
    have a2:=lQ4 r
    have a3:=h2.length
    simp at a1;omega
   refine jXx y e1 e2 e3 (by have:=h2.length;omega) ?_
   rw[l1]
   exact⟨.int (kvs.length:Nat),G,H,.refl H,⟨σ,I.tok _,hs,hg⟩,⟨.int _,rfl,_,rfl⟩,q⟩
  ·simp only[lenG,hG] at hx;cases hx
   obtain⟨ws,h1,h2⟩:=hg p _ hG
   obtain⟨z,y,vs,rel,o,es,ep,e1,e2,e3,e4,e5,e6⟩:=(show ObjOk X.prog X.w H s.heap p (.dK ws) from I.hok p _ h1)
   have l1:es.size=kvs.length:=by
    have a1:=e5.length
    have a2:=rel.length
    have a3:=h2.length
    simp at a1;omega
   refine jXx y e1 e2 e3 (by have:=h2.length;omega) ?_
   rw[l1]
   exact⟨.int (kvs.length:Nat),G,H,.refl H,⟨σ,I.tok _,hs,hg⟩,⟨.int _,rfl,_,rfl⟩,q⟩
 ·refine jQg pins s τ G H xs us Q I rs ?_
  cases x with
  | ref p=>
   cases hG:G p with
   | none=>simp only[lenG,hG] at hx;cases hx
   | some g=>
    cases g with
    | lst ys=>simp only[lenG,hG] at hx;cases hx;exact⟨_,ys,ex,by simp only[seqT,hG,asL],q⟩
    | dct kvs=>exact absurd ⟨p,rfl,.inl ⟨kvs,hG⟩⟩ hd
    | fdc kvs=>simp only[lenG,hG] at hx;cases hx
    | ins _ _=>simp only[lenG,hG] at hx;cases hx
    | exc _=>simp only[lenG,hG] at hx;cases hx
    | tb _ _ _=>simp only[lenG,hG] at hx;cases hx
    | dck kvs=>exact absurd ⟨p,rfl,.inr ⟨kvs,hG⟩⟩ hd
  | tup ys=>cases hx;exact⟨_,ys,ex,rfl,q⟩
  | scr ys=>cases hx;exact⟨_,ys,ex,rfl,q⟩
  | non=>cases hx
  | bl _=>cases hx
  | int _=>cases hx
  | str _=>cases hx
  | ty _=>cases hx
end
noncomputable def Itl (K:PySem.W.Frag) (a1 a2:Addr):It:=
 ⟨fun i H=>∃xs ys x y,SqL K H a1 xs/\SqL K H a2 ys/\xs[i]? =some x/\ys[i]? =some y,
  fun i H v H'=>∃p x y,H p=none/\v= .ref p/\(∀xs,SqL K H a1 xs->xs[i]? =some x)/\(∀ys,SqL K H a2 ys->ys[i]? =some y)/\H'=upd H p (.tup [x,y]),
  fun i H=>∃xs ys,SqL K H a1 xs/\SqL K H a2 ys/\(xs.length<=i\/ys.length<=i)⟩
theorem kXt {P:Program} {w:World} {K:PySem.W.Frag} {elts:List Expr} {k:Nat} {pos:Pos} (z TI TO i1 i2 a1 a2:Addr) (D:ZipApart z TI TO i1 i2 a1 a2):
  Turn P w K (.Tuple elts k pos) (Itl K a1 a2) [z,TI,TO,i1,i2] z (fun i h=>IsZip h z TI TO .none/\IsPair h TI (.ref i1) (.ref i2)/\(∃a b,IsPair h TO a b)/\h.IsListIter i1 a1 i/\h.IsListIter i2 a2 i) where
 mem:=by simp
 obj:=fun i h ⟨hz,hTI,⟨a,b,hTO⟩,h1,h2⟩ c hc=>by
  simp only[lJj,lJv,lKm] at hc
  rcases hc with rfl | rfl | rfl | rfl | rfl
  ·exact⟨_,hz,fun v z=>nomatch (show Data.fields _=Data.cell v from z)⟩
  ·exact⟨_,hTI,fun v z=>nomatch (show Data.seq _ _=Data.cell v from z)⟩
  ·exact⟨_,hTO,fun v z=>nomatch (show Data.seq _ _=Data.cell v from z)⟩
  ·obtain⟨o,e,c,d⟩:=h1;exact⟨o,e,fun v z=>by rw[d] at z;cases z⟩
  ·obtain⟨o,e,c,d⟩:=h2;exact⟨o,e,fun v z=>by rw[d] at z;cases z⟩
 keep:=fun i h h' ⟨hz,hTI,⟨a,b,hTO⟩,h1,h2⟩ kp=>⟨kp z (by simp) _ hz,kp TI (by simp) _ hTI,⟨a,b,kp TO (by simp) _ hTO⟩,h1.at fun o q=>kp i1 (by simp) o q,h2.at fun o q=>kp i2 (by simp) o q⟩
 item:=by
  rintro X hP hw hK hc i pins s σ H E I hf ⟨hz,hTI,⟨a,b,hTO⟩,h1,h2⟩ hg
  subst hP hw hK
  obtain⟨xs,ys,x,y,hq1,hq2,hx,hy⟩:=hg
  obtain⟨its1,rv1,p1,hz1⟩:=I.list hq1
  obtain⟨its2,rv2,p2,hz2⟩:=I.list hq2
  obtain⟨u1,hu1,ru1⟩:=rv1.get hx
  obtain⟨u2,hu2,ru2⟩:=rv2.get hy
  refine wpAny_pyNext_zip_item D hz hTI hTO h1 h2 p1.isList p2.isList (x:=u1) (y:=u2) (by simpa using hu1) (by simpa using hu2) fun g1 ho gTO g3 g4 hT hsz hk=> ?_
  refine⟨_,rfl,wpAny_letOwnedTupleGo_zip ho fun g2 gz hs2=> ?_⟩
  have hzl:z<s.heap.objs.size:=lJg hz
  have hp2:∀b o,b∉[z,TI,TO,i1,i2]->s.heap.get? b=some o->g2.get? b=some o:=fun b o hb q=>by
   simp only[lJj,lJv,lKm,not_or] at hb
   exact (hs2.2 b hb.1).trans (hk b o hb.1 hb.2.2.1 hb.2.2.2.1 hb.2.2.2.2 q)
  have hT2:g2.get? s.heap.objs.size=some {cls:= .type "tuple",data:= .seq #[u1,u2]}:=(hs2.2 _ (lQa hzl)).trans hT
  have I2:=jVp (t':=s.toks) (h':=g2) (p:=s.heap.objs.size) (vs:=[x,y]) (us:=[u1,u2]) I hp2 hf (lJe _) ⟨_,hT2,rfl,_,rfl,rfl⟩ (.cons ru1 (.cons ru2 .nil)) (by show 2<=sizeLine;decide)
  refine⟨.ref s.heap.objs.size,_,I2,rfl,⟨_,x,y,I.hok.fresh (lJe _),rfl,fun zs hz=>by rw[I.list_inj hz hq1];exact hx,fun zs hz=>by rw[I.list_inj hz hq2];exact hy,rfl⟩,
   ⟨gz,(hs2.2 _ D.TIz).trans (hk _ _ D.TIz D.TITO D.TIi1 D.TIi2 hTI),⟨_,_,(hs2.2 _ D.TOz).trans gTO⟩,g3.at fun o q=>(hs2.2 _ D.i1z).trans q,g4.at fun o q=>(hs2.2 _ D.i2z).trans q⟩,fun b hb=> ?_⟩
  have hbs:∃o,s.heap.get? b=some o:=by
   have hbq:=hb
   simp only[lJj,lJv,lKm] at hbq
   rcases hbq with rfl | rfl | rfl | rfl | rfl
   ·exact⟨_,hz⟩
   ·exact⟨_,hTI⟩
   ·exact⟨_,hTO⟩
   ·obtain⟨o,q,_⟩:=h1;exact⟨o,q⟩
   ·obtain⟨o,q,_⟩:=h2;exact⟨o,q⟩
  obtain⟨o,q⟩:=hbs
  rw[jJu (lJw (lJg q))]
  exact (hf b hb).1
 done:=by
  rintro X hP hw hK hc i pins s σ H E I hf ⟨hz,hTI,⟨a,b,hTO⟩,h1,h2⟩ hg
  subst hP hw hK
  obtain⟨xs,ys,hq1,hq2,hx⟩:=hg
  obtain⟨its1,rv1,p1,hz1⟩:=I.list hq1
  obtain⟨its2,rv2,p2,hz2⟩:=I.list hq2
  have hl1:=rv1.length
  have hl2:=rv2.length
  refine wpAny_pyNext_zip_end (I.ok.hd hc) D hz hTI hTO h1 h2 p1.isList p2.isList ?_ fun g1 hk=>⟨rfl,jZ5 (t':=s.toks) (fp:=[z,TI,TO,i1,i2]) I (fun b o hb q=> ?_) hf⟩
  ·rcases hx with hx | hx
   ·exact .inl (by simp;omega)
   ·exact .inr (by simp;omega)
  ·simp only[lJj,lJv,lKm,not_or] at hb
   exact hk b o hb.1 hb.2.2.1 hb.2.2.2.1 hb.2.2.2.2 q
 self:=fun _ _ _ _ _ ⟨hz,_⟩ h=>wpAny_pyIter_zip hz h
section
variable {X:Cx}
def kQz:List T->Gp->VK3->Prop:=fun xs G Q=>∃i j,xs=[.int i,.int j]/\Q (.int (if j<i then j else i)) G
theorem kVn (hc:X.calm=true):Call3 X (.builtin "min") kQz:=
 Call3.of (qJe hc) fun H G xs as Q hg ra ⟨i,j,e,q⟩=>by
  subst e
  obtain⟨v,w,rfl,rv,rw'⟩:=kYb ra
  cases (show v= .int i from rv);cases (show w= .int j from rw')
  exact⟨i,j,rfl,.int _,G,.refl H,hg,rfl,q⟩
theorem jQj:∀ {is:List Int} {us:List Value},Vals (is.map V.int) us->∃ps:List (Int×Tok),us=ps.map (fun p=> .int p.1 p.2)/\ps.map (·.1)=is
 | [],_,.nil=>⟨[],rfl,rfl⟩
 | i::is,_,.cons ⟨t,e⟩ r=>by
  obtain⟨ps,e1,e2⟩:=jQj r
  subst e1;subst e2;subst e
  exact⟨(i,t)::ps,rfl,rfl⟩
end
section
variable {X:Cx}
end
section
variable {X:Cx}
end
section
variable {X:Cx} {pos:Pos}
end
theorem szle {n:Nat} (h:Nat.ble n 16777216=true):n<=sizeLine:=by rw[PySem.sizeLine_eq];exact Nat.le_of_ble_eq_true h
end L3
namespace L3
theorem xe1 {A0:Type} {σ:Type} {f:A0->σ} {p:A0->Prop} {τ:σ} {C:σ->Prop} (h:∃a0,τ=f a0/\p a0) (k:∀a0,p a0->C (f a0)):C τ:=by
 obtain⟨a0,e,h⟩:=h;rw[e];exact k _ h
theorem xe2 {A0 A1:Type} {σ:Type} {f:A0->A1->σ} {p:A0->A1->Prop} {τ:σ} {C:σ->Prop} (h:∃a0 a1,τ=f a0 a1/\p a0 a1) (k:∀a0 a1,p a0 a1->C (f a0 a1)):C τ:=by
 obtain⟨a0,a1,e,h⟩:=h;rw[e];exact k _ _ h
theorem xi2 {A0 A1:Type} {σ:Type} {f:A0->A1->σ} {p:A0->A1->Prop} {τ:σ} (a0:A0) (a1:A1) (e:τ=f a0 a1) (h:p a0 a1):∃a0 a1,τ=f a0 a1/\p a0 a1:=⟨a0,a1,e,h⟩
theorem xe3 {A0 A1 A2:Type} {σ:Type} {f:A0->A1->A2->σ} {p:A0->A1->A2->Prop} {τ:σ} {C:σ->Prop} (h:∃a0 a1 a2,τ=f a0 a1 a2/\p a0 a1 a2) (k:∀a0 a1 a2,p a0 a1 a2->C (f a0 a1 a2)):C τ:=by
 obtain⟨a0,a1,a2,e,h⟩:=h;rw[e];exact k _ _ _ h
theorem xi3 {A0 A1 A2:Type} {σ:Type} {f:A0->A1->A2->σ} {p:A0->A1->A2->Prop} {τ:σ} (a0:A0) (a1:A1) (a2:A2) (e:τ=f a0 a1 a2) (h:p a0 a1 a2):∃a0 a1 a2,τ=f a0 a1 a2/\p a0 a1 a2:=⟨a0,a1,a2,e,h⟩
theorem xe4 {A0 A1 A2 A3:Type} {σ:Type} {f:A0->A1->A2->A3->σ} {p:A0->A1->A2->A3->Prop} {τ:σ} {C:σ->Prop} (h:∃a0 a1 a2 a3,τ=f a0 a1 a2 a3/\p a0 a1 a2 a3) (k:∀a0 a1 a2 a3,p a0 a1 a2 a3->C (f a0 a1 a2 a3)):C τ:=by
 obtain⟨a0,a1,a2,a3,e,h⟩:=h;rw[e];exact k _ _ _ _ h
theorem xi4 {A0 A1 A2 A3:Type} {σ:Type} {f:A0->A1->A2->A3->σ} {p:A0->A1->A2->A3->Prop} {τ:σ} (a0:A0) (a1:A1) (a2:A2) (a3:A3) (e:τ=f a0 a1 a2 a3) (h:p a0 a1 a2 a3):∃a0 a1 a2 a3,τ=f a0 a1 a2 a3/\p a0 a1 a2 a3:=⟨a0,a1,a2,a3,e,h⟩
theorem xe5 {A0 A1 A2 A3 A4:Type} {σ:Type} {f:A0->A1->A2->A3->A4->σ} {p:A0->A1->A2->A3->A4->Prop} {τ:σ} {C:σ->Prop} (h:∃a0 a1 a2 a3 a4,τ=f a0 a1 a2 a3 a4/\p a0 a1 a2 a3 a4) (k:∀a0 a1 a2 a3 a4,p a0 a1 a2 a3 a4->C (f a0 a1 a2 a3 a4)):C τ:=by
 obtain⟨a0,a1,a2,a3,a4,e,h⟩:=h;rw[e];exact k _ _ _ _ _ h
theorem xe6 {A0 A1 A2 A3 A4 A5:Type} {σ:Type} {f:A0->A1->A2->A3->A4->A5->σ} {p:A0->A1->A2->A3->A4->A5->Prop} {τ:σ} {C:σ->Prop} (h:∃a0 a1 a2 a3 a4 a5,τ=f a0 a1 a2 a3 a4 a5/\p a0 a1 a2 a3 a4 a5) (k:∀a0 a1 a2 a3 a4 a5,p a0 a1 a2 a3 a4 a5->C (f a0 a1 a2 a3 a4 a5)):C τ:=by
 obtain⟨a0,a1,a2,a3,a4,a5,e,h⟩:=h;rw[e];exact k _ _ _ _ _ _ h
theorem xe7 {A0 A1 A2 A3 A4 A5 A6:Type} {σ:Type} {f:A0->A1->A2->A3->A4->A5->A6->σ} {p:A0->A1->A2->A3->A4->A5->A6->Prop} {τ:σ} {C:σ->Prop} (h:∃a0 a1 a2 a3 a4 a5 a6,τ=f a0 a1 a2 a3 a4 a5 a6/\p a0 a1 a2 a3 a4 a5 a6) (k:∀a0 a1 a2 a3 a4 a5 a6,p a0 a1 a2 a3 a4 a5 a6->C (f a0 a1 a2 a3 a4 a5 a6)):C τ:=by
 obtain⟨a0,a1,a2,a3,a4,a5,a6,e,h⟩:=h;rw[e];exact k _ _ _ _ _ _ _ h
theorem xi7 {A0 A1 A2 A3 A4 A5 A6:Type} {σ:Type} {f:A0->A1->A2->A3->A4->A5->A6->σ} {p:A0->A1->A2->A3->A4->A5->A6->Prop} {τ:σ} (a0:A0) (a1:A1) (a2:A2) (a3:A3) (a4:A4) (a5:A5) (a6:A6) (e:τ=f a0 a1 a2 a3 a4 a5 a6) (h:p a0 a1 a2 a3 a4 a5 a6):∃a0 a1 a2 a3 a4 a5 a6,τ=f a0 a1 a2 a3 a4 a5 a6/\p a0 a1 a2 a3 a4 a5 a6:=⟨a0,a1,a2,a3,a4,a5,a6,e,h⟩
theorem xe8 {A0 A1 A2 A3 A4 A5 A6 A7:Type} {σ:Type} {f:A0->A1->A2->A3->A4->A5->A6->A7->σ} {p:A0->A1->A2->A3->A4->A5->A6->A7->Prop} {τ:σ} {C:σ->Prop} (h:∃a0 a1 a2 a3 a4 a5 a6 a7,τ=f a0 a1 a2 a3 a4 a5 a6 a7/\p a0 a1 a2 a3 a4 a5 a6 a7) (k:∀a0 a1 a2 a3 a4 a5 a6 a7,p a0 a1 a2 a3 a4 a5 a6 a7->C (f a0 a1 a2 a3 a4 a5 a6 a7)):C τ:=by
 obtain⟨a0,a1,a2,a3,a4,a5,a6,a7,e,h⟩:=h;rw[e];exact k _ _ _ _ _ _ _ _ h
theorem xe10 {A0 A1 A2 A3 A4 A5 A6 A7 A8 A9:Type} {σ:Type} {f:A0->A1->A2->A3->A4->A5->A6->A7->A8->A9->σ} {p:A0->A1->A2->A3->A4->A5->A6->A7->A8->A9->Prop} {τ:σ} {C:σ->Prop} (h:∃a0 a1 a2 a3 a4 a5 a6 a7 a8 a9,τ=f a0 a1 a2 a3 a4 a5 a6 a7 a8 a9/\p a0 a1 a2 a3 a4 a5 a6 a7 a8 a9) (k:∀a0 a1 a2 a3 a4 a5 a6 a7 a8 a9,p a0 a1 a2 a3 a4 a5 a6 a7 a8 a9->C (f a0 a1 a2 a3 a4 a5 a6 a7 a8 a9)):C τ:=by
 obtain⟨a0,a1,a2,a3,a4,a5,a6,a7,a8,a9,e,h⟩:=h;rw[e];exact k _ _ _ _ _ _ _ _ _ _ h
theorem xi10 {A0 A1 A2 A3 A4 A5 A6 A7 A8 A9:Type} {σ:Type} {f:A0->A1->A2->A3->A4->A5->A6->A7->A8->A9->σ} {p:A0->A1->A2->A3->A4->A5->A6->A7->A8->A9->Prop} {τ:σ} (a0:A0) (a1:A1) (a2:A2) (a3:A3) (a4:A4) (a5:A5) (a6:A6) (a7:A7) (a8:A8) (a9:A9) (e:τ=f a0 a1 a2 a3 a4 a5 a6 a7 a8 a9) (h:p a0 a1 a2 a3 a4 a5 a6 a7 a8 a9):∃a0 a1 a2 a3 a4 a5 a6 a7 a8 a9,τ=f a0 a1 a2 a3 a4 a5 a6 a7 a8 a9/\p a0 a1 a2 a3 a4 a5 a6 a7 a8 a9:=⟨a0,a1,a2,a3,a4,a5,a6,a7,a8,a9,e,h⟩
theorem xe12 {A0 A1 A2 A3 A4 A5 A6 A7 A8 A9 A10 A11:Type} {σ:Type} {f:A0->A1->A2->A3->A4->A5->A6->A7->A8->A9->A10->A11->σ} {p:A0->A1->A2->A3->A4->A5->A6->A7->A8->A9->A10->A11->Prop} {τ:σ} {C:σ->Prop} (h:∃a0 a1 a2 a3 a4 a5 a6 a7 a8 a9 a10 a11,τ=f a0 a1 a2 a3 a4 a5 a6 a7 a8 a9 a10 a11/\p a0 a1 a2 a3 a4 a5 a6 a7 a8 a9 a10 a11) (k:∀a0 a1 a2 a3 a4 a5 a6 a7 a8 a9 a10 a11,p a0 a1 a2 a3 a4 a5 a6 a7 a8 a9 a10 a11->C (f a0 a1 a2 a3 a4 a5 a6 a7 a8 a9 a10 a11)):C τ:=by
 obtain⟨a0,a1,a2,a3,a4,a5,a6,a7,a8,a9,a10,a11,e,h⟩:=h;rw[e];exact k _ _ _ _ _ _ _ _ _ _ _ _ h
theorem ae2 {a0 a1 C:Prop} (h:a0/\a1) (k:a0->a1->C):C:=k h.1 h.2
theorem ae3 {a0 a1 a2 C:Prop} (h:a0/\a1/\a2) (k:a0->a1->a2->C):C:=k h.1 h.2.1 h.2.2
theorem ae4 {a0 a1 a2 a3 C:Prop} (h:a0/\a1/\a2/\a3) (k:a0->a1->a2->a3->C):C:=k h.1 h.2.1 h.2.2.1 h.2.2.2
theorem ae5 {a0 a1 a2 a3 a4 C:Prop} (h:a0/\a1/\a2/\a3/\a4) (k:a0->a1->a2->a3->a4->C):C:=k h.1 h.2.1 h.2.2.1 h.2.2.2.1 h.2.2.2.2
theorem ae6 {a0 a1 a2 a3 a4 a5 C:Prop} (h:a0/\a1/\a2/\a3/\a4/\a5) (k:a0->a1->a2->a3->a4->a5->C):C:=k h.1 h.2.1 h.2.2.1 h.2.2.2.1 h.2.2.2.2.1 h.2.2.2.2.2
theorem ae7 {a0 a1 a2 a3 a4 a5 a6 C:Prop} (h:a0/\a1/\a2/\a3/\a4/\a5/\a6) (k:a0->a1->a2->a3->a4->a5->a6->C):C:=k h.1 h.2.1 h.2.2.1 h.2.2.2.1 h.2.2.2.2.1 h.2.2.2.2.2.1 h.2.2.2.2.2.2
theorem ae8 {a0 a1 a2 a3 a4 a5 a6 a7 C:Prop} (h:a0/\a1/\a2/\a3/\a4/\a5/\a6/\a7) (k:a0->a1->a2->a3->a4->a5->a6->a7->C):C:=k h.1 h.2.1 h.2.2.1 h.2.2.2.1 h.2.2.2.2.1 h.2.2.2.2.2.1 h.2.2.2.2.2.2.1 h.2.2.2.2.2.2.2
theorem ae9 {a0 a1 a2 a3 a4 a5 a6 a7 a8 C:Prop} (h:a0/\a1/\a2/\a3/\a4/\a5/\a6/\a7/\a8) (k:a0->a1->a2->a3->a4->a5->a6->a7->a8->C):C:=k h.1 h.2.1 h.2.2.1 h.2.2.2.1 h.2.2.2.2.1 h.2.2.2.2.2.1 h.2.2.2.2.2.2.1 h.2.2.2.2.2.2.2.1 h.2.2.2.2.2.2.2.2
theorem ae10 {a0 a1 a2 a3 a4 a5 a6 a7 a8 a9 C:Prop} (h:a0/\a1/\a2/\a3/\a4/\a5/\a6/\a7/\a8/\a9) (k:a0->a1->a2->a3->a4->a5->a6->a7->a8->a9->C):C:=k h.1 h.2.1 h.2.2.1 h.2.2.2.1 h.2.2.2.2.1 h.2.2.2.2.2.1 h.2.2.2.2.2.2.1 h.2.2.2.2.2.2.2.1 h.2.2.2.2.2.2.2.2.1 h.2.2.2.2.2.2.2.2.2
end L3
namespace L3
open PySem PySem.Spec PyProof.Rows L2
section
variable {X:Cx}
theorem qJc (hc:X.calm=true):jZo X (.builtin "sum") (fun xs H Q=>∃(p:Addr) (is:List Int),xs=[.ref p]/\SqL X.K H p (is.map V.int)/\∀z,Q (.int z) H):=by
 intro pins s σ H xs us Q I r h
 obtain⟨p,is,rfl,hx,q⟩:=h
 obtain⟨u,rfl,ru⟩:=kKb r
 cases ru
 obtain⟨its,r',pl,hz⟩:=I.list hx
 obtain⟨ps,e1,e2⟩:=jQj r'
 subst e1
 have eI:(ps.map (fun p=>Value.int p.1 p.2)).toArray=intItems ps.toArray:=by simp[intItems]
 refine sum_intListG (xs:=ps.toArray) (I.ok.hd hc) (eI▸pl.isList) fun h' tk t' k=> ?_
 exact⟨.int _,H,I.kept k,⟨t',rfl⟩,q _⟩
def rSum:List T->Gp->VK3->Prop:=fun xs G Q=>∃(p:Addr) (is:List Int),xs=[.ref p]/\G p=some (.lst (is.map T.int))/\∀z,Q (.int z) G
theorem c_sum (hc:X.calm=true):Call3 X (.builtin "sum") rSum:=
 Call3.of (qJc hc) fun H G xs as Q hg ra ⟨p,is,e,hG,q⟩=>by
  subst e
  obtain⟨v,rfl,rv⟩:=jQo ra
  cases (show v= .ref p from rv)
  obtain⟨vs,h1,h2⟩:=hg.lst hG
  have e:=jKw h2
  subst e
  exact⟨p,is,rfl,.of h1,fun z=>⟨.int z,G,.refl H,hg,rfl,q z⟩⟩
theorem jZ4 {xs:List V} {us:List Value} (h:Vals xs us):∀is:List Nat,Vals (is.filterMap (xs[·]?)) (is.filterMap (us[·]?))
 | []=> .nil
 | i::is=>by
  rw[lKu,lKu]
  cases e:xs[i]? with
  | none=>rw[h.none_of e];exact jZ4 h is
  | some x=>
   obtain⟨u,e2,r⟩:=h.get e
   rw[e2];exact .cons r (jZ4 h is)
theorem kJg {K:PySem.W.Frag} {H:Hp} {xs:List T} {vs:List V} (h:Reps K H xs vs):∀is:List Nat,Reps K H (is.filterMap (xs[·]?)) (is.filterMap (vs[·]?))
 | []=>rfl
 | i::is=>by
  rw[lKu,lKu]
  cases e:xs[i]? with
  | none=>
   have:vs[i]? =none:=by
    cases e2:vs[i]? with
    | none=>rfl
    | some v=>obtain⟨x,e3,_⟩:=h.get' e2;rw[e] at e3;cases e3
   rw[this];exact kJg h is
  | some x=>
   obtain⟨v,e2,r⟩:=h.get e
   rw[e2];exact⟨v,_,rfl,r,kJg h is⟩
noncomputable def qJ2 (te:TE3) (tl th tk:TO3):TE3:=fun τ G Q=>te τ G fun x G1=>tl τ G1 fun l G2=>th τ G2 fun u G3=>tk τ G3 fun k G4=>k≠some 0/\∃xs,jK4 G4 x=some xs/\∀(is:List Nat) p,G4 p=none->Q (.ref p) (gup G4 p (.lst (is.filterMap (xs[·]?))))
theorem e_slSt {e st:Expr} {te:TE3} {lo hi:Option Expr} {tl th tk:TO3} {pos p2:Pos} (he:PE3 X e te) (hl:PO3 X lo tl) (hu:PO3 X hi th) (hk:PO3 X (some st) tk):PE3 X (.Subscript e (.Slice lo hi (some st) p2) pos) (qJ2 te tl th tk):=by
 intro pins s τ G H Q I h
 refine Subscript_ (thn (he pins s τ G H _ I h) fun v s1 w_=>w_.el fun x G1 H1 e1 I1 r1 q1=> ?_)
 refine wpAny_Slice (thn (hl pins s1 τ G1 H1 _ I1 q1) fun vl s2 ⟨l,G2,H2,e2,I2,pl,q2⟩=>thn (hu pins s2 τ G2 H2 _ I2 q2) fun vu s3 ⟨u,G3,H3,e3,I3,pu,q3⟩=>thn (hk pins s3 τ G3 H3 _ I3 q3) fun vk s4 ⟨k,G4,H4,e4,⟨σ,I4,hs4,hg4⟩,pk,ek,xs,hx,q4⟩=> ?_)
 have e14:=e2.trans (e3.trans e4)
 have I5:Inv X pins σ H4 {s4 with heap:=s4.heap.push {cls:= .type "slice",data:= .fields #[vl,vu,vk]} }:=I4.kept (t':=s4.toks) fun b ob q=>lJo _ q
 obtain⟨a,ra,rv⟩:=r1.mono e14
 obtain⟨p,vs,ea,hq,r⟩:=jQd hg4 ra hx
 subst ea
 cases rv
 obtain⟨its,rr,ht,hz⟩:=I5.list hq
 have hlen:=rr.length
 have hg:wpAny (model X.prog X.w) X.A (getItem (.ref p) (.ref s4.heap.objs.size)) (EP3 X pins τ H4 Q) X.xe {s4 with heap:=s4.heap.push {cls:= .type "slice",data:= .fields #[vl,vu,vk]} }:=by
  refine wpAny_getItem_list_slice ht.isList (Heap.IsSliceOf.new ..) pl pu pk ek ?_ (by rw[lJk]<;>omega)
  have hsz:=slicePick_size_le its.toArray l u k
  unfold slicePick at hsz ⊢
  generalize sliceRange _ _ _=is at hsz ⊢
  have ei:is.filterMap (its.toArray[·]?)=is.filterMap (its[·]?):=by congr 1;funext i;exact List.getElem?_toArray
  rw[ei] at hsz ⊢
  have vp:=jZ4 rr is
  refine jUf hs4 ⟨.ref _,_,I5.laid (t':=s4.toks) (o:= .lst (is.filterMap (vs[·]?))) (fun b ob q=>lJo _ q) (lJe _) ⟨?_,_,0,vp,lJ5 _ rfl⟩,rfl,?_⟩
  ·rw[vp.length];simp at hsz;omega
  ·exact⟨.ref _,_,.upd (.none (I5.hok.fresh (lJe _))),hg4.lstNew (kJg r is) (.none (I5.hok.fresh (lJe _))),rfl,q4 is _ (hg4.fresh (I5.hok.fresh (lJe _)))⟩
 show wpAny (model X.prog X.w) X.A (subscriptTail e (.Slice lo hi (some st) p2) (.ref p) (.ref s4.heap.objs.size)) (EP3 X pins τ H Q) X.xe {s4 with heap:=s4.heap.push {cls:= .type "slice",data:= .fields #[vl,vu,vk]} }
 exact thn (tail_any (ops:=[.ref p,.ref s4.heap.objs.size]) ht.isList.typeIs slot_list_getitem.lookup hg (by with_unfolding_all rfl)) fun _ _ z=>z.ext (e1.trans e14)
def kJp:R3:=fun x y G Q=>∃p xs,y= .ref p/\G p=some (.lst xs)/\eqOk x=true/\jX2 xs=true/\∀b:Bool,Q (.bl b) G
theorem qKu (hu:X.A.units+64<cLine):Op3 X (compareOp .NotIn) kJp:=by
 rintro pins s τ G H x y v u Q ⟨σ,I,hs,hg⟩ ⟨a,ra,rv⟩ ⟨b,rb,ru⟩ ⟨p,xs,ey,hp,ox,oxs,q⟩
 subst ey
 cases (show b= .ref p from rb)
 cases ru
 obtain⟨vs,h1,h2⟩:=hg.lst hp
 obtain⟨its,r1,⟨o,n,ho,hc,_,hd⟩,_⟩:=I.list (.of h1)
 simp only[eqOk,jX2,lKy,lQh] at ox oxs
 obtain⟨as,r3⟩:=jVt I xs oxs.1.1 h2 r1
 obtain⟨bs,r4⟩:=kJh I x ox.1.1 ra rv
 have hd':=ox.2
 exact SeqAt.notIn_list_reads (.list ho hc hd (by simpa using r3)) r4 (by simpa[PyData.canLay0] using oxs.1.2) ox.1.2 (by have:=Nat.min_le_right (PyData.depthAll (tds xs)) (td x).depth;omega) ⟨.bl _,G,H,.refl H,⟨σ,I,hs,hg⟩,⟨.bl _,rfl,rfl⟩,q _⟩
end
theorem qUs {X:Cx} {elts:List Expr} {k:Nat} {tpos:Pos} {pins:List (Addr×Obj)} {s1:Shared} {τ:St3} {σ:L2.St} {G1:Gp} {H H1:Hp} {R:List T->(Gp->Prop)->Gp->Prop} {x y:T} {xs ys:List T} {v w:V} {u u':Value} (St:Gp->Prop) (hSt:∀G',St G'->jK4 G' x=some xs/\jK4 G' y=some ys)
  (e1:Ext H H1) (I1:Inv X pins σ H1 s1) (hs1:SRel X.K H1 σ τ) (hg1:GRel X.K H1 G1) (rv:Rep X.K H1 x v) (rw':Rep X.K H1 y w) (ru:RelV v u) (ru':RelV w u') (hx:jK4 G1 x=some xs) (hy:jK4 G1 y=some ys) (q:R (zipT xs ys) St G1):
  wpAny (model X.prog X.w) X.A (call (.type "zip") [u,u']) (fun v s1=>wpAny (model X.prog X.w) X.A (pyIter v) (PIE3 X pins τ H (.Tuple elts k tpos) R) X.xe s1) X.xe s1:=by
 obtain⟨pa,vs,rfl,hq1,r1⟩:=jQd hg1 rv hx
 obtain⟨pb,ws,rfl,hq2,r2⟩:=jQd hg1 rw' hy
 cases ru;cases ru'
 obtain⟨its1,rv1,p1,hz1⟩:=I1.list hq1
 obtain⟨its2,rv2,p2,hz2⟩:=I1.list hq2
 have hal:pa<s1.heap.objs.size:=by obtain⟨o,ho,_⟩:=p1.isList;exact lJg ho
 have hbl:pb<s1.heap.objs.size:=by obtain⟨o,ho,_⟩:=p2.isList;exact lJg ho
 refine call_zip_2 p1.isList p2.isList fun h1 hz hTI hTO hi1 hi2 hsz hk=> ?_
 have I2:Inv X pins σ H1 {s1 with heap:=h1}:=I1.kept (t':=s1.toks) hk
 refine wpAny_pyIter_zip hz ?_
 have fr:∀c∈[s1.heap.objs.size+4,s1.heap.objs.size+2,s1.heap.objs.size+3,s1.heap.objs.size,s1.heap.objs.size+1],FpOk X pins H1 c:=fun c hc=>by
  simp only[lJj,lJv,lKm] at hc
  have hle:s1.heap.objs.size<=c:=by omega
  exact I1.fpOk hle (I1.hok.fresh hle)
 have D:ZipApart (s1.heap.objs.size+4) (s1.heap.objs.size+2) (s1.heap.objs.size+3) s1.heap.objs.size (s1.heap.objs.size+1) pa pb:=qQ7 hal hbl
 refine⟨s1.heap.objs.size+4,_,_,_,zipT xs ys,St,G1,H1,rfl,e1,⟨σ,I2,hs1,hg1⟩,kXt _ _ _ _ _ pa pb D,⟨hz,hTI,⟨_,_,hTO⟩,hi1,hi2⟩,fr,?_,q⟩
 intro i H2 G2 e2 g2 st0
 have st:=hSt G2 st0
 obtain⟨pa',vs',ea,ha',ra'⟩:=jQd g2 (Rep.mono e2 _ rv) st.1
 obtain⟨pb',ws',eb,hbq,rb'⟩:=jQd g2 (Rep.mono e2 _ rw') st.2
 cases ea;cases eb
 have hl1:=ra'.length
 have hl2:=rb'.length
 have hzl:(zipT xs ys).length=min xs.length ys.length:=by simp[zipT]
 refine⟨fun hi=> ?_,fun hi=>⟨vs',ws',ha',hbq,by omega⟩,fun hi y H' ⟨pp,x1,x2,hn,ey,hy1,hy2,eH⟩=> ?_⟩
 ·exact⟨vs',ws',vs'[i]'(by omega),ws'[i]'(by omega),ha',hbq,lJl _,lJl _⟩
 ·subst ey;subst eH
  obtain⟨t1,ht1,rt1⟩:=ra'.get' (hy1 vs' ha')
  obtain⟨t2,ht2,rt2⟩:=rb'.get' (hy2 ws' hbq)
  have hzi:(zipT xs ys)[i]? =some (.tup [t1,t2]):=by
   unfold zipT
   rw[lJx,show (xs.zip ys)[i]? =some (t1,t2) from lXl.mpr ⟨ht1,ht2⟩];rfl
  exact⟨.upd (.none hn),g2.tupNew hn,_,hzi,Rep.tupNew ⟨_,_,rfl,rt1,_,_,rfl,rt2,rfl⟩ hn⟩
theorem qUr {X:Cx} {elts:List Expr} {k:Nat} {tpos:Pos} {pins:List (Addr×Obj)} {s1:Shared} {τ:St3} {σ:L2.St} {G1:Gp} {H H1:Hp} {R:List T->(Gp->Prop)->Gp->Prop} {xs ys:List T} {v w:V} {u u':Value} (St:Gp->Prop)
  (e1:Ext H H1) (I1:Inv X pins σ H1 s1) (hs1:SRel X.K H1 σ τ) (hg1:GRel X.K H1 G1) (rv:Rep X.K H1 (.tup xs) v) (rw':Rep X.K H1 (.tup ys) w) (ru:RelV v u) (ru':RelV w u') (q:R (zipT xs ys) St G1):
  wpAny (model X.prog X.w) X.A (call (.type "zip") [u,u']) (fun v s1=>wpAny (model X.prog X.w) X.A (pyIter v) (PIE3 X pins τ H (.Tuple elts k tpos) R) X.xe s1) X.xe s1:=by
 obtain⟨pa,vs,rfl,hq1,r1⟩:=(show ∃p vs,v= .ref p/\H1 p=some (.tup vs)/\Reps X.K H1 xs vs from rv)
 obtain⟨pb,ws,rfl,hq2,r2⟩:=(show ∃p vs,w= .ref p/\H1 p=some (.tup vs)/\Reps X.K H1 ys vs from rw')
 cases ru;cases ru'
 obtain⟨its1,rv1,p1,hz1⟩:=I1.tuple (.of hq1)
 obtain⟨its2,rv2,p2,hz2⟩:=I1.tuple (.of hq2)
 have hal:pa<s1.heap.objs.size:=by obtain⟨o,ho,_⟩:=p1;exact lJg ho
 have hbl:pb<s1.heap.objs.size:=by obtain⟨o,ho,_⟩:=p2;exact lJg ho
 refine qJu (show s1.heap.IsTuple pa its1.toArray from p1) (show s1.heap.IsTuple pb its2.toArray from p2) fun h1 n hn hz hTI hTO hi1 hi2 hk=> ?_
 subst hn
 have I2:Inv X pins σ H1 {s1 with heap:=h1}:=I1.kept (t':=s1.toks) hk
 refine wpAny_pyIter_zip hz ?_
 have fr:∀c∈[s1.heap.objs.size+4,s1.heap.objs.size+2,s1.heap.objs.size+3,s1.heap.objs.size,s1.heap.objs.size+1],FpOk X pins H1 c:=fun c hc=>by
  simp only[lJj,lJv,lKm] at hc
  have hle:s1.heap.objs.size<=c:=by omega
  exact I1.fpOk hle (I1.hok.fresh hle)
 have D:ZipApart (s1.heap.objs.size+4) (s1.heap.objs.size+2) (s1.heap.objs.size+3) s1.heap.objs.size (s1.heap.objs.size+1) pa pb:=qQ7 hal hbl
 refine⟨s1.heap.objs.size+4,_,_,_,zipT xs ys,St,G1,H1,rfl,e1,⟨σ,I2,hs1,hg1⟩,qJ1 _ _ _ _ _ pa pb D,⟨hz,hTI,⟨_,_,hTO⟩,hi1.1,hi2.1⟩,fr,?_,q⟩
 intro i H2 G2 e2 g2 _
 obtain⟨pa',vs',ea,ha',ra'⟩:=(show ∃p vs,V.ref pa= .ref p/\H2 p=some (.tup vs)/\Reps X.K H2 xs vs from Rep.mono e2 _ rv)
 obtain⟨pb',ws',eb,hbq,rb'⟩:=(show ∃p vs,V.ref pb= .ref p/\H2 p=some (.tup vs)/\Reps X.K H2 ys vs from Rep.mono e2 _ rw')
 cases ea;cases eb
 have hl1:=ra'.length
 have hl2:=rb'.length
 have hzl:(zipT xs ys).length=min xs.length ys.length:=by simp[zipT]
 refine⟨fun hi=> ?_,fun hi=>⟨vs',ws',.of ha',.of hbq,by omega⟩,fun hi y H' ⟨pp,x1,x2,hn,ey,hy1,hy2,eH⟩=> ?_⟩
 ·exact⟨vs',ws',vs'[i]'(by omega),ws'[i]'(by omega),.of ha',.of hbq,lJl _,lJl _⟩
 ·subst ey;subst eH
  obtain⟨t1,ht1,rt1⟩:=ra'.get' (hy1 vs' (.of ha'))
  obtain⟨t2,ht2,rt2⟩:=rb'.get' (hy2 ws' (.of hbq))
  have hzi:(zipT xs ys)[i]? =some (.tup [t1,t2]):=by
   unfold zipT
   rw[lJx,show (xs.zip ys)[i]? =some (t1,t2) from lXl.mpr ⟨ht1,ht2⟩];rfl
  exact⟨.upd (.none hn),g2.tupNew hn,_,hzi,Rep.tupNew ⟨_,_,rfl,rt1,_,_,rfl,rt2,rfl⟩ hn⟩
noncomputable def qQi (ta:TA3):TI3:=fun τ G R=>ta τ G fun vs G1=>∃x y xs ys,vs=[x,y]/\((x= .tup xs/\y= .tup ys/\R (zipT xs ys) (fun _=>True) G1)\/(jK4 G1 x=some xs/\jK4 G1 y=some ys/\R (zipT xs ys) (fun G'=>jK4 G' x=some xs/\jK4 G' y=some ys) G1))
theorem i_zipB {X:Cx} {elts:List Expr} {k:Nat} {tpos pos p:Pos} {a b:Expr} {ta:TA3} (hg:Gl X "zip") (hm:X.mg "zip"=none) (hv:bootBuiltins "zip"=some (.type "zip")) (ha:PA3 X [a,b] ta) (hs:starEach [a,b] X.env=[(false,eval a X.env),(false,eval b X.env)]:=by rfl) (hs2:starEach [b] X.env=[(false,eval b X.env)]:=by rfl):
  PI3 X (.Tuple elts k tpos) (.Call (.Name "zip" p) [a,b] [] pos) (qQi ta):=by
 intro pins s τ G H R I h
 obtain⟨σ0,I0,hs0,hg0⟩:=id I
 refine Call_ (jUk I0 hg hm hv (lQ5 (thn (ha pos pins s τ G H _ I h) fun us s1 w_=>w_.el fun xs' G1 H1 e1 i_ r_ q1=>i_.el fun σ I1 hs1 hg1=>r_.el fun as ras rvs=> ?_) (by rw[hs,hs2]) (by rw[hs2];rfl)))
 obtain⟨x,y,xs,ys,e,hx⟩:=q1
 subst e
 obtain⟨v,w,rfl,rv,rw'⟩:=kYb ras
 obtain⟨u,u',rfl,ru,ru'⟩:=rvs.two
 rcases hx with ⟨rfl,rfl,q⟩ | ⟨hx,hy,q⟩
 ·exact qUr _ e1 I1 hs1 hg1 rv rw' ru ru' q
 ·exact qUs _ (fun G' h=>h) e1 I1 hs1 hg1 rv rw' ru ru' hx hy q
section
variable {X:Cx}
end
section
variable {X:Cx}
end
section
variable {X:Cx}
end
section
variable {P:Program} {w:World} {A:Around} {E:Value->Shared->Prop} {s:Shared} {d it:Addr} {o:Obj} {es:Array DictEntry} {ep i:Nat}
theorem kV9 {K:Type} [DecidableEq K] (knd:HeapKind P w K) (a:Addr) (hd:(d == sysModules)=false):
  MeetsIn P w (Builtin.«dict.get» ⟨[.ref d,.ref a],[]⟩) (fun A R s=>knd.room A.in1/\∃k xs,knd.is s.heap k a/\s.heap.DictOfH knd d xs/\R (.ok (.ret (((atKey xs k).map (·.2)).getD .none))) {s with toks:=s.toks+knd.draws k}):=
 .of_wp fun A R (s) ⟨hu,k,xs,hkey,hm,h⟩=>by
  unfold Builtin.«dict.get»; refine lJc ?_
  unfold Builtin.Dict.keyAndDefault;refine lJc (wpAny_notOrdered_dict hm.typeIs ?_)
  refine (show wpAny _ _ (pure (d,Value.ref a,none)) _ _ s from lJd ?_)
  refine lJc (m:=dictGet d (.ref a)) (wpAny_dictGet_heap hu hkey hm ?_)
  cases e:(atKey xs k).map (·.2) with
  | some v=>rw[e] at h;exact lJd ⟨_,rfl,h⟩
  | none=>
   rw[e] at h
   refine lJc (m:=Builtin.Dict.missed d (.ref a)) ?_
   unfold Builtin.Dict.missed
   rw[lJb (by rw[hd];exact (lJp))]
   exact lJd (lJd ⟨_,rfl,h⟩)
end
section
variable {X:Cx}
def qU7:T->List T->Gp->VK3->Prop:=fun x as G Q=>∃p ys o,x= .ref p/\as=[.tup ys]/\dAt G (.ref p) (.tup ys)=some o/\Q (o.getD .non) G
theorem m_getD (hu:X.A.units+20<cLine):Mt3 X "dict.get" qU7:=by
 rintro pins s τ G H x as v us Q ⟨σ,I,hs,hg⟩ ⟨a,ra,rv⟩ ⟨bs,rbs,rus⟩ ⟨p,ys,o,ex,ea,hd,q⟩
 subst ex;subst ea
 cases (show a= .ref p from ra);cases rv
 obtain⟨b,rfl,rb⟩:=jQo rbs
 obtain⟨u1,rfl,ru1⟩:=rus.one
 obtain⟨p',ov,ep,g,e1,e2⟩:=kJ5 hg ra rb hd
 cases ep
 obtain⟨q',vs,e,h3,h4⟩:=(show ∃q vs,b= .ref q/\H q=some (.tup vs)/\Reps X.K H ys vs from rb)
 subst e
 cases (show u1=Value.ref q' from ru1)
 rcases g with ⟨kvs,k,e,ey,l⟩ | ⟨kvs,k,b,e,ey,eb,l⟩
 ·cases k<;>cases ey
 ·cases ey
  obtain⟨z,hdd,xs,rel,dd⟩:=kXi I.hok e
  refine call_meetsIn PySem.F.slot_dict_get dd.typeIs PySem.F.entry_dict_get (PySem.F.args_dict_get_2 _ _) (kV9 (jKj X.prog X.w) q' hdd) ⟨jKc hu,k,xs,jY0 I.hok eb,dd,?_⟩
  have ro:=rel.val k
  rw[<-l] at ro
  cases ov with
  | none=>
   cases o with
   | some t=>cases e1
   | none=>
    cases ea:atKey xs k with
    | some pp=>rw[ea] at ro;exact (show False from ro).elim
    | none=>exact⟨.non,G,H,.refl H,⟨σ,I.tok _,hs,hg⟩,⟨.non,rfl,rfl⟩,q⟩
  | some wv=>
   cases o with
   | none=>cases e1
   | some t=>
    obtain⟨wv',e',rt⟩:=e2 t rfl
    cases e'
    cases ea:atKey xs k with
    | none=>rw[ea] at ro;exact (show False from ro).elim
    | some pp=>rw[ea] at ro;exact⟨t,G,H,.refl H,⟨σ,I.tok _,hs,hg⟩,⟨wv,rt,ro⟩,q⟩
theorem jXm {α β:Type} {F:α->β->Prop}:∀ {l:List α} {m:List β} {i:Nat} {x:α},Paired F l m->l[i]? =some x->∃y,m[i]? =some y/\F x y
 | _,_,_,_,.nil,h=>by simp at h
 | _,_,0,_,.cons r t,h=>by cases h;exact⟨_,rfl,r⟩
 | _,_,i+1,_,.cons r t,h=>jXm (i:=i) t h
end
section
variable {A:Around} {E:Value->Shared->Prop} {s:Shared} {M:Model}
end
section
variable {X:Cx} {scope:Scope} {cl:List (Str×Addr)} {mask:List Bool}
end
section
variable {X:Cx} {scope:Scope} {cl:List (Str×Addr)} {mask:List Bool} {elt iter tg:Expr} {ifs:List Expr} {pos:Pos} {wi:TI3} {g:TG3} {tif:TT3} {te:TE3}
end
end L3
namespace L3
open PySem
namespace St
open SetTable
def lp (mask:Nat) (x:Nat×Nat):Nat×Nat:=leap mask x.1 x.2
end St
end L3
namespace L3
open PySem
namespace St
open SetTable
end St
end L3
namespace L3
open PySem PySem.Spec PyProof.Rows L2
section
variable {prog:Program} {w:World} {K:Type} [DecidableEq K] {c:Nat}
end
section
variable {prog:Program} {w:World} {A:Around} {E:Value->Shared->Prop} {s:Shared}
end
section
variable {prog:Program} {w:World} {A:Around} {E:Value->Shared->Prop} {s:Shared}
end
section
variable {w:World} {prog:Program}
section
variable {A:Around} {R:Result->Shared->Prop} {I:Addr} {fp:List Addr} {G:Array GenState->Array GenState->Prop} {n:Nat} {P:Nat->Value->Prop} {St:Nat->Shared->Prop}
end
section
variable {E:Value->Shared->Prop} {s:Shared} {A:Around}
end
end
namespace Si
theorem own:Manifest.owners.lookup (String.ofList ['r','o','t','a','r','e','t','i','_','t','e','s'].reverse)=some Manifest.sig_set_iterator:=by kernel_rfl
end Si
section
variable {prog:Program} {w:World} {A:Around} {E:Value->Shared->Prop} {s:Shared}
end
end L3
namespace L3
open PySem PySem.Spec PyProof.Rows L2
noncomputable def lexLt {K:Type} [DecidableEq K] (lt:K->K->Option Bool):List K->List K->Option Bool
 | [],[]=>some false
 | [],_::_=>some true
 | _::_,[]=>some false
 | x::xs,y::ys=>if x=y then lexLt lt xs ys else lt x y
def ltI:Key->Key->Option Bool
 | .inl i,.inl j=>some (decide (i<j))
 | _,_=>none
def ltS {K:Type} [DecidableEq K] (lt:K->K->Option Bool):Key ⊕ List K->Key ⊕ List K->Option Bool
 | .inl x,.inl y=>ltI x y
 | .inr x,.inr y=>lexLt lt x y
 | _,_=>none
def ltK:TKey->TKey->Option Bool:=lexLt (ltS (ltS ltI))
section
variable {prog:Program} {w:World} {K:Type} [DecidableEq K] {c:Nat}
def LtV (V:KeyV prog w K c) (lt:K->K->Option Bool):Prop:=∀ {A:Around} {E:Value->Shared->Prop} {s:Shared} {x y:K} {u v:Value} {b:Bool} {Q:Value->Shared->Prop},A.units+c<cLine->V.is s.heap x u->V.is s.heap y v->lt x y=some b->Q (.bool b) s->wpAny (model prog w) A (compareOp .Lt u v) Q E s
theorem kY2:LtV (kQj prog w) ltI:=by
 intro A E s x y u v b Q _ hx hy hl h
 rcases jJv (show jXq x u=true from hx) with ⟨i,t,rfl,rfl⟩ | ⟨i,t,rfl,rfl⟩
 ·rcases jJv (show jXq y v=true from hy) with ⟨j,t',rfl,rfl⟩ | ⟨j,t',rfl,rfl⟩
  ·cases hl
   exact PyProof.Rows.lt_int h
  ·cases hl
 ·cases hl
open PySem.SeqAt in
open PySem.AutoSeq1 (wpAny_loadPart') in
open PySem.MeetsSeq PySem.MeetsSeq2 PySem.MeetsSeq3 in
theorem lt_tup {V:KeyV prog w K c} {lt:K->K->Option Bool} (hV:LtV V lt):LtV (jUl V) (lexLt lt):=by
 rintro A E s x y u v b Q hu ⟨a1,o1,its1,n1,rfl,ho1,hc1,hd1,hi1⟩ ⟨a2,o2,its2,n2,rfl,ho2,hc2,hd2,hi2⟩ hl h
 obtain⟨cls,dd,data,sl⟩:=o1
 obtain⟨cls2,dd2,data2,sl2⟩:=o2
 simp only at hc1 hd1 hc2 hd2
 subst hc1 hd1 hc2 hd2
 have hT1:s.TypeIs (.ref a1) "tuple":=⟨_,ho1,rfl⟩
 have hT2:s.TypeIs (.ref a2) "tuple":=⟨_,ho2,rfl⟩
 refine (show wpAny _ _ (richCompare .Lt (.ref a1) (.ref a2)) _ _ s from wpAny_richCompare_same_room hT1 hT2 PySem.F.slot_tuple_lt (lVr PySem.F.slot_tuple_lt hT1 PySem.F.entry_tuple_lt ?_ (PySem.F.args_tuple_lt_2 _ _)) (by omega))
 have f2:=AutoSeq1.sub_tuple_tuple
 (obtain⟨hp,g,d,tk,os⟩:=s)
 have z1:its1.size=x.length:=by rw[hi1.length];simp
 have z2:its2.size=y.length:=by rw[hi2.length];simp
 wp_walk using wpAny_loadPart' ho1,wpAny_loadPart' ho2,wpAny_forIn_list _ (fun rest bb s'=>bb.1=none/\s'=⟨hp,g,d,tk,os⟩/\∃(vs ws:List Value) (x' y':List K),rest=vs.zip ws/\ItemsV V hp x' vs/\ItemsV V hp y' ws/\x'.length+its2.size=y'.length+its1.size/\lexLt lt x' y'=some b) _
 case turn=>
  rintro⟨p,q⟩ rest bb s' ⟨hb',rfl,vs,ws,x',y',hz,hv1,hv2,hlen,hR⟩
  cases hv1 with
  | nil=>rw[List.zip_nil_left] at hz;cases hz
  | @cons k1 v1 ks1 vs1 h1 hv1'=>
   cases hv2 with
   | nil=>rw[List.zip_nil_right] at hz;cases hz
   | @cons k2 v2 ks2 vs2 h2 hv2'=>
    rw[lVy] at hz
    injection hz with hyx hrest
    injection hyx with hy hx
    subst hy hx
    simp only[lKe] at hlen
    have he:=V.eqAt (A:=A.in1) (s:=⟨hp,g,d,tk,os⟩) (by rw[lQ3];omega) h1 h2
    refine lJc (he prog w _ _ ?_)
    by_cases e:k1=k2
    ·have hR':lexLt lt ks1 ks2=some b:=by
      have:=hR
      unfold lexLt at this
      rw[lJa e] at this;exact this
     rw[lJs e]
     wp_walk
     exact⟨rfl,rfl,_,_,_,_,hrest,hv1',hv2',by omega,hR'⟩
    ·have hR':lt k1 k2=some b:=by
      have:=hR
      unfold lexLt at this
      rw[lJb e] at this;exact this
     rw[lJu e]
     have hri:∀ {Q':Value->Shared->Prop} {E':Value->Shared->Prop},Q' (.bool b) ⟨hp,g,d,tk,os⟩->wpAny (model prog w) A.in1 (richCompare .Lt p q) Q' E' ⟨hp,g,d,tk,os⟩:=fun hq=>(hV (A:=A.in1) (s:=⟨hp,g,d,tk,os⟩) (by rw[lQ3];omega) h1 h2 hR' hq:wpAny (model prog w) A.in1 (compareOp .Lt p q) _ _ _)
     wp_walk using hri
     exact⟨_,rfl,(fun z=>nomatch z),h⟩
 case fin=>
  rintro⟨b1,b2⟩ s' ⟨hb',rfl,vs,ws,x',y',hz,hv1,hv2,hlen,hR⟩
  simp only at hb'
  subst hb'
  have hv:b=decide (its1.size<its2.size):=by
   cases hv1 with
   | nil=>
    cases hv2 with
    | nil=>simp only[lQk] at hlen;cases hR;exact (lJu (by omega)).symm
    | cons _ _=>simp only[lQk,lKe] at hlen;cases hR;exact (lJs (by omega)).symm
   | cons _ hv1'=>
    cases hv2 with
    | nil=>simp only[lQk,lKe] at hlen;cases hR;exact (lJu (by omega)).symm
    | cons _ _=>rw[lVy] at hz;cases hz
  wp_walk
  refine⟨_,rfl,(fun z=>nomatch z),?_⟩
  simpa[Builtin.Tuple.tupleCompareSizes,<-hv] using h
 case h=>
  exact⟨rfl,rfl,its1.toList,its2.toList,x,y,rfl,hi1,hi2,by omega,hl⟩
theorem kY1 {V:KeyV prog w K c} {lt:K->K->Option Bool} (hV:LtV V lt):LtV (qJ7 V) (ltS lt):=by
 rintro A E s (x | x) (y | y) u v b Q hu hx hy hl h
 ·exact kY2 (by omega) hx hy hl h
 ·cases hl
 ·cases hl
 ·exact lt_tup hV hu hx hy hl h
end
end L3
namespace L3
open PySem PySem.Spec PyProof.Rows L2 PySem.W
section
variable {n:Nat} {lt:Nat->Nat->Bool}
end
structure KOrd {K:Type} (lt:K->K->Option Bool):Prop where
 neg:∀ {a b},a≠b->∀ {c},lt a b=some c->lt b a=some !c
 tr:∀ {a b c},a≠b->b≠c->lt a b=some true->lt b c=some true->lt a c=some true
 ir:∀ {a b},a≠b->lt a b=some true->lt b a=some true->False
theorem kord_I:KOrd ltI:=by
 refine⟨?_,?_,?_⟩
 ·rintro (a | a) (b | b) h c e
  ·have hab:a≠b:=fun z=>h (by rw[z])
   simp only[ltI,Option.some.injEq] at e ⊢
   rw[<-e]
   by_cases q:a<b
   ·rw[lJs q,lJu (by omega)];rfl
   ·rw[lJu q,lJs (by omega)];rfl
  ·cases e
  ·cases e
  ·cases e
 ·rintro (a | a) (b | b) (c | c) _ _ e1 e2<;>first | cases e1;done | cases e2;done | skip
  simp only[ltI,Option.some.injEq,lQh] at e1 e2 ⊢
  omega
 ·rintro (a | a) (b | b) _ e1 e2<;>first | cases e1;done | skip
  simp only[ltI,Option.some.injEq,lQh] at e1 e2
  omega
section
variable {K:Type} [DecidableEq K] {lt:K->K->Option Bool}
theorem kUa (o:KOrd lt):∀ {a b:List K},a≠b->∀ {c},lexLt lt a b=some c->lexLt lt b a=some !c
 | [],[],h,_,_=>absurd rfl h
 | [],_::_,_,c,e=>by cases e;rfl
 | _::_,[],_,c,e=>by cases e;rfl
 | x::xs,y::ys,h,c,e=>by
  unfold lexLt at e ⊢
  by_cases q:x=y
  ·rw[lJa q] at e;rw[lJa q.symm]
   exact kUa o (fun z=>h (by rw[q,z])) e
  ·rw[lJb q] at e;rw[lJb (fun z=>q z.symm)]
   exact o.neg q e
theorem kU6:∀(a:List K),lexLt lt a a=some false
 | []=>rfl
 | x::xs=>by unfold lexLt;rw[lJa rfl];exact kU6 xs
theorem kKz (o:KOrd lt):∀ {a b c:List K},lexLt lt a b=some true->lexLt lt b c=some true->lexLt lt a c=some true
 | [],[],_,e,_=>by cases e
 | _::_,[],_,e,_=>by cases e
 | [],_::_,[],_,e=>by cases e
 | [],_::_,_::_,_,_=>(rfl)
 | _::_,_::_,[],_,e=>by cases e
 | x::xs,y::ys,z::zs,e1,e2=>by
  unfold lexLt at e1 e2 ⊢
  by_cases q1:x=y
  ·subst q1
   rw[lJa rfl] at e1
   by_cases q2:x=z
   ·rw[lJa q2] at e2 ⊢
    exact kKz o e1 e2
   ·rw[lJb q2] at e2 ⊢
    exact e2
  ·rw[lJb q1] at e1
   by_cases q2:y=z
   ·subst q2
    rw[lJb q1]
    exact e1
   ·rw[lJb q2] at e2
    by_cases q3:x=z
    ·subst q3
     exact (o.ir q1 e1 e2).elim
    ·rw[lJb q3]
     exact o.tr q1 q2 e1 e2
theorem kJw (o:KOrd lt):KOrd (lexLt lt):=by
 refine⟨?_,?_,?_⟩
 ·intro a b h c e;exact kUa o h e
 ·intro a b c _ _ e1 e2;exact kKz o e1 e2
 ·intro a b h e1 e2
  have:=kUa o h e1
  rw[e2] at this;cases this
theorem jV2 (o:KOrd lt):KOrd (ltS lt):=by
 refine⟨?_,?_,?_⟩
 ·rintro (a | a) (b | b) h c e
  ·exact kord_I.neg (fun z=>h (by rw[z])) e
  ·cases e
  ·cases e
  ·exact (kJw o).neg (fun z=>h (by rw[z])) e
 ·rintro (a | a) (b | b) (c | c) h1 h2 e1 e2<;>first | cases e1;done | cases e2;done | skip
  ·exact kord_I.tr (fun z=>h1 (by rw[z])) (fun z=>h2 (by rw[z])) e1 e2
  ·exact kKz o e1 e2
 ·rintro (a | a) (b | b) h e1 e2<;>first | cases e1;done | skip
  ·exact kord_I.ir (fun z=>h (by rw[z])) e1 e2
  ·exact (kJw o).ir (fun z=>h (by rw[z])) e1 e2
end
section
variable {prog:Program} {w:World} {A:Around} {E:Value->Shared->Prop} {s:Shared}
end
theorem jVj {α β:Type} {f:α->β} {l l':List β} (h:l.Perm l'):∀es:List α,l'=es.map f->∃es':List α,es'.Perm es/\l=es'.map f:=by
 induction h with
 | nil=>intro es e;cases es with | nil=>exact⟨[],.refl _,rfl⟩ | cons _ _=>cases e
 | cons x _ ih=>
  intro es e
  cases es with
  | nil=>cases e
  | cons a es=>
   rw[lJn,lVz] at e
   obtain⟨es',h1,h2⟩:=ih es e.2
   exact⟨a::es',h1.cons a,by rw[lJn,e.1,h2]⟩
 | swap x y l=>
  intro es e
  match es,e with
  | a::b::es,e=>
   rw[lJn,lJn,lVz,lVz] at e
   exact⟨b::a::es,.swap _ _ _,by rw[lJn,lJn,e.1,e.2.1,e.2.2]⟩
 | trans _ _ ih1 ih2=>
  intro es e
  obtain⟨es',h1,h2⟩:=ih2 es e
  obtain⟨es'',h3,h4⟩:=ih1 es' h2
  exact⟨es'',h3.trans h1,h4⟩
section
variable {prog:Program} {w:World} {A:Around} {E:Value->Shared->Prop} {s:Shared}
end
theorem jY1 {x y:T} {k:Key} (h1:jQm x=some k) (h2:jQm y=some k):x=y:=by
 cases x<;>cases h1<;>(cases y<;>cases h2;rfl)
theorem jYg {κ:Type} {f:T->Option κ} (hf:∀x y k,f x=some k->f y=some k->x=y):∀ {xs ys:List T} {ks:List κ},allK f xs=some ks->allK f ys=some ks->xs=ys
 | [],[],_,_,_=>rfl
 | [],y::ys,_,h1,h2=>by
  cases h1
  unfold allK at h2
  cases e1:f y<;>cases e2:allK f ys<;>rw[e1,e2] at h2<;>cases h2
 | x::xs,[],_,h1,h2=>by
  cases h2
  unfold allK at h1
  cases e1:f x<;>cases e2:allK f xs<;>rw[e1,e2] at h1<;>cases h1
 | x::xs,y::ys,ks,h1,h2=>by
  unfold allK at h1 h2
  cases e1:f x with
  | none=>rw[e1] at h1;cases h1
  | some k1=>
   cases e2:allK f xs with
   | none=>rw[e1,e2] at h1;cases h1
   | some k2=>
    rw[e1,e2] at h1;cases h1
    cases e3:f y with
    | none=>rw[e3] at h2;cases h2
    | some k3=>
     cases e4:allK f ys with
     | none=>rw[e3,e4] at h2;cases h2
     | some k4=>
      rw[e3,e4] at h2;cases h2
      rw[hf _ _ _ e1 e3,jYg hf e2 e4]
theorem qQd (x y:T) (k:K1) (h1:key1 x=some k) (h2:key1 y=some k):x=y:=by
 cases k with
 | inl k=>
  have f:∀z:T,key1 z=some (.inl k)->jQm z=some k:=by
   intro z hz
   cases z with
   | tup ts=>
    obtain⟨_,_,e⟩:=lQl.mp (show (allK jQm ts).map Sum.inr=some (Sum.inl k) from hz)
    cases e
   | int i=>cases hz;rfl
   | str i=>cases hz;rfl
   | _=>cases hz
  exact jY1 (f x h1) (f y h2)
 | inr ks=>
  have f:∀z:T,key1 z=some (.inr ks)->∃ts,z= .tup ts/\allK jQm ts=some ks:=by
   intro z hz
   cases z with
   | tup ts=>
    obtain⟨k',h,e⟩:=lQl.mp (show (allK jQm ts).map Sum.inr=some (Sum.inr ks) from hz)
    cases e
    exact⟨ts,rfl,h⟩
   | _=>cases hz
  obtain⟨t1,rfl,e1⟩:=f x h1
  obtain⟨t2,rfl,e2⟩:=f y h2
  rw[jYg (fun _ _ _=>jY1) e1 e2]
theorem qQb (x y:T) (k:K2) (h1:key2 x=some k) (h2:key2 y=some k):x=y:=by
 cases k with
 | inl k=>
  have f:∀z:T,key2 z=some (.inl k)->jQm z=some k:=by
   intro z hz
   cases z with
   | tup ts=>
    obtain⟨_,_,e⟩:=lQl.mp (show (allK key1 ts).map Sum.inr=some (Sum.inl k) from hz)
    cases e
   | int i=>cases hz;rfl
   | str i=>cases hz;rfl
   | _=>cases hz
  exact jY1 (f x h1) (f y h2)
 | inr ks=>
  have f:∀z:T,key2 z=some (.inr ks)->∃ts,z= .tup ts/\allK key1 ts=some ks:=by
   intro z hz
   cases z with
   | tup ts=>
    obtain⟨k',h,e⟩:=lQl.mp (show (allK key1 ts).map Sum.inr=some (Sum.inr ks) from hz)
    cases e
    exact⟨ts,rfl,h⟩
   | _=>cases hz
  obtain⟨t1,rfl,e1⟩:=f x h1
  obtain⟨t2,rfl,e2⟩:=f y h2
  rw[jYg qQd e1 e2]
theorem kXd {xs ys:List T} {k:TKey} (h1:jQ4 xs=some k) (h2:jQ4 ys=some k):xs=ys:=jYg qQb h1 h2
theorem kYa {K:PySem.W.Frag} {H:Hp}:∀(tb:List ((List T×TKey)×Addr)),(∀e,e∈tb->Rep K H (.tup e.1.1) (.ref e.2))->Reps K H (tb.map fun e=> .tup e.1.1) (tb.map fun e=>V.ref e.2)
 | [],_=>rfl
 | e::tb,h=>⟨_,_,rfl,h e (lJ7 ..),kYa tb fun x hx=>h x (lJ3 _ hx)⟩
theorem jZp:∀(bs:List ((List T×TKey)×Addr)),Vals (bs.map fun e=>V.ref e.2) (bs.map fun e=>Value.ref e.2)
 | []=> .nil
 | e::bs=> .cons rfl (jZp bs)
section
variable {X:Cx}
end
end L3
namespace L3
open PySem PySem.Spec PyProof.Rows L2
section
variable {X:Cx}
noncomputable def kQ0:T->List T->Gp->VK3->Prop:=fun x as G Q=>∃p q xs ys,x= .ref p/\as=[.ref q]/\G p=some (.lst xs)/\G q=some (.lst ys)/\xs.length+ys.length<=sizeLine/\Q .non (gup G p (.lst (xs++ys)))
theorem qK3:Mt3 X "list.extend" kQ0:=by
 rintro pins s τ G H x as v us Q ⟨σ,I,hs,hg⟩ ⟨a,ra,rv⟩ ⟨bs,rbs,rus⟩ ⟨p,q,xs,ys,ex,ea,hp,hq,hz,k⟩
 subst ex;subst ea
 cases (show a= .ref p from ra);cases rv
 obtain⟨b1,rfl,r1⟩:=jQo rbs
 cases (show b1= .ref q from r1)
 obtain⟨u1,rfl,ru1⟩:=rus.one
 cases ru1
 obtain⟨vs,h1,h2⟩:=hg.lst hp
 obtain⟨ws,h3,h4⟩:=hg.lst hq
 obtain⟨z,its,n,r,hl,e⟩:=I.lstM h1
 obtain⟨z',its',n',r',hl',e'⟩:=I.lstM h3
 have hlen:=h2.length
 have hlen':=h4.length
 have q1:=r.length
 have q2:=r'.length
 have hc:¬(!its.toArray.isEmpty&&Builtin.List.listTooLong (its.toArray.size+its'.toArray.size))=true:=by
  have:Builtin.List.listTooLong (its.toArray.size+its'.toArray.size)=false:=by
   unfold Builtin.List.listTooLong
   (rw[lJk,lJk])
   exact lJu (by omega)
  rw[this,Bool.and_false];exact lJp
 refine lQ1 F.slot_list_extend ⟨_,e,rfl⟩ F.entry_list_extend (F.args_list_extend_2 _ _) (AutoSeq1.list_extend_list_list_0 p its.toArray n q its'.toArray n' hc (by rw[lJk];omega) (by rw[lJk,lJk];omega)) ⟨e,e',?_⟩
 have e2:Ext H (upd H p (.lst (vs++ws))):= .upd (.lst h1)
 refine⟨.non,_,_,e2,⟨σ,I.lset (its':=its++its') h1 e ?_ (r.append r') ?_,hs.mono e2,hg.lstNew (xs:=xs++ys) (h2.append h4) (.lst h1)⟩,⟨.non,rfl,rfl⟩,k⟩
 ·simp
 ·rw[lKd];omega
end
section
variable {X:Cx}
theorem Reps.dropLast {K:PySem.W.Frag} {H:Hp} {xs:List T} {vs:List V} (r:Reps K H xs vs):Reps K H xs.dropLast vs.dropLast:=by
 rw[List.dropLast_eq_take,List.dropLast_eq_take,r.length];exact r.take _
def qU6:T->List T->Gp->VK3->Prop:=fun x as G Q=>∃(p:Addr) (ys:List T) (y:T),x= .ref p/\as=[]/\G p=some (.lst (ys++[y]))/\Q y (gup G p (.lst ys))
theorem m_pop:Mt3 X "list.pop" qU6:=
 Mt3.of mt_pop fun H G x xs a as Q hg ra ras ⟨p,ys,y,ex,exs,hp,q⟩=>by
  subst ex;subst exs
  cases (show a= .ref p from ra)
  cases (show as=[] from ras)
  obtain⟨vs,h1,h2⟩:=hg.lst hp
  have hl:=h2.length
  rw[lKd] at hl
  obtain⟨v,h3,h4⟩:=h2.get (i:=ys.length) (x:=y) (by simp)
  have e:Ext H (upd H p (.lst vs.dropLast)):= .upd (.lst h1)
  refine⟨p,vs,v,rfl,rfl,h1,by rw[<-hl];exact h3,y,_,e,hg.lstNew (xs:=ys) ?_ (.lst h1),Rep.mono e _ h4,q⟩
  have:=h2.dropLast
  rw[List.dropLast_concat] at this
  exact this
end
section
variable {X:Cx}
end
section
variable {X:Cx}
theorem jYw (l:List Int):∀j,preSum (fun i=>l.getD i 0) j=(l.take j).sum
 | 0=>by simp[preSum]
 | j+1=>by
  rw[preSum,jYw l j,lQv,List.sum_append]
  congr 1
  (rw[lQ7])
  cases l[j]? <;>simp
theorem kKs (ps:List (Int×Tok)):preSum (numAt ps.toArray) ps.toArray.size=(ps.map (·.1)).sum:=by
 have h:numAt ps.toArray=fun i=>(ps.map (·.1)).getD i 0:=by
  funext i
  simp[numAt,List.getD]
 rw[h,jYw,lK3 (by simp)]
theorem qJd (hc:X.calm=true):jZo X (.builtin "sum") (fun xs H Q=>∃(p:Addr) (is:List Int),xs=[.ref p]/\SqL X.K H p (is.map V.int)/\Q (.int is.sum) H):=by
 intro pins s σ H xs us Q I r h
 obtain⟨p,is,rfl,hx,q⟩:=h
 obtain⟨u,rfl,ru⟩:=kKb r
 cases ru
 obtain⟨its,r',pl,hz⟩:=I.list hx
 obtain⟨ps,e1,e2⟩:=jQj r'
 subst e1
 have eI:(ps.map (fun p=>Value.int p.1 p.2)).toArray=intItems ps.toArray:=by simp[intItems]
 refine sum_intListG (xs:=ps.toArray) (I.ok.hd hc) (eI▸pl.isList) fun h' tk t' k=> ?_
 rw[kKs,e2]
 exact⟨.int _,H,I.kept k,⟨t',rfl⟩,q⟩
def qU5:List T->Gp->VK3->Prop:=fun xs G Q=>∃(p:Addr) (is:List Int),xs=[.ref p]/\G p=some (.lst (is.map T.int))/\Q (.int is.sum) G
theorem c_sumE (hc:X.calm=true):Call3 X (.builtin "sum") qU5:=
 Call3.of (qJd hc) fun H G xs as Q hg ra ⟨p,is,e,hG,q⟩=>by
  subst e
  obtain⟨v,rfl,rv⟩:=jQo ra
  cases (show v= .ref p from rv)
  obtain⟨vs,h1,h2⟩:=hg.lst hG
  have e:=jKw h2
  subst e
  exact⟨p,is,rfl,.of h1,⟨.int _,G,.refl H,hg,rfl,q⟩⟩
end
def CN (K:PySem.W.Frag) (cn:Str) (C:Addr):Prop:=PySem.W.nsIn K mainGlobals cn=some (some (.ref C))
theorem CN.one {K:PySem.W.Frag} {cn:Str} {C D:Addr} (h:CN K cn C) (h':CN K cn D):C=D:=by
 unfold CN at h h';rw[h] at h';cases h';rfl
section
variable {X:Cx} {cn f m:Str} {pos pos' apos p:Pos} {e o value:Expr} {es:List Expr} {ta tv:TE3} {t:TA3} {k:Nat} {ps:List Str} {sp:Sp3}
end
end L3
namespace L3
open PySem PySem.Spec PyProof.Rows L2 PySem.W
structure Lies (P:Program) (w:World) (outer:List Env) (H:Hp) (s:Shared) (a C:Addr) (B:Heap) (a0:Value) (H':Hp) (s':Shared):Prop where
 os:s'.os=s.os
 bare:AllBare s'.gens
 fly:Heap.FlyingW B outer a (.ref C) a0 s'.heap
 hok:HOk P w H' B
 keep:∀b o,s.heap.get? b=some o->H b=none->b∉frs outer->B.get? b=some o
 there:∀b o,s.heap.get? b=some o->b∉frs outer->∃o',B.get? b=some o'
 slot:∀b o,s.heap.get? b=some o->b∈frs outer->∃sl,s'.heap.get? b=some {o with slots:=sl}
 free:∀b o,s.heap.get? b=some o->H b=none->H' b=none
 tups:∀b xs,H b=some (.tup xs)->H' b=some (.tup xs)
 frzs:∀b o u,H b=some (.frz o u)->H' b=some (.frz o u)
 tbls:∀b ps,H b=some (.tbl ps)->∃more,H' b=some (.tbl (ps++more))
section
variable {P:Program} {w:World} {outer:List Env} {H H':Hp} {s s':Shared} {a C:Addr} {B:Heap} {a0:Value}
theorem Lies.un (l:Lies P w outer H s a C B a0 H' s'):Un (frs outer) [] H H' s.heap s'.heap where
 keep:=fun b o h n f _=>l.fly.1 b o (l.keep b o h n f)
 slot:=fun b o h _ f _=>l.slot b o h f
 free:=fun b o h n _=>l.free b o h n
 there:=fun b o h _=>by
  by_cases f:b∈frs outer
  ·obtain⟨sl,e⟩:=l.slot b o h f
   exact⟨_,e⟩
  ·obtain⟨o',e⟩:=l.there b o h f
   exact⟨o',l.fly.1 b o' e⟩
 tups:=l.tups
 frzs:=l.frzs
 tbls:=l.tbls
theorem kYq {P:Program} {w:World} {H:Hp} {h:Heap} {a:Addr} {o:HO} (x:ObjOk P w H h a o):∃u,h.get? a=some u:=by
 induction o with
 | lst xs=>obtain⟨z,its,n,r,e⟩:=x;exact⟨_,e⟩
 | tup xs=>obtain⟨z,its,r,ob,e,c⟩:=x;exact⟨_,e⟩
 | dK kvs=>obtain⟨z,y,vs,r,ob,es,ep,e,c⟩:=x;exact⟨_,e⟩
 | dT kvs=>obtain⟨z,y,xs,r,ob,es,ep,e,c⟩:=x;exact⟨_,e⟩
 | set S n=>obtain⟨ob,es,ep,t,e,c⟩:=x;exact⟨_,e⟩
 | ins C dx fs=>obtain⟨d,z,ne,e,_⟩:=x;exact⟨_,e⟩
 | own y=>exact x
 | xd fs=>obtain⟨mA,⟨od,es,ep,e,c⟩,r⟩:=x;exact⟨_,e⟩
 | rng lo hi=>obtain⟨t,u,v,e⟩:=x;exact⟨_,e⟩
 | frz ob u ih=>obtain⟨e,q⟩:=x;exact⟨_,e⟩
 | tbl ps=>exact⟨_,x⟩
 | met f y=>exact⟨_,x⟩
 | ext φ=>obtain⟨p,e,st⟩:=x;exact e
theorem Lies.na (l:Lies P w outer H s a C B a0 H' s'):H' a=none:=by
 cases e:H' a with
 | none=>rfl
 | some o=>
  obtain⟨u,hu⟩:=kYq (l.hok a o e)
  rw[l.fly.2.1] at hu;cases hu
end
section
variable {X:Cx} {pins:List (Addr×Obj)} {σ:L2.St} {H H':Hp} {s s':Shared} {a C:Addr} {B:Heap} {a0:Value} {E:Value->Shared->Prop}
theorem qV7 {l:List Env}:∀env∈l,∀b,env.frame=some b->b∈frs l:=fun env he b hb=>List.mem_filterMap.mpr ⟨env,he,hb⟩
theorem qK4 (I:Inv X pins σ H s) (hs:X.stack=X.env::X.outer) (hf:X.env.frame=some X.env.locals) (hex:X.ex=[]) {args:List Value} (hm:Heap.MadeExcOf s.heap s'.heap a (.ref C) args) (ho:s'.os=s.os) (hg:s'.gens=s.gens) {Q:Unit->Shared->Prop}
  (k:∀B a0 h',Lies X.prog X.w X.outer X.H₀ X.s₀ a C B a0 H {s' with heap:=h'}->Q () {s' with heap:=h'}):wpAny (model X.prog X.w) X.A (leaving X.env (.ref a)) Q E s':=by
 have hst:=I.stack
 have hfr:X.A.frames=some (X.env::X.outer):=by rw[I.ok.frames,hs]
 rw[hs] at hst
 have sub:∀b,b∈frs (X.env::X.outer)↔b=X.env.locals\/b∈frs X.outer:=fun b=>by
  unfold frs;rw[lKu,hf];exact lJj
 have inB:∀b o,s.heap.get? b=some o->b≠X.env.locals->b∉frs X.outer->(hideAll s.heap (frs (X.env::X.outer))).get? b=some o:=fun b o h n f=>
  hideAll_get _ h fun z=>((sub b).mp z).elim n f
 have nex:∀b,b∉X.ex:=fun b=>by rw[hex];exact lJv
 have old:∀b o,X.s₀.heap.get? b=some o->b≠X.env.locals:=fun b o h z=>by
  rw[z] at h;exact absurd (lJg h) (lQn.mpr I.ok.above)
 refine wpAny_leaves_madeW hfr hf (fun b o h=>of_hideAll _ h) (funFrames_hide hst fun env he b hb=>qV7 env he b hb) hm fun h' t fl tp nt up=> ?_
 refine k (hideAll s.heap (frs (X.env::X.outer))) (.ref t) h' ⟨ho.trans I.os,by rw[show ({s' with heap:=h'}:Shared).gens=s.gens from hg];exact I.bare,fl,?_,?_,?_,?_,fun b o h n=>I.base.free b o h n (nex b),I.base.tups,I.base.frzs,I.base.tbls⟩
 ·intro b o e
  refine (I.hok b o e).stay (fun c u hc h=>hideAll_get _ h fun z=> ?_) (fun _ q=>q) fun _ _ q=>q
  have hn:=I.stkFree c (by rw[hs];exact z)
  rcases hc with rfl | hc
  ·rw[e] at hn;cases hn
  ·rw[hc] at hn;cases hn
 ·intro b o h n f
  exact inB b o (I.base.keep b o h n f (nex b)) (old b o h) f
 ·intro b o h f
  obtain⟨o',h'⟩:=I.base.there b o h (nex b)
  exact⟨o',inB b o' h' (old b o h) f⟩
 ·intro b o h f
  obtain⟨sl,e1⟩:=I.base.slot b o h (I.ok.frf b f) f (nex b)
  obtain⟨_,o',ho',hd⟩:=I.funs.mem f
  rw[e1] at ho'
  cases ho'
  obtain⟨sl',e2⟩:=(Heap.UpToSlots.of_keeps hm.keeps).trans up b _ e1 hd
  exact⟨sl',e2⟩
theorem qVs (I:Inv X pins σ H s) (hs:X.stack=X.env::X.outer) (hf:X.env.frame=some X.env.locals) (hex:X.ex=[]) (l:Lies X.prog X.w X.stack H s a C B a0 H' s') {Q:Unit->Shared->Prop}
  (k:∀h',Lies X.prog X.w X.outer X.H₀ X.s₀ a C B a0 H' {s' with heap:=h'}->Q () {s' with heap:=h'}):wpAny (model X.prog X.w) X.A (leaving X.env (.ref a)) Q E s':=by
 have hfr:X.A.frames=some (X.env::X.outer):=by rw[I.ok.frames,hs]
 have sub:∀b,b∈frs X.stack↔b=X.env.locals\/b∈frs X.outer:=fun b=>by
  rw[hs];unfold frs;rw[lKu,hf];exact lJj
 have nex:∀b,b∉X.ex:=fun b=>by rw[hex];exact lJv
 have old:∀b o,X.s₀.heap.get? b=some o->b≠X.env.locals:=fun b o h z=>by
  rw[z] at h;exact absurd (lJg h) (lQn.mpr I.ok.above)
 have nst:∀b o,X.s₀.heap.get? b=some o->b∉frs X.outer->b∉frs X.stack:=fun b o h f z=>((sub b).mp z).elim (old b o h) f
 refine wpAny_leaves_onW hfr hf (by rw[<-hs];exact l.fly) fun h' fl up=>k h' ⟨l.os.trans I.os,l.bare,fl,l.hok,?_,?_,?_,?_,?_,?_,?_⟩
 ·intro b o h n f
  exact l.keep b o (I.base.keep b o h n f (nex b)) (I.base.free b o h n (nex b)) (nst b o h f)
 ·intro b o h f
  obtain⟨o',e⟩:=I.base.there b o h (nex b)
  exact l.there b o' e (nst b o h f)
 ·intro b o h f
  obtain⟨sl,e1⟩:=I.base.slot b o h (I.ok.frf b f) f (nex b)
  obtain⟨sl',e2⟩:=l.slot b _ e1 ((sub b).mpr (.inr f))
  obtain⟨_,o',ho',hd⟩:=I.funs.mem f
  rw[e1] at ho'
  cases ho'
  obtain⟨sl3,e3⟩:=up b _ e2 hd
  exact⟨sl3,e3⟩
 ·intro b o h n
  obtain⟨o',e⟩:=I.base.there b o h (nex b)
  exact l.free b o' e (I.base.free b o h n (nex b))
 ·exact fun b xs h=>l.tups b xs (I.base.tups b xs h)
 ·exact fun b o u h=>l.frzs b o u (I.base.frzs b o u h)
 ·intro b ps h
  obtain⟨m1,e1⟩:=I.base.tbls b ps h
  obtain⟨m2,e2⟩:=l.tbls b _ e1
  exact⟨m1++m2,by rw[e2,Array.append_assoc]⟩
theorem kY3 (I:Inv X pins σ H s) (l:Lies X.prog X.w X.stack H s a C B a0 H' s') (hs:X.stack=X.env::X.outer) (hf:X.env.frame=some X.env.locals) {Q:Unit->Shared->Prop}
  (k:∀h',Inv X pins σ H' {s' with heap:=h'}->Lies X.prog X.w X.stack H s a C B a0 H' {s' with heap:=h'}->Q () {s' with heap:=h'}):
  wpAny (model X.prog X.w) X.A (noteFrame (.ref a) X.env) (fun _ s2=>wpAny (model X.prog X.w) X.A (setFlight (.ref a) none) Q E s2) E s':=by
 have hfr:X.A.frames=some (X.env::X.outer):=by rw[I.ok.frames,hs]
 refine wpAny_looks_onW hfr hf (by rw[<-hs];exact l.fly) fun h1 hd up1=> ?_
 refine wpAny_landsW (s:={s' with heap:=h1}) hd fun h2 fl up2=> ?_
 have l2:Lies X.prog X.w X.stack H s a C B a0 H' {s' with heap:=h2}:=by
  refine⟨l.os,l.bare,by rw[hs];exact fl,l.hok,l.keep,l.there,fun b o h f=> ?_,l.free,l.tups,l.frzs,l.tbls⟩
  obtain⟨sl,e⟩:=l.slot b o h f
  obtain⟨_,o',ho',hd'⟩:=I.stack.mem f
  rw[h] at ho'
  cases ho'
  obtain⟨sl2,e2⟩:=(up1.trans up2) b _ e hd'
  exact⟨sl2,e2⟩
 exact k h2 (I.call' l2.os l2.un (l2.hok.kept fun b u e=>l2.fly.1 b u e) l2.bare fun b z=>absurd z lJv) l2
end
abbrev XK3:=Str->Gp->Prop
abbrev SpX:=List T->Gp->VK3->XK3->Prop
def vmro:List Value:=[.type "ValueError",.type "Exception",.type "BaseException",.type "object"]
structure ExC (K:PySem.W.Frag) (mg:Str->Option Value) (cn:Str):Prop where
 ex:∃C,CN K cn C/\mg cn=some (.ref C)/\excIn K C vmro "ValueError.__new__"=true
theorem exc_at {K:PySem.W.Frag} {C:Addr} {bmB:List Value} {newId:String} (q:excIn K C bmB newId=true):
  ∃bm N nm qn bs hdct sn sub ab col dd k0 k1 k2 k3 k5,K.lookup C=some (excClassObj nm qn C N bs bm hdct sn sub ab col dd k0 k1 k2 k3 k5 newId)/\nsOkIn K N=true/\nsIn K N "__init__"=some none/\tailIn K bmB bm=true:=by
 unfold excIn at q
 split at q
 ·rename_i dd cd sl ho
  split at q
  ·rename_i C' bm k0 k1 k2 k3 n k5 hm hs
   (simp only[lKy,beq_iff_eq,Bool.not_eq_true'] at q)
   obtain⟨⟨⟨⟨⟨rfl,rfl⟩,z⟩,ht⟩,hok⟩,hni⟩:=q
   (obtain⟨nm,bs,mro,ns,qn,hd,sn,sub,ab,col,del⟩:=cd)
   dsimp only at hm z hok hni
   subst hm z
   have e:sl= #[k0,k1,k2,k3,some (.builtin n),k5]:=by
    obtain⟨l⟩:=sl
    simp only at hs
    rw[hs]
   subst e
   exact⟨bm,ns,nm,qn,bs,hd,sn,sub,ab,col,dd,k0,k1,k2,k3,k5,ho,hok,hni,ht⟩
  ·cases q
 ·cases q
theorem qVp {K:PySem.W.Frag} {h h':Heap} {N:Addr} {m:Str->Option Value} (X:K.In h) (X':K.In h') (e:nsOkIn K N=true) (hn:h.Ns N m):h'.Ns N m:=by
 unfold nsOkIn at e
 split at e
 ·rename_i ho
  obtain⟨o,es,ep,h1,r⟩:=hn
  have:=X _ _ ho
  rw[h1] at this
  cases this
  exact⟨_,es,ep,X' _ _ ho,r⟩
 ·cases e
theorem kXy {h:Heap} {bm:List Value} (t:OwnTail h vmro bm):bm.contains (.type "BaseException")=true:=t.hasType (by decide)
def CXX (P:Program) (w:World):CXT:=fun outer H s E e s'=>∃a C B a0 H',e= .ref a/\Lies P w outer H s a C B a0 H' s'/\E e (some C) H'
structure XR (X:Cx) (R:XK3):Prop where
 raise_:∀(pins:List (Addr×Obj)) (σ:L2.St) (H1:Hp) (G1:Gp) (s1 s':Shared) (a C:Addr) (cn:Str) (args:List Value),Inv X pins σ H1 s1->GRel X.K H1 G1->CN X.K cn C->Heap.MadeExcOf s1.heap s'.heap a (.ref C) args->s'.os=s1.os->s'.gens=s1.gens->R cn G1->X.xe (.ref a) s'
 pass:∀(pins:List (Addr×Obj)) (σ:L2.St) (H1:Hp) (s1 s':Shared) (a C:Addr) (cn:Str) (B:Heap) (a0:Value) (H':Hp) (G':Gp),Inv X pins σ H1 s1->Lies X.prog X.w X.stack H1 s1 a C B a0 H' s'->GRel X.K H' G'->CN X.K cn C->R cn G'->X.xe (.ref a) s'
 own:PassesOwn (model X.prog X.w) X.A X.env X.xe
noncomputable def dnX (K:PySem.W.Frag) (n:Nat) (sp:SpX):Sp:=fun vs H Q E=>vs.length=n/\∃xs G,Reps K H xs vs/\GRel K H G/\sp xs G (fun t G'=>∀v H',Ext H H'->GRel K H' G'->Rep K H' t v->Q v H') (fun cn G'=>∀e C H',Ext H H'->GRel K H' G'->CN K cn C->E e (some C) H')
def FnX (P:Program) (w:World) (K:PySem.W.Frag) (mg:Str->Option Value) (base:Heap) (k:Nat) (f:Addr) (fd:FuncData) (ps:List Str) (sp:SpX):Prop:=FnOk P w K mg base (CXX P w) k f fd ps (dnX K ps.length sp)
def qQ4 (sp:SpX):Prop:=∀xs G Q Q' R R',(∀t G',Q t G'->Q' t G')->(∀c G',R c G'->R' c G')->sp xs G Q R->sp xs G Q' R'
structure CalX (P:Program) (w:World) (K:PySem.W.Frag) (mg:Str->Option Value) (base:Heap) (k:Nat) (x:Str) (ps:List Str) (sp:SpX):Prop where
 ex:∃f fd,FnX P w K mg base k f fd ps sp/\mg x=some (.ref f)/\PySem.W.keepIn K (.ref f)=true/\Binds K fd ps []
 mono:qQ4 sp
 len:∀xs G Q R,sp xs G Q R->xs.length=ps.length
section
variable {X:Cx}
theorem qU2 {k:Nat} {f:Addr} {fd:FuncData} {ps:List Str} {sp:SpX} {pins:List (Addr×Obj)} {σ:L2.St} {τ:St3} {H1:Hp} {G1:Gp} {s1:Shared} {xs:List T} {as:List V} {us:List Value} {Q:VK3} {R:XK3} {E:Value->Shared->Prop} (F:FnX X.prog X.w X.K X.mg X.base k f fd ps sp) (hr:Room k X.A) (hb:Binds X.K fd ps []) (mono:qQ4 sp) (len:∀xs G Q R,sp xs G Q R->xs.length=ps.length)
  (I1:Inv X pins σ H1 s1) (hs1:SRel X.K H1 σ τ) (hg1:GRel X.K H1 G1) (ras:Reps X.K H1 xs as) (rvs:Vals as us) (q:sp xs G1 Q R)
  (hE:∀a C cn B a0 H' G' s',Lies X.prog X.w X.stack H1 s1 a C B a0 H' s'->Ext H1 H'->GRel X.K H' G'->CN X.K cn C->R cn G'->E (.ref a) s'):
  wpAny (model X.prog X.w) X.A (call (.ref f) us) (EP3 X pins τ H1 Q) E s1:=by
 have hl:us.length=ps.length:=by rw[<-rvs.length,<-ras.length];exact len _ _ _ _ q
 refine wpAny_call (codeAny_mono (F.run X.A X.stack s1 H1 ⟨us,[]⟩ (us++[]) as (up X.K H1 Q) (fun _ c H'=>∃cn C G',c=some C/\CN X.K cn C/\Ext H1 H'/\GRel X.K H' G'/\R cn G') hr I1.env0 (hb s1 us I1.kIn (by rw[lKh];exact hl)) (by rw[lKh];exact rvs) ?_) fun r s' hq=> ?_)
 ·exact⟨by rw[<-ras.length];exact len _ _ _ _ q,xs,G1,ras,hg1,mono _ _ _ _ _ _ (fun t G' hq v H' e g r=>⟨t,G',e,g,r,hq⟩) (fun cn G' hR e C H' e1 g hc=>⟨cn,C,G',rfl,hc,e1,g,hR⟩) q⟩
 ·cases r with
  | error e=>
   obtain⟨a,C,B,a0,H',rfl,l,cn,C',G',ec,hc,e1,g,hR⟩:=(show CXX X.prog X.w X.stack H1 s1 (fun _ c H'=>∃cn C G',c=some C/\CN X.K cn C/\Ext H1 H'/\GRel X.K H' G'/\R cn G') e s' from hq)
   cases ec
   exact hE a C cn B a0 H' G' s' l e1 g hc hR
  | ok fl=>
   cases fl with
   | ret u=>exact jUf hs1 (I1.after hq)
   | next=>exact False.elim hq
   | brk=>exact False.elim hq
   | cont=>exact False.elim hq
def kQr (R:XK3) (cn:Str):TS3:=fun _ _ G=>R cn G
theorem qKe {R:XK3} {cn v:Str} {a:Expr} {np cpos pos:Pos} (hx:XR X R) (hC:ExC X.K X.mg cn) (hc:X.calm=true) (ha:PA3 X [a] (jJc (tC (.str v)) tNil)) (hg:Gl X cn:=by rfl) (hdb:(cn == ("__debug__":Str))=false:=by decide)
  (he:starEach [a] X.env=[(false,eval a X.env)]:=by rfl):
  PS3 X (.Raise (some (.Call (.Name cn np) [a] [] cpos)) none pos) (kQr R cn):=by
 intro pins s τ G H D I h
 obtain⟨C,hcn,hmg,hin⟩:=hC.ex
 obtain⟨σ,I0,hs,hgr⟩:=id I
 obtain⟨bm,N,nm,qn,bs,hdct,sn,sub,ab,col,dd,k0,k1,k2,k3,k5,hC0,hok,hni,ht⟩:=exc_at hin
 refine wpAny_Raise_call_subU (C:=C) (N:=N) (nm:=nm) (q:=qn) (bs:=bs) (bm:=bm) (hdct:=hdct) (sn:=sn) (sub:=sub) (ab:=ab) (col:=col) (dd:=dd) (k0:=k0) (k1:=k1) (k2:=k2) (k3:=k3) (k5:=k5) (mN:=s.heap.nsMap N) (bmB:=vmro) PySem.F.excBase_ValueError (by decide) PySem.F.excBase_ValueError (kXy (tail_of_in I0.kIn ht)) (I0.ok.hd hc) (by rw[he];rfl) (nsMap_none_of_in I0.kIn hok hni) ?_
 refine jXo I0 hg hmg ⟨rfl,?_⟩ hdb
 rw[show backTo cpos (starEach [a] X.env)=[(false,eval a X.env)] by rw[he];rfl]
 refine Calls.evalArgs_plain ?_
 have:=ha cpos pins s τ G H (fun ts G'=>ts.length=1/\R cn G') I ⟨rfl,h⟩
 rw[show backTo cpos (starEach [a] X.env)=[(false,eval a X.env)] by rw[he];rfl] at this
 refine thn this fun us s1 w_=>w_.el fun xs G1 H1 e1 i_ r_ q=>i_.el fun σ1 I1 hs1 hg1=>r_.el fun as ras rvs=> ?_
 have hl:us.length=1:=by rw[<-rvs.length,<-ras.length];exact q.1
 refine⟨rfl,by rw[hl];decide,I1.kIn _ _ hC0,qVp I0.kIn I1.kIn hok (.of_isNs (isNs_of_in I0.kIn hok)),tail_of_in I1.kIn ht,fun h' b hm=> ?_⟩
 exact hx.raise_ pins σ1 H1 G1 s1 {s1 with heap:=h'} b C cn us I1 hg1 hcn hm rfl rfl q.2
end
abbrev RX3:=Str->St3->Gp->Prop
abbrev TEx:=St3->Gp->VK3->RX3->Prop
abbrev TSx:=Ends3->RX3->St3->Gp->Prop
section
variable {X:Cx}
def XP (X:Cx) (pins:List (Addr×Obj)) (H:Hp) (R:RX3) (e:Value) (s':Shared):Prop:=∃a C cn B a0 τ' G1 H1 s1 G' H',e= .ref a/\Ext H H1/\Inv3 X pins τ' G1 H1 s1/\Lies X.prog X.w X.stack H1 s1 a C B a0 H' s'/\Ext H1 H'/\GRel X.K H' G'/\CN X.K cn C/\R cn τ' G'
def PEx (X:Cx) (e:Expr) (t:TEx):Prop:=∀(pins:List (Addr×Obj)) (s:Shared) (τ:St3) (G:Gp) (H:Hp) (Q:VK3) (R:RX3),Inv3 X pins τ G H s->t τ G Q R->wpAny (model X.prog X.w) X.A (eval e X.env) (EP3 X pins τ H Q) (XP X pins H R) s
def PSx (X:Cx) (st:Stmt) (t:TSx):Prop:=∀(pins:List (Addr×Obj)) (s:Shared) (τ:St3) (G:Gp) (H:Hp) (D:Ends3) (R:RX3),Inv3 X pins τ G H s->t D R τ G->wpAny (model X.prog X.w) X.A (exec st X.env) (SP3 X pins H D) (XP X pins H R) s
def PSsx (X:Cx) (st:List Stmt) (t:TSx):Prop:=∀(pins:List (Addr×Obj)) (s:Shared) (τ:St3) (G:Gp) (H:Hp) (D:Ends3) (R:RX3),Inv3 X pins τ G H s->t D R τ G->wpAny (model X.prog X.w) X.A (execs st X.env) (SP3 X pins H D) (XP X pins H R) s
def Calm (X:Cx):Prop:=∀e s,¬ X.xe e s
theorem Calm.any (h:Calm X) {α:Type} {m:Sem α} {Q:α->Shared->Prop} {E:Value->Shared->Prop} {s:Shared} (w:wpAny (model X.prog X.w) X.A m Q X.xe s):wpAny (model X.prog X.w) X.A m Q E s:=
 lKn w (fun _ _ z=>z) fun e s z=>absurd z (h e s)
def qJ5 (sp:SpX) (t:TA3):TEx:=fun τ G Q R=>t τ G fun xs G1=>sp xs G1 Q fun cn G'=>R cn τ G'
theorem ex_cal {k:Nat} {ps:List Str} {sp:SpX} {x:Str} {p pos:Pos} {e:Expr} {es:List Expr} {t:TA3} (hn:Calm X) (C:CalX X.prog X.w X.K X.mg X.base k x ps sp) (hr:Room k X.A) (ha:PA3 X (e::es) t) (hg:Gl X x:=by rfl)
  (hdb:(x == ("__debug__":Str))=false:=by decide) (he:starEach (e::es) X.env=(false,eval e X.env)::starEach es X.env:=by rfl) (hpl:(backTo pos (starEach es X.env)).any (·.1)=false:=by rfl):
  PEx X (.Call (.Name x p) (e::es) [] pos) (qJ5 sp t):=by
 intro pins s τ G H Q R I h
 obtain⟨f,fd,F,hm,hk,hb⟩:=C.ex
 obtain⟨σ0,I0,hs0,hg0⟩:=id I
 refine lVd (jXo I0 hg hm ?_ hdb)
 refine PySem.W.callWith_K (h₀:=X.base) I0.ok.mod.kin hk (thn (hn.any (ha pos pins s τ G H _ I h)) fun us s1 w_=>w_.el fun xs G1 H1 e1 i_ r_ q=>i_.el fun σ I1 hs1 hg1=>r_.el fun as ras rvs=>⟨I1.kIn,?_⟩) he hpl
 refine thn (qU2 F hr hb C.mono C.len I1 hs1 hg1 ras rvs q fun a C' cn B a0 H' G' s' l ex g hc hR=> ?_) fun u s' z=>z.ext e1
 exact⟨a,C',cn,B,a0,τ,G1,H1,s1,G',H',rfl,e1,⟨σ,I1,hs1,hg1⟩,l,ex,g,hc,hR⟩
def qJ3 (te:TEx) (i:Nat):TSx:=fun D R τ G=>te τ G (fun v G1=>D.nx (τ.set i (some v)) G1) R
theorem sx_set {i:Nat} {x:Str} {e:Expr} {te:TEx} {pos pos':Pos} (hN:X.N.Nodup) (he:PEx X e te) (hi:X.N[i]? =some x:=by rfl) (hx:Loc X.env.scope x:=by first | exact Or.inl rfl | exact Or.inr rfl)
  (hs:swapsWith e (some (.Name x pos')) pos.line X.env=pure false:=by rfl) (hf:X.fn x=true\/X.env.scope.names.lookup x=some .local:=by first | exact .inl rfl | exact .inr rfl):
  PSx X (.Assign [.Name x pos'] e pos) (qJ3 te i):=by
 intro pins s τ G H D R I h
 refine wpAny_Assign_Name (thn (he pins s τ G H _ R I h) fun v s1 w_=>w_.el fun y G1 H1 e1 i_ r_ q1=>i_.el fun σ I1 hs1 hg1=>r_.el fun a ra rv=> ?_) hs
 exact jU4 I1 hN hi hx rv (fun s2 I2=>⟨_,G1,H1,e1,⟨_,I2,hs1.set i ra,hg1⟩,q1⟩) hf
theorem qUv {st:Stmt} {t:TSx} (h1:PSx X st t):PSsx X [st] t:=by
 intro pins s τ G H D R I h
 refine wpAny_execs_cons (thn (h1 pins s τ G H D R I h) fun f s1 q=> ?_)
 cases f with
 | next=>exact lVs q
 | ret v=>exact q
 | brk=>exact q
 | cont=>exact q
end
section
variable {X:Cx} {pins:List (Addr×Obj)} {σ:L2.St} {H H':Hp} {s s':Shared} {a C:Addr} {B:Heap} {a0:Value}
abbrev hX (X:Cx) (a:Addr):Cx:={X with A:=X.A.mark (some (.ref a)),calm:=false}
theorem Inv.mark (I:Inv X pins σ H s) (a:Addr):Inv (hX X a) pins σ H s:=
 ⟨⟨I.ok.mod,I.ok.kind,I.ok.glob,I.ok.blt,I.ok.above,I.ok.inj,I.ok.has,I.ok.cab,fun z=>Bool.noConfusion z,fun z=>Bool.noConfusion z,I.ok.frames,I.ok.stk,I.ok.exf,I.ok.bs,I.ok.bsz,I.ok.noex,I.ok.exfs,I.ok.funs,I.ok.frf⟩,I.os,I.bare,I.base,I.loc,I.cell,I.free,I.freeC,I.pin,I.hok,I.len⟩
theorem Inv.unmark (I:Inv (hX X a) pins σ H s) (ok:X.Ok):Inv X pins σ H s:=⟨ok,I.os,I.bare,I.base,I.loc,I.cell,I.free,I.freeC,I.pin,I.hok,I.len⟩
theorem Inv3.mark {τ:St3} {G:Gp} (I:Inv3 X pins τ G H s) (a:Addr):Inv3 (hX X a) pins τ G H s:=let ⟨σ,I,x,y⟩:=I;⟨σ,Inv.mark I a,x,y⟩
theorem Inv3.unmark {τ:St3} {G:Gp} (I:Inv3 (hX X a) pins τ G H s) (ok:X.Ok):Inv3 X pins τ G H s:=let ⟨σ,I,x,y⟩:=I;⟨σ,Inv.unmark I ok,x,y⟩
theorem qJ0 {M:Model} {A:Around} {E:Value->Shared->Prop} {i:Nat} {x:Str} {v:V} {Q:Unit->Shared->Prop} (I:Inv X pins σ H s) (hN:X.N.Nodup) (hi:X.N[i]? =some x) (hk:X.env.scope.names.lookup x=some .local) (hv:σ[i]? =some (some v))
  (h:∀s',Inv X pins (σ.set i none) H s'->Q () s'):wpAny M A (unbindName X.env x) Q E s:=by
 obtain⟨m,hn,hl⟩:=id I.loc
 have hcls:(X.env.scope.kind == .class||(X.env.scope.kind == .module&&X.env.locals != X.env.globals))=false:=by rw[I.ok.kind];rfl
 have cne:=I.cne
 have hval:∃u,m x=some u:=by
  obtain⟨u,_,q⟩:=hl i x v hi hv (.inl hk)
  rcases q with ⟨_,e⟩ | ⟨k,_⟩
  ·exact⟨u,e⟩
  ·rcases k with k | k<;>(rw[show X.env.kindOf x=some .local from hk] at k;cases k)
 obtain⟨u0,hu0⟩:=hval
 obtain⟨oL,_,_,hoL,_⟩:=id hn
 refine wpAny_unbindName_local hk hn hu0 hcls fun h' u hn' hs=> ?_
 refine h _ ⟨I.ok,I.os,I.bare,⟨fun b o e n hb hx=> ?_,fun b o e n hb hx=> ?_,I.base.free,fun b o e hx=> ?_,I.base.tups,I.base.frzs,I.base.tbls⟩,⟨_,hn',fun j y v' e1 e2 e3=> ?_⟩,fun y c e=> ?_,I.free,I.freeC,fun p hp=> ?_,fun b ob e=> ?_,by simpa using I.len⟩
 ·exact (hs.2 b (lJw (lJ6 (lJg e) I.ok.above))).trans (I.base.keep b o e n hb hx)
 ·obtain⟨sl,e1⟩:=I.base.slot b o e n hb hx
  exact⟨sl,(hs.2 b (lJw (lJ6 (lJg e) I.ok.above))).trans e1⟩
 ·obtain⟨o',e1⟩:=I.base.there b o e hx
  exact⟨o',(hs.2 b (lJw (lJ6 (lJg e) I.ok.above))).trans e1⟩
 ·by_cases hj:j=i
  ·subst hj
   by_cases hlt:j<σ.length
   ·rw[lK7 hlt] at e2;cases e2
   ·rw[lKa (by simpa using lQn.mp hlt)] at e2;cases e2
  ·rw[lK9 (Ne.symm hj)] at e2
   obtain⟨u',r',q⟩:=hl j y v' e1 e2 e3
   refine⟨u',r',?_⟩
   rcases q with ⟨k,e⟩ | ⟨k,c,e,z⟩
   ·refine .inl ⟨k,?_⟩
    have:y≠x:=fun e=>hj (kJv hN e1 (e▸hi))
    simp[this,e]
   ·exact .inr ⟨k,c,e,z.sameBut hs (cne y c e)⟩
 ·obtain⟨w',z⟩:=I.cell y c e
  exact⟨w',z.sameBut hs (cne y c e)⟩
 ·obtain⟨e,n,ne,nf,d⟩:=I.pin p hp
  exact⟨(hs.2 p.1 ne).trans e,n,ne,nf,d⟩
 ·refine (I.hok b ob e).stay (fun c w' hc q=>(hs.2 c ?_).trans q) (fun _ q=>q) fun _ _ q=>q
  rintro rfl
  rcases hc with rfl | hc
  ·rw[I.free] at e;cases e
  ·rw[I.free] at hc;cases hc
theorem kYy {M:Model} {A:Around} {E:Value->Shared->Prop} {i:Nat} {x:Str} {pos:Pos} {Q:Unit->Shared->Prop} (I:Inv X pins σ H s) (hN:X.N.Nodup) (hi:X.N[i]? =some x) (hk:X.env.scope.names.lookup x=some .local)
  (h:∀s',Inv X pins (σ.set i none) H s'->Q () s'):wpAny M A (do bindName X.env x .none;unbindBehindTheSuite X.env x pos) Q E s:=by
 have hil:i<σ.length:=by rw[I.len];exact (lJh.mp hi).1
 refine lJc (wpAny_bindName (jU4 (v:= .non) I hN hi (.inl hk) rfl (fun s1 I1=> ?_) (.inr hk)))
 unfold unbindBehindTheSuite
 refine wpAny_onRaise (qJ0 (v:= .non) I1 hN hi hk (lK7 hil) fun s2 I2=>h s2 ?_)
 rw[List.set_set] at I2
 exact I2
theorem SRel.unset {K:PySem.W.Frag} {τ:St3} (h:SRel K H σ τ) (i:Nat):SRel K H (σ.set i none) (τ.set i none):=by
 refine⟨by simp[h.1],fun j u q=> ?_⟩
 by_cases hj:i=j
 ·subst hj
  by_cases hl:i<τ.length
  ·rw[lK7 hl] at q;cases q
  ·rw[lKa (by simpa using lQn.mp hl)] at q;cases q
 ·rw[lK9 hj] at q ⊢
  exact h.2 j u q
theorem Lies.new (I:Inv X pins σ H s) (l:Lies X.prog X.w X.stack H s a C B a0 H' s'):s.heap.get? a=none:=by
 cases e:s.heap.get? a with
 | none=>rfl
 | some o=>
  exfalso
  by_cases f:a∈frs X.stack
  ·obtain⟨_,o',ho',hd⟩:=I.stack.mem f
   rw[e] at ho';cases ho'
   obtain⟨sl,e2⟩:=l.slot a o e f
   obtain⟨oe,vs,T,oT,ts,he,hc,hdd,_⟩:=l.fly.2.2.2
   rw[e2] at he;cases he
   exact hd vs hdd
  ·obtain⟨o',e2⟩:=l.there a o e f
   rw[l.fly.2.1] at e2;cases e2
theorem Lies.again {E:Value->Shared->Prop} {A:Around} (I:Inv X pins σ H s) (l:Lies X.prog X.w X.stack H s a C B a0 H' s') {Q:Unit->Shared->Prop} (k:∀h',Lies X.prog X.w X.stack H s a C B a0 H' {s' with heap:=h'}->Q () {s' with heap:=h'}):wpAny (model X.prog X.w) A (setFlight (.ref a) none) Q E s':=by
 refine lands_againW l.fly fun h2 fl up=>k h2 ⟨l.os,l.bare,fl,l.hok,l.keep,l.there,fun b o h f=> ?_,l.free,l.tups,l.frzs,l.tbls⟩
 obtain⟨sl,e⟩:=l.slot b o h f
 obtain⟨_,o',ho',hd'⟩:=I.stack.mem f
 rw[h] at ho'
 cases ho'
 obtain⟨sl2,e2⟩:=up b _ e hd'
 exact⟨sl2,e2⟩
theorem qK5 (I:Inv X pins σ H s) (l:Lies X.prog X.w X.stack H s a C B a0 H' s'):∃ob,ob.cls= .ref C/\Inv X pins σ (upd H' a (.frz ob (.ext fun h=>h.get? a=some ob))) s':=by
 obtain⟨ob,hob,hcl⟩:=l.fly.there
 have na:=l.na
 have new:=Lies.new I l
 have u:=l.un
 have hok:=l.hok.kept fun b u e=>l.fly.1 b u e
 refine⟨ob,hcl,I.call' (ch:=[]) l.os ⟨u.keep,u.slot,fun b o h n x=> ?_,u.there,fun b xs h=> ?_,fun b o w h=> ?_,fun b ps h=> ?_⟩ (fun b o e=> ?_) l.bare fun b z=>absurd z lJv⟩
 ·rw[jJu (fun z=>by rw[z,new] at h;cases h)];exact u.free b o h n x
 ·rw[jJu (fun z=>by have:=u.tups b xs h;rw[z,na] at this;cases this)];exact u.tups b xs h
 ·rw[jJu (fun z=>by have:=u.frzs b o w h;rw[z,na] at this;cases this)];exact u.frzs b o w h
 ·obtain⟨m,e⟩:=u.tbls b ps h
  exact⟨m,by rw[jJu (fun z=>by rw[z,na] at e;cases e)];exact e⟩
 ·by_cases hb:b=a
  ·subst hb
   rw[jJ6] at e;cases e
   exact⟨hob,hob,⟨ob,hob⟩,fun h1 h2 p k=>k ob p⟩
  ·rw[jJu hb] at e
   refine (hok b o e).stay (fun c w' _ q=>q) (fun c q=> ?_) fun c xs q=> ?_
   ·rw[jJu (fun z=>by rw[z,na] at q;cases q)];exact q
   ·rw[jJu (fun z=>by rw[z,na] at q;cases q)];exact q
end
structure ExSub (K:PySem.W.Frag) (mg:Str->Option Value) (cn c:Str) (b:Bool):Prop where
 ex:∃C D,CN K cn C/\mg c=some (.ref D)/\exmOne K (.ref C) (.ref D)=some b
section
variable {X:Cx}
noncomputable def tTry (i:Nat) (cs:List Str) (tb:TSx) (th:TS3):TS3:=fun D τ G=>tb D (fun cn τ' G'=>cn∈cs/\∀a,G' a=none->th {nx:=fun τ2 G2=>D.nx (τ2.set i none) G2,rt:=fun _ _=>False} (τ'.set i (some (.ref a))) (gup G' a (.exc cn))) τ G
theorem s_try {body:List Stmt} {b0:Stmt} {bs:List Stmt} {c n:Str} {i:Nat} {cs:List Str} {tb:TSx} {th:TS3} {np hpos pos:Pos} (hn:Calm X) (hN:X.N.Nodup) (hb:PSsx X body tb) (hh:∀a,PSs3 (hX X a) (b0::bs) th) (hcs:∀cn,cn∈cs->ExSub X.K X.mg cn c true)
  (hst:X.stack=X.env::X.outer:=by rfl) (hfr:X.env.frame=some X.env.locals:=by rfl) (hi:X.N[i]? =some n:=by rfl) (hk:X.env.scope.names.lookup n=some .local:=by rfl) (hg:Gl X c:=by rfl) (hdb:(c == ("__debug__":Str))=false:=by decide):
  PS3 X (.Try body [.ExceptHandler (some (.Name c np)) (some n) (b0::bs) hpos] [] [] pos) (tTry i cs tb th):=by
 intro pins s τ G H D I h
 refine wpAny_Try_except (lKn (hb pins s τ G H D _ I h) (fun f s1 q=> ?_) fun e s1 q=> ?_)
 ·cases f with
  | next=>exact lVs q
  | ret v=>exact q
  | brk=>exact q
  | cont=>exact q
 obtain⟨a,C,cn,B,a0,τ',G1,H1,s2,G',H',rfl,e1,I1,l,e2,g,hc,hin,hR⟩:=q
 obtain⟨σ,I2,hs2,hg2⟩:=I1
 obtain⟨C',Dc,hC',hmg,hx⟩:=(hcs cn hin).ex
 cases hC'.one hc
 refine kY3 I2 l hst hfr fun h3 I3 l3=> ?_
 refine wpAny_handleBy_cons (codeAny_handlers_test (jXo (X:=hX X a) (Inv.mark I3 a) hg hmg ?_ hdb)) (by intro q;cases q)
 obtain⟨ob,hob,hcl⟩:=l3.fly.there
 have LT:Looks (model X.prog X.w) h3 (typeOf (.ref a)) (.ref C):=hcl▸(Looks.ld (part:=none) hob).andThen .now
 refine (exm_one (K:=X.K) I3.kIn LT hx).at ?_
 (refine codeAny_handlers_suite_as ?_)
 refine Lies.again (X:=X) I2 l3 fun h4 l4=> ?_
 obtain⟨ob4,hcl4,I4⟩:=qK5 I2 l4
 have ea:Ext H' (upd H' a (.frz ob4 (.ext fun h=>h.get? a=some ob4))):= .upd (.none l4.na)
 refine jU4 (v:= .ref a) I4 hN hi (.inl hk) rfl (fun s5 I5=> ?_) (.inr hk)
 have hs5:SRel X.K (upd H' a (.frz ob4 (.ext fun h=>h.get? a=some ob4))) (σ.set i (some (.ref a))) (τ'.set i (some (.ref a))):=((hs2.mono e2).mono ea).set i rfl
 have ga:G' a=none:=g.fresh l4.na
 have hg5:GRel X.K (upd H' a (.frz ob4 (.ext fun h=>h.get? a=some ob4))) (gup G' a (.exc cn)):=g.upd (.none l4.na) ⟨ob4,C,_,jJ6,hcl4,hc⟩
 have:=hh a pins s5 _ _ _ _ (Inv3.mark ⟨_,I5,hs5,hg5⟩ a) (hR a ga)
 refine lKn this (fun f s6 q=> ?_) fun e s6 q=>absurd q (hn e s6)
 cases f with
 | next=>
  obtain⟨τ6,G6,H6,e6,I6,q⟩:=q
  obtain⟨σ6,I6,hs6,hg6⟩:=Inv3.unmark I6 I2.ok
  exact kYy I6 hN hi hk fun s7 I7=>⟨_,G6,H6,((e1.trans e2).trans ea).trans e6,⟨_,I7,hs6.unset i,hg6⟩,q⟩
 | ret v=>obtain⟨_,_,_,_,_,_,_,q⟩:=q;exact q.elim
 | brk=>obtain⟨_,_,_,_,_,q⟩:=q;exact q.elim
 | cont=>obtain⟨_,_,_,_,_,q⟩:=q;exact q.elim
end
structure ExK (K:PySem.W.Frag) (D:Addr):Prop where
 ga:findIn K (.ref D) "__getattribute__"=some (some (.builtin "BaseException.__getattribute__"))
 gt:findIn K (.ref D) "__getattr__"=some none
 cl:findIn K (.ref D) "__class__"=some (some (.builtin "object.__class__"))
 be:mroIn K D (.type "BaseException")=some true
 ob:mroIn K D (.type "object")=some true
 is:(clsIn K D).isSome=true
section
variable {prog:Program} {w:World} {A:Around} {E:Value->Shared->Prop} {s:Shared} {K:PySem.W.Frag} {x D:Addr} {ox:Obj}
open PySem.Builtin PySem.Builtin.ObjectAttr PySem.Builtin.Getset_descriptor in
theorem kXk {C:Addr} {tp:Value} {R:Result->Shared->Prop} (X:K.In s.heap) (L0:Looks (model prog w) s.heap (typeOf (.ref x)) (.ref C)) (hm:mroIn K C (.type "object")=some true) (h:R (.ok (.ret (.ref C))) s):codeAny (model prog w) A (.call (.builtin "getset_descriptor.__get__") ⟨[.builtin "object.__class__",.ref x,tp],[]⟩) R s:=by
 (obtain⟨hh,g,dr,t,os⟩:=s)
 (have L1:=looks_mroIn (M:=model prog w) X hm)
 (refine codeAny_call_builtin KF.slot_gs.plain KF.entry_gs (KF.slot_gs.check _ _ _ _ _ _ _ _ KF.type_class (KF.args_gs _ _ _) ?_))
 (unfold Builtin.«getset_descriptor.__get__» descrGet)
 rw[dga_obj]
 refine lJc (lJd ?_)
 (unfold descrGetter descrCheckInstance descrNameAndClass isInstance)
 simp only[KF.owner_class]
 repeat lk
 (refine⟨Code.quiet_builtin _ (by decide +kernel),codeAny_builtin KF.entry_class ?_⟩)
 (unfold Builtin.«object.__class__» shownTypeOf)
 repeat lk
 exact h
theorem kZr {Q:Option Value->Shared->Prop} (X:K.In s.heap) (L0:Looks (model prog w) s.heap (typeOf (.ref x)) (.ref D)) (e:ExK K D) (h:Q (some (.ref D)) {s with toks:=s.toks+1}):wpAny (model prog w) A (getAttr? (.ref x) "__class__") Q E s:=by
 obtain⟨hh,g,d,t,os⟩:=s
 have L1:=looks_findIn (M:=model prog w) X e.ga
 have L2:=looks_findIn (M:=model prog w) X e.cl
 have L3:=looks_findIn (M:=model prog w) X e.gt
 have L4:=looks_mroIn (M:=model prog w) X e.be
 (have hx2:(Value.builtin "BaseException.__getattribute__" == Value.builtin "object.__getattribute__")=false:=by decide +kernel)
 have hx1:(onTheHeap (Value.ref D)&&Value.builtin "BaseException.__getattribute__" == Value.builtin "object.__getattribute__")=false:=by rw[hx2];rfl
 have f3:=PySem.F.attrBase_ValueError.ga.bind (.ref x)
 (unfold getAttr? getAttrBy? getAttrBy)
 (refine lJc (wpAny_mkText (lJc (lVt (lQg (lJc (L0.at (lJc (L1.at ?_)))))))))
 dsimp only
 rw[hx1]
 (simp only[lKx,lKk])
 unfold getAttrByItsOwn
 have X':K.In hh:=X
 have L0:Looks (model prog w) hh (typeOf (Value.ref x)) (Value.ref D):=L0
 have L1:Looks (model prog w) hh (typeLookup (Value.ref D) (Str.ofString "__getattribute__")) (some (Value.builtin "BaseException.__getattribute__")):=L1
 have L2:Looks (model prog w) hh (typeLookup (Value.ref D) (Str.ofString "__class__")) (some (Value.builtin "object.__class__")):=L2
 have L3:Looks (model prog w) hh (typeLookup (Value.ref D) (Str.ofString "__getattr__")) none:=L3
 have L4:Looks (model prog w) hh (isSubtype (Value.ref D) (Value.type "BaseException")) true:=L4
 have key:∀(A:Around) (R:Result->Shared->Prop),R (.ok (.ret (.ref D))) ⟨hh,g,d,t+1,os⟩->codeAny (model prog w) A (.call (.builtin "BaseException.__getattribute__") ⟨[.ref x,.str (Str.ofString "__class__") t],[]⟩) R ⟨hh,g,d,t+1,os⟩:=by
  intro A R hR
  refine codeAny_call_builtin PySem.F.attrBase_ValueError.ga.plain PySem.F.entry_bexc_ga ?_
  (have hk:builtinKind "BaseException.__getattribute__"=some .slot:=by decide +kernel)
  (have hsplit:splitId "BaseException.__getattribute__"=some ("BaseException","__getattribute__"):=by decide +kernel)
  have ha:=PySem.F.args_bexc_ga (.ref x) (.str (Str.ofString "__class__") t)
  (simp only[checkBuiltinCall,hk,hsplit])
  refine lJc (lJc (L0.at (L4.at ?_)))
  rw[lJb (by decide)]
  have hT5:(⟨hh,g,d,t+1,os⟩:Shared).TypeIs (.builtin "object.__class__") "getset_descriptor":=PySem.F.typeOf_object_class
  have f5:=PySem.F.typeOf_object_class
  have f6:=PySem.F.slot_gs_get.lookup
  have f7:=PySem.F.slot_gs_set.lookup
  repeat (any_goals (first | assumption | with_reducible refine L0.at ?_ | with_reducible refine L2.at ?_ | wp_step))
  refine kXk (s:=⟨hh,g,d,t+1,os⟩) X' L0 e.ob ?_
  (repeat (any_goals (first | assumption | wp_step)))
 unfold hookBefore
 rw[lJa (show onTheHeap (Value.ref D)=true from rfl)]
 refine lJc (L3.at ?_)
 (refine lJc (lVt (lQg ?_)))
 unfold callGetattribute
 rw[lJb (by decide)]
 unfold boundAndCalled
 rw[f3]
 refine lJc (lJd ?_)
 refine (show wpAny _ _ (call (Value.builtin "BaseException.__getattribute__") [Value.ref x,Value.str (Str.ofString "__class__") t]) _ _ _ from wpAny_call (key _ _ ?_))
 (exact lJd (lJd h))
def ExAt (x D:Addr) (h:Heap):Prop:=∃ob,h.get? x=some ob/\ob.cls= .ref D
theorem ExAt.ty {M:Model} {h:Heap} (p:ExAt x D h):Looks M h (typeOf (.ref x)) (.ref D):=by
 obtain⟨ob,h1,h2⟩:=p
 exact h2▸(Looks.ld (part:=none) h1).andThen .now
theorem qK7 (e:ExK K D):KitX K (.ref x) (.ref D) (ExAt x D) where
 ty:=fun _ _ _ p=>p.ty
 it:=fun _ _ X _=>by
  obtain⟨cd,hc⟩:=lKq.mp e.is
  unfold clsIn at hc
  split at hc
  ·rename_i ho
   intro A' Q' E' s' k q
   unfold isType loadHead
   (exact lJc (wpAny_loadPart (k _ _ (X _ _ ho)) (lJd q)))
  ·cases hc
 ne:=fun h0 tp d0 is0 n0 l0 X htp=>by
  obtain⟨cd,hc⟩:=lKq.mp e.is
  (refine Bool.eq_false_iff.mpr fun q=> ?_)
  have z:D=tp:=Value.ref.inj (beq_iff_eq.mp q)
  subst z
  unfold clsIn at hc
  split at hc
  ·rename_i ho
   (have z:=(X _ _ ho).symm.trans htp)
   cases z
  ·cases hc
 ca:=fun X p k=>kZr X p.ty e k
end
def ClsV (mg:Str->Option Value) (c:Str) (v:Value):Prop:=mg c=some v\/(mg c=none/\bootBuiltins c=some v)
structure IsX (K:PySem.W.Frag) (mg:Str->Option Value) (cs:List Str) (cn:Str) (b:Bool):Prop where
 ex:∃D vs,CN K cn D/\ExK K D/\Paired (fun c v=>ClsV mg c v) cs vs/\kitAny K (.ref D) vs=some b
theorem kXc {K:PySem.W.Frag} {t c:Value} {b:Bool} (h:kitAny K t [c]=some b):kitOne K t c=some b:=by
 unfold kitAny at h
 split at h
 ·rename_i e;cases h;exact e
 ·rename_i e;rw[e];exact h
 ·cases h
def clsT:Value->T
 | .ref C=> .ref C
 | .type n=> .ty n
 | _=> .non
section
variable {X:Cx}
def jYj (rel:List (Str×Bool)) (tx:TE3):TE3:=fun τ G Q=>tx τ G fun x G1=>∃a cn b,x= .ref a/\G1 a=some (.exc cn)/\(cn,b)∈rel/\Q (.bl b) G1
theorem exc_rd {pins:List (Addr×Obj)} {τ:St3} {G:Gp} {H:Hp} {s:Shared} {a:Addr} {cn:Str} {D:Addr} (I:Inv3 X pins τ G H s) (h:G a=some (.exc cn)) (hD:CN X.K cn D):ExAt a D s.heap:=by
 obtain⟨σ,I0,_,hg⟩:=I
 obtain⟨ob,C,u,h1,h2,h3⟩:=(show ∃ob C u,H a=some (.frz ob u)/\ob.cls= .ref C/\PySem.W.nsIn X.K mainGlobals cn=some (some (.ref C)) from hg a _ h)
 cases CN.one hD h3
 exact⟨ob,(I0.hok a _ h1).1,h2⟩
theorem e_nm {c:Str} {v:Value} {pc:Pos} (hv:ClsV X.mg c v) (hc:∃C,v= .ref C\/∃n,v= .type n) (hg:Gl X c) (hn:c≠"__name__") (hdb:(c == ("__debug__":Str))=false):PE3 X (.Name c pc) (tC (clsT v)):=by
 intro pins s τ G H Q I h
 obtain⟨σ,I0,_,_⟩:=id I
 have e:EP3 X pins τ H Q v s:=by
  obtain⟨C,rfl | ⟨n,rfl⟩⟩:=hc
  ·exact⟨.ref C,G,H,.refl H,I,⟨.ref C,rfl,rfl⟩,h⟩
  ·exact⟨.ty n,G,H,.refl H,I,⟨.ty n,rfl,rfl⟩,h⟩
 rcases hv with hv | ⟨h1,h2⟩
 ·exact jXo I0 hg hv e hdb
 ·exact jUk I0 hg h1 h2 e hn hdb
theorem jV4 {rel:List (Str×Bool)} {c:Str} {x:Expr} {tx:TE3} {p pc pos:Pos} (hrel:∀cn b,(cn,b)∈rel->IsX X.K X.mg [c] cn b) (hcl:∃v,ClsV X.mg c v/\∃C,v= .ref C\/∃n,v= .type n) (hx:PE3 X x tx) (hm:X.mg "isinstance"=none) (hg:Gl X "isinstance":=by rfl) (hgc:Gl X c:=by rfl) (hn:c≠"__name__":=by decide) (hdb:(c == ("__debug__":Str))=false:=by decide)
  (he:starEach [x,.Name c pc] X.env=(false,eval x X.env)::starEach [.Name c pc] X.env:=by rfl) (he2:starEach [.Name c pc] X.env=[(false,eval (.Name c pc) X.env)]:=by rfl) (hpl:(backTo pos (starEach [.Name c pc] X.env)).any (·.1)=false:=by rfl):
  PE3 X (.Call (.Name "isinstance" p) [x,.Name c pc] [] pos) (jYj rel tx):=by
 obtain⟨v,hv,hvc⟩:=hcl
 intro pins s τ G H Q I h
 obtain⟨σ,I0,_,_⟩:=id I
 refine lVd (jUk I0 hg hm rfl ?_ (by decide) (by decide))
 refine PyProof.Rows.callWith_builtin1 ?_ he hpl
 rw[he,he2]
 refine Calls.spliced_cons (thn (hx pins s τ G H _ I h) fun u s1 w_=>w_.el fun y G1 H1 e1 I1 r1 q1=>Calls.spliced_cons (thn (e_nm hv hvc hgc hn hdb pins s1 τ G1 H1 (fun t G2=>t=clsT v/\G2=G1) I1 ⟨rfl,rfl⟩) fun u2 s2 w2=>Calls.spliced_nil ?_))
 obtain⟨t2,G2,H2,e2,I2,r2,rfl,rfl⟩:=w2
 obtain⟨a,cn,b,rfl,hG,hin,q⟩:=q1
 obtain⟨D,vs,hD,hk,hp,hka⟩:=(hrel cn b hin).ex
 obtain⟨v1,z1,z2⟩:=r1
 cases z1;cases z2
 have hu2:u2=v:=by
  obtain⟨v2,y1,y2⟩:=r2
  obtain⟨C,rfl | ⟨n,rfl⟩⟩:=hvc
  ·cases y1;cases y2;rfl
  ·cases y1;cases y2;rfl
 subst hu2
 cases hp with
 | @cons _ v' _ _ hc hr=>
 cases hr
 have:v'=u2:=by
  rcases hc with h1 | ⟨h1,h2⟩<;>rcases hv with h3 | ⟨h3,h4⟩
  ·rw[h1] at h3;exact lKb h3
  ·rw[h1] at h3;cases h3
  ·rw[h1] at h3;cases h3
  ·rw[h2] at h4;exact lKb h4
 subst this
 obtain⟨σ2,J2,_,_⟩:=id I2
 exact kia_one (qK7 hk) J2.kIn (exc_rd I2 hG hD) (kXc hka) (by intro q;cases q) fun tk=>⟨.bl b,G2,H2,e1.trans e2,I2.tok tk,⟨.bl b,rfl,rfl⟩,q⟩
def Cl1 (v:Value):Prop:=∃C,v= .ref C\/∃n,v= .type n
theorem exc_mk {K:PySem.W.Frag} {h:Heap} {mg:Str->Option Value} {cn:Str} {C:Addr} (X:K.In h) (G:h.Ns mainGlobals mg) (a:nsIn K mainGlobals cn=some (some (.ref C))) (q:excIn K C vmro "ValueError.__new__"=true):ExC K mg cn:=⟨C,a,mg_of X G a,q⟩
theorem exsub_mk {K:PySem.W.Frag} {h:Heap} {mg:Str->Option Value} {cn c:Str} {C D:Addr} {v:Bool} (X:K.In h) (G:h.Ns mainGlobals mg) (a:nsIn K mainGlobals cn=some (some (.ref C))) (b:nsIn K mainGlobals c=some (some (.ref D))) (q:exmOne K (.ref C) (.ref D)=some v):ExSub K mg cn c v:=⟨C,D,a,mg_of X G b,q⟩
theorem clsv_own {K:PySem.W.Frag} {h:Heap} {mg:Str->Option Value} {c:Str} {D:Addr} (X:K.In h) (G:h.Ns mainGlobals mg) (b:nsIn K mainGlobals c=some (some (.ref D))):∃v,ClsV mg c v/\Cl1 v:=⟨.ref D,.inl (mg_of X G b),D,.inl rfl⟩
theorem clsv_blt {K:PySem.W.Frag} {h:Heap} {mg:Str->Option Value} {c:Str} {n:String} (X:K.In h) (G:h.Ns mainGlobals mg) (b:nsIn K mainGlobals c=some none) (e:bootBuiltins c=some (.type n)):∃v,ClsV mg c v/\Cl1 v:=⟨.type n,.inr ⟨mg_none_of X G b,e⟩,0,.inr ⟨n,rfl⟩⟩
end
end L3
namespace L3
open PySem
theorem rel1 {K:PySem.W.Frag} {mg:Str->Option Value} {cs:List Str} {cn:Str} {b:Bool} (h:IsX K mg cs cn b):∀cn' b',(cn',b')∈[(cn,b)]->IsX K mg cs cn' b':=fun cn' b' z=>by cases lJr.mp z;exact h
theorem sub1 {K:PySem.W.Frag} {mg:Str->Option Value} {cn c:Str} (h:ExSub K mg cn c true):∀cn',cn'∈[cn]->ExSub K mg cn' c true:=fun cn' z=>by cases lJr.mp z;exact h
end L3
namespace HT
open PySem PyProof.Rows
section
variable {prog:Program} {w:World} {A:Around} {E:Value->Shared->Prop} {s:Shared}
end
end HT
namespace L3
open PySem PySem.Spec PyProof.Rows L2
section
variable {X:Cx}
end
section
variable {X:Cx}
end
section
variable {X:Cx}
noncomputable def kX0 (ta tb tc td te tf:TE3):TE3:=fun τ G Q=>∀p,G p=none->ta τ (gup G p (.dck [])) fun x1 G1=>tb τ G1 fun y1 G2=>tc τ G2 fun x2 G3=>td τ G3 fun y2 G4=>te τ G4 fun x3 G5=>tf τ G5 fun y3 G6=>
 ∃k1 k2 k3,jQm x1=some k1/\jQm x2=some k2/\jQm x3=some k3/\G6 p=some (.dck [])/\Q (.ref p) (gup G6 p (.dck (putT (putT (putT [] k1 y1) k2 y2) k3 y3)))
theorem qXa {pos:Pos} {a b c d e f:Expr} {ta tb tc td te tf:TE3} (ha:PE3 X a ta) (hb:PE3 X b tb) (hc:PE3 X c tc) (hd:PE3 X d td) (he:PE3 X e te) (hf:PE3 X f tf):PE3 X (.Dict [some a,some c,some e] [b,d,f] pos) (kX0 ta tb tc td te tf):=by
 rintro pins s τ G H Q ⟨σ,I,hs,hg⟩ h
 have hn:=I.hok.fresh (lJe s.heap.objs.size)
 have I1:=I.laid (a:=s.heap.objs.size) (o:= .dK []) (h':=s.heap.push {cls:= .type "dict",data:= .dict #[]}) (t':=s.toks) (fun _ _ q=>lJo _ q) (lJe _) (kJ3 s.heap I.big)
 have I3:Inv3 X pins τ (gup G s.heap.objs.size (.dck [])) (upd H s.heap.objs.size (.dK [])) {s with heap:=s.heap.push {cls:= .type "dict",data:= .dict #[]},toks:=s.toks}:=
  ⟨σ,I1,hs.mono (.upd (.none hn)),hg.upd (.none hn) (go:= .dck []) ⟨[],jJ6,.nil⟩⟩
 refine wpAny_Dict_walk (knd:=jKg X.prog X.w) rfl rfl (by simp) (by simp) (lXh (thn (ha pins _ τ _ _ _ I3 (h _ (hg.fresh hn))) fun u1 s1 w_=>w_.el fun x1 G1 H1 e1 J1 ru1 q1=>thn (hb pins s1 τ G1 H1 _ J1 q1) fun v1 s2 w_=>w_.el fun y1 G2 H2 e2 J2 rv1 q2=>
  lXh (thn (hc pins s2 τ G2 H2 _ J2 q2) fun u2 s3 w_=>w_.el fun x2 G3 H3 e3 J3 ru2 q3=>thn (hd pins s3 τ G3 H3 _ J3 q3) fun v2 s4 w_=>w_.el fun y2 G4 H4 e4 J4 rv2 q4=>
  lXh (thn (he pins s4 τ G4 H4 _ J4 q4) fun u3 s5 w_=>w_.el fun x3 G5 H5 e5 J5 ru3 q5=>thn (hf pins s5 τ G5 H5 _ J5 q5) fun v3 s6 w_=>w_.el fun y3 G6 H6 e6 i_ rv3 q6=>i_.el fun σ6 J6 hs6 hg6=>pairTrees_nil_walk ?_))))
 obtain⟨k1,k2,k3,hk1,hk2,hk3,hd6,q⟩:=q6
 obtain⟨ws,hH6,pk⟩:=(show ∃ws,H6 s.heap.objs.size=some (.dK ws)/\PKV X.K H6 [] ws from hg6 _ _ hd6)
 cases pk
 obtain⟨a1,ra1,rw1⟩:=ru1.mono ((((e2.trans e3).trans e4).trans e5).trans e6)
 obtain⟨c1,rc1,rx1⟩:=rv1.mono (((e3.trans e4).trans e5).trans e6)
 obtain⟨a2,ra2,rw2⟩:=ru2.mono ((e4.trans e5).trans e6)
 obtain⟨c2,rc2,rx2⟩:=rv2.mono (e5.trans e6)
 obtain⟨a3,ra3,rw3⟩:=ru3.mono e6
 obtain⟨c3,rc3,rx3⟩:=rv3
 obtain rfl:=jQl hk1 ra1
 obtain rfl:=jQl hk2 ra2
 obtain rfl:=jQl hk3 ra3
 obtain⟨rs,cr,rk⟩:=jXv (P:=X.prog) (w:=X.w) (kvs:=[(k1,c1),(k2,c2),(k3,c3)]) (ws:=[(u1,v1),(u2,v2),(u3,v3)]) (.cons ⟨rw1,rx1⟩ (.cons ⟨rw2,rx2⟩ (.cons ⟨rw3,rx3⟩ .nil)))
 obtain⟨z,hdd,vs0,r0,dd⟩:=qQu J6.hok hH6
 cases r0
 refine⟨rs,cr,dd,fun h' dd' hsb=> ?_⟩
 have hq:∃q,h'.get? s.heap.objs.size=some q:=let ⟨q,_,_,hq,_⟩:=dd';⟨q,hq⟩
 have ln:=jV1 [(k1,c1),(k2,c2),(k3,c3)] []
 have JJ:=kJ4 (t':=s6.toks+[(u1,v1),(u2,v2),(u3,v3)].length) J6 (by rw[hH6];exact True.intro) hsb hq (kZ2 (kvs:=jZt [] [(k1,c1),(k2,c2),(k3,c3)]) (by rw[lKo];simp at ln;omega) hdd (rk.merge .nil) dd')
 have ext:Ext H6 (upd H6 s.heap.objs.size (.dK (jZt [] [(k1,c1),(k2,c2),(k3,c3)]))):= .upd (.dK hH6)
 have pk:PKV X.K H6 (putT (putT (putT [] k1 y1) k2 y2) k3 y3) (jZt [] [(k1,c1),(k2,c2),(k3,c3)]):=PKV.put (PKV.put (PKV.put (kvs:=[]) .nil k1 rc1) k2 rc2) k3 rc3
 exact⟨.ref s.heap.objs.size,_,_,((((((Ext.upd (.none hn)).trans e1).trans e2).trans e3).trans e4).trans e5).trans (e6.trans ext),⟨σ6,JJ,hs6.mono ext,hg6.upd (.dK hH6) (go:= .dck (putT (putT (putT [] k1 y1) k2 y2) k3 y3)) ⟨_,jJ6,pk.mono ext⟩⟩,⟨.ref _,rfl,rfl⟩,q⟩
end
section
variable {P:Program} {w:World} {d:Addr}
end
section
variable {X:Cx}
end
section
variable {prog:Program} {w:World} {A:Around} {E:Value->Shared->Prop} {s:Shared}
end
section
variable {P:Program} {w:World} {A:Around} {E:Value->Shared->Prop} {s:Shared} {it l:Addr} {xs:Array Value}
end
section
variable {X:Cx}
end
end L3
namespace PySem
open Sem (wp)
set_option maxRecDepth 100000
end PySem
namespace L3
open PySem PySem.Spec PyProof.Rows L2
section
variable {prog:Program} {w:World} {A:Around} {E:Value->Shared->Prop} {s:Shared}
end
section
variable {X:Cx}
end
end L3
namespace L3
open PySem PySem.Spec PyProof.Rows L2 PySem.W
section
variable {prog:Program} {w:World} {A:Around} {E:Value->Shared->Prop} {s:Shared} {d:Addr} {o:Obj} {es:Array DictEntry} {ep:Nat}
theorem kK7 {id:String} {Q:Array DictEntry->Shared->Prop} (ho:s.heap.get? d=some o) (hd:o.data= .dict es ep) (hall:∀e,e∈es.toList->(es.filter (·.hash == e.hash)).size<=1/\∃b,e.key= .ref b/\s.TypeIs (.ref b) "tuple") (h:Q es s):wpAny (model prog w) A (Builtin.Dict.entriesForEmpty id d) Q E s:=by
 (unfold Builtin.Dict.entriesForEmpty)
 (refine lJc (lXa ho hd ?_))
 refine lJc ?_
 rw[<-Array.forIn_toList]
 refine lV7 _ (fun rest _ s'=>s'=s/\∀e,e∈rest->e∈es.toList) _ ?_ ?_ _ _ ⟨rfl,fun e he=>he⟩
 ·rintro e rest b s' ⟨rfl,hr⟩
  obtain⟨h1,p,h2,h3⟩:=hall e (hr e (lJ7 ..))
  rw[h2]
  refine lJc ?_
  unfold Builtin.Dict.quietEq
  refine lJc (wpAny_specialOf h3 PySem.F.slot_tuple_eq.lookup (lJd ?_))
  rw[lJa (by decide),lJb (by omega)]
  exact lJd ⟨rfl,fun e he=>hr e (lJ3 _ he)⟩
 ·rintro b s' ⟨rfl,_⟩
  exact lJd h
theorem kXl {l:Addr} {Q:Value->Shared->Prop} (hl:(l == sysModules)=false) (ho:s.heap.get? l=some o) (hc:o.ExactDict) (hx:o.data= .dict es ep) (hz:es.size<=sizeLine) (hall:∀e,e∈es.toList->(es.filter (·.hash == e.hash)).size<=1/\∃b,e.key= .ref b/\s.TypeIs (.ref b) "tuple")
  (k:∀h' o' ep',h'.get? s.heap.objs.size=some o'->o'.ExactDict->o'.data= .dict es ep'->(∀b u,s.heap.get? b=some u->h'.get? b=some u)->Q (.ref s.heap.objs.size) {s with heap:=h'}):
  wpAny (model prog w) A (call (.type "dict") [.ref l]) Q E s:=by
 refine callType_codes (Q₁:=fun obj s₁=>obj= .ref s.heap.objs.size/\s₁={s with heap:=s.heap.push {cls:= .type "dict",data:= .dict #[]} }) PySem.F.kt_called_dict (PySem.F.kt_typeCall_dict_1 _) PySem.F.entry_dict_init (kt_code_dict_new _ ⟨rfl,rfl⟩) ?_
 rintro obj s₁ ⟨rfl,rfl⟩
 have hn:(s.heap.push {cls:= .type "dict",data:= .dict #[]}).get? s.heap.objs.size=some {cls:= .type "dict",data:= .dict #[]}:=lJ5 _ rfl
 have up:∀b u,s.heap.get? b=some u->(s.heap.push {cls:= .type "dict",data:= .dict #[]}).get? b=some u:=fun b u e=>lJo _ e
 have ho':=up _ _ ho
 have hTn:Shared.TypeIs {s with heap:=s.heap.push {cls:= .type "dict",data:= .dict #[]} } (.ref s.heap.objs.size) "dict":=⟨_,hn,rfl⟩
 have hTl:Shared.TypeIs {s with heap:=s.heap.push {cls:= .type "dict",data:= .dict #[]} } (.ref l) "dict":=⟨_,ho',hc.1⟩
 have hdl:s.heap.objs.size≠l:=fun e=>absurd (lJg ho) (by rw[e];exact lKt _)
 refine⟨hTn,PySem.F.args_dict_init_2 _ _,?_⟩
 (unfold Builtin.«dict.__init__»)
 refine lJc ?_
 (unfold Builtin.Dict.selfAndRest)
 refine lJc (wpAny_notOrdered_dict hTn ?_)
 refine (show wpAny _ _ (pure (s.heap.objs.size,[Value.ref l])) _ _ _ from ?_)
 refine lJd ?_
 refine (show wpAny _ _ (Builtin.Dict.updateFrom "dict.__init__" s.heap.objs.size (.ref l) [] .none) _ _ _ from ?_)
 (unfold Builtin.Dict.updateFrom)
 refine lJc (wpAny_typeOf hTl ?_)
 rw[lJb (by decide)]
 refine lJc ?_
 unfold Builtin.Dict.merge
 refine lJc ?_
 (unfold Builtin.Dict.readDirectly)
 refine lJc (wpAny_isInstance hTl isSubtype_dict_dict ?_)
 (simp only[Bool.not_true,lKx,lKk])
 refine lJc (wpAny_specialOf hTl PySem.F.slot_dict_iter.lookup (lJd ?_))
 (simp only[beq_self_eq_true,lK5])
 refine lJc (lJd ?_)
 unfold Builtin.Dict.mergeDict
 rw[lJb (by simpa using hdl)]
 unfold Builtin.Dict.showsAll
 (rw[lJb (by rw[hl];exact lJp)])
 refine lJc (lJd ?_)
 refine lJc (lXa ho' hx ?_)
 dsimp only
 split
 ·refine lJc (lXa hn rfl ?_)
  rw[lJa (by rfl)]
  refine lJc (kK7 ho' hx (fun e he=> ?_) ?_)
  ·obtain⟨h1,b,h2,u,h3,h4⟩:=hall e he
   exact⟨h1,b,h2,u,up _ _ h3,h4⟩
  have ex:Obj.ExactDict {cls:= .type "dict",data:= .dict #[]}:=⟨rfl,rfl,rfl⟩
  split
  ·refine lJc (wpAny_updateDictKeysTo hn rfl (lJd ?_) (by omega))
   exact lJc (lJd (lJd ⟨rfl,k _ _ _ (Heap.get?_update_self _ hn (Obj.isFreed_of_dict (Obj.data_mapDictKeys rfl _))) (ex.mapDictKeys _) (Obj.data_mapDictKeys rfl _) fun b u e=>((lXe ..).2 b (lJw (lJg e))).trans (up b u e)⟩))
  ·rename_i he
   have h0:es= #[]:=Array.isEmpty_iff.mp (by simpa using he)
   subst h0
   exact lJd (lJc (lJd (lJd ⟨rfl,k _ _ _ hn ex rfl up⟩)))
 ·rename_i he
  have h0:es= #[]:=by
   obtain⟨l⟩:=es
   cases l with
   | nil=>rfl
   | cons e l=>
    obtain⟨_,b,h2,_⟩:=hall e (by simp)
    simp[h2,keyPart] at he
  subst h0
  refine lJc (wpAny_dictEpoch ho' hx ?_)
  refine lJc (lXa ho' hx ?_)
  refine lJc ?_
  (rw[Std.Legacy.Range.forIn_eq_forIn_range'])
  refine (show wpAny _ _ (forIn ([]:List Nat) PUnit.unit _) _ _ _ from ?_)
  rw[List.forIn_nil]
  exact lJd (lJd (lJc (lJd (lJd ⟨rfl,k _ _ _ hn ⟨rfl,rfl,rfl⟩ rfl up⟩))))
end
def hf (r d:Nat):Int:=reduceHash (Builtin.Tuple.tupleHashOf [hashInt r,hashInt d])
def hfs:List Int:=(List.range 24).flatMap fun r=>(List.range 12).map (hf r)
theorem kZo:hfs.Nodup:=by decide +kernel
theorem kVe {f:Nat->Nat->Int} {m:Nat}:∀ {n:Nat},((List.range n).flatMap fun r=>(List.range m).map (f r)).Nodup->∀ {r d r' d':Nat},r<n->d<m->r'<n->d'<m->f r d=f r' d'->r=r'/\d=d'
 | 0,_,_,_,_,_,hr,_,_,_,_=>absurd hr (lQd _)
 | n+1,h,r,d,r',d',hr,hd,hr',hd',e=>by
  rw[List.range_succ,lVn,lVm] at h
  obtain⟨h1,h2,h3⟩:=h
  have mem:∀ {r d:Nat},r<n->d<m->f r d∈(List.range n).flatMap fun r=>(List.range m).map (f r):=fun {r d} hr hd=>List.mem_flatMap.mpr ⟨r,lJ2.mpr hr,lJi.mpr ⟨d,lJ2.mpr hd,rfl⟩⟩
  have mem2:∀ {d:Nat},d<m->f n d∈([n]:List Nat).flatMap fun r=>(List.range m).map (f r):=fun {d} hd=>List.mem_flatMap.mpr ⟨n,lJr.mpr rfl,lJi.mpr ⟨d,lJ2.mpr hd,rfl⟩⟩
  rcases lKs r n with a | a
  ·rcases lKs r' n with b | b
   ·exact kVe h1 a hd b hd' e
   ·have:r'=n:=by omega
    subst this
    exact absurd e (h3 _ (mem a hd) _ (mem2 hd'))
  ·have:r=n:=by omega
   subst this
   rcases lKs r' r with b | b
   ·exact absurd e.symm (h3 _ (mem b hd') _ (mem2 hd))
   ·have:r'=r:=by omega
    subst this
    refine⟨rfl,?_⟩
    rw[lVo,List.Nodup,lQw] at h2
    rcases Nat.lt_trichotomy d d' with q | q | q
    ·exact absurd e (lXm.mp h2 d d' (by simpa using hd) (by simpa using hd') q|>fun z=>by simpa using z)
    ·exact q
    ·exact absurd e.symm (lXm.mp h2 d' d (by simpa using hd') (by simpa using hd) q|>fun z=>by simpa using z)
def jZ2 (k:TKey):Prop:=∃r d:Nat,r<24/\d<12/\k=[.inl (.inl (r:Int)),.inl (.inl (d:Int))]
theorem kX7 {prog:Program} {w:World} {k k':TKey} (h:jZ2 k) (h':jZ2 k') (e:(jKj prog w).hash k=(jKj prog w).hash k'):k=k':=by
 obtain⟨r,d,hr,hd,rfl⟩:=h
 obtain⟨r',d',hr',hd',rfl⟩:=h'
 obtain⟨rfl,rfl⟩:=kVe kZo hr hd hr' hd' (show hf r d=hf r' d' from e)
 rfl
theorem kU1 {α:Type} {f:α->Int} {g:α->DictEntry} (hg:∀a,(g a).hash=f a):∀ {xs:List α},(∀a,a∈xs->∀b,b∈xs->f a=f b->a=b)->xs.Nodup->∀a,a∈xs->((xs.map g).filter fun e=>e.hash == (g a).hash).length<=1
 | [],_,_,a,ha=>absurd ha lJv
 | x::xs,hi,hn,a,ha=>by
  rw[lKp] at hn
  rw[lJn,lQe]
  have none:∀y,y∉xs->y∈x::xs->((xs.map g).filter fun e=>e.hash == (g y).hash)=[]:=fun y hy hm=>by
   rw[List.filter_eq_nil_iff]
   intro e he z
   obtain⟨b,hb,rfl⟩:=lJi.mp he
   have z:(g b).hash=(g y).hash:=by simpa using z
   rw[hg,hg] at z
   exact hy (hi b (lJ3 _ hb) y hm z▸hb)
  by_cases e:x=a
  ·subst e
   rw[lJa (by simp),none x hn.1 (lJ7 ..)]
   simp
  ·have hax:a∈xs:=(lJj.mp ha).resolve_left fun z=>e z.symm
   have ne:¬ ((g x).hash == (g a).hash)=true:=fun z=>by
    have z:(g x).hash=(g a).hash:=by simpa using z
    rw[hg,hg] at z
    exact e (hi x (lJ7 ..) a ha z)
   rw[lJb ne]
   exact kU1 hg (fun a ha b hb=>hi a (lJ3 _ ha) b (lJ3 _ hb)) hn.2 a hax
section
variable {X:Cx}
noncomputable def jZr:List T->Gp->VK3->Prop:=fun xs G Q=>∃(p:Addr) (kvs:List (TKey×T)),xs=[.ref p]/\G p=some (.dct kvs)/\(∀e,e∈kvs->jZ2 e.1)/\∀q,G q=none->Q (.ref q) (gup G q (.dct kvs))
theorem qJi:Call3 X (.type "dict") jZr:=by
 rintro pins s τ G H xs us Q ⟨σ,I,hs,hg⟩ ⟨as,ras,rvs⟩ ⟨pa,kvs,ex,hp,hk,q⟩
 subst ex
 obtain⟨v,rfl,rv⟩:=jQo ras
 obtain⟨u,rfl,ru⟩:=rvs.one
 cases (show v= .ref pa from rv);cases ru
 obtain⟨ws,h1,h2⟩:=(show ∃ws,H pa=some (.dT ws)/\PKV X.K H kvs ws from hg pa _ hp)
 obtain⟨z,hd,xs,rel,o,es,ep,ho,hc,hx,he,hn⟩:=(show ObjOk X.prog X.w H s.heap pa (.dT ws) from I.hok pa _ h1)
 have l1:es.size=xs.length:=by have a1:=lKl List.length he;simpa using a1
 have l2:=lQ4 rel
 have small:∀x,x∈xs->jZ2 x.1/\TKeyAt H x.1 x.2.1:=fun x hx=>by
  obtain⟨i,hi⟩:=lKj hx
  have hiw:i<ws.length:=by have:=(lJh.mp hi).1;omega
  obtain⟨y,k1,k2,k3,_⟩:=jXm rel (lJl hiw)
  rw[hi] at k1;cases k1
  have hik:i<kvs.length:=by have:=h2.length;omega
  obtain⟨w',m1,m2,_⟩:=jXm h2 (lJl hik)
  rw[lJl hiw] at m1;cases m1
  rw[<-k2,<-m2]
  exact⟨hk _ (lQx hik),by rw[m2];exact k3⟩
 have xn:xs.Nodup:=List.Pairwise.of_map _ (fun a b hab=>fun z=>hab (by rw[z])) hn
 have xi:∀a,a∈xs->∀b,b∈xs->(jKj X.prog X.w).hash a.1=(jKj X.prog X.w).hash b.1->a=b:=fun a ha b hb e=>by
  have ek:=kX7 (small a ha).1 (small b hb).1 e
  obtain⟨i,hi⟩:=lKj ha
  (obtain⟨j,hj⟩:=lKj hb)
  have hil:=(lJh.mp hi).1
  have:=(lQy (by simpa using hil) hn).mp (show (xs.map (·.1))[i]? =(xs.map (·.1))[j]? by rw[lJx,lJx,hi,hj];simp[ek])
  subst this
  rw[hi] at hj;exact lKb hj
 refine kXl hd ho hc hx (by omega) (fun e hee=> ?_) fun h' o' ep' hn' hc' hx' kp=> ?_
 ·rw[he] at hee
  obtain⟨x,hxm,rfl⟩:=lJi.mp hee
  obtain⟨vs,r1,r2⟩:=(small x hxm).2
  refine⟨?_,x.2.1,rfl,?_⟩
  ·have:=kU1 (g:=entryOfKey (jKj X.prog X.w)) (fun a=>rfl) xi xn x hxm
   rw[<-he] at this
   have e2:(es.filter fun e'=>e'.hash == (entryOfKey (jKj X.prog X.w) x).hash).size=(es.toList.filter fun e'=>e'.hash == (entryOfKey (jKj X.prog X.w) x).hash).length:=by
    rw[<-lQs,Array.toList_filter]
   rw[e2];exact this
  ·obtain⟨_,its,_,ot,hot,hct,_⟩:=(show ObjOk X.prog X.w H s.heap x.2.1 (.tup vs) from I.hok _ _ r1)
   exact⟨ot,hot,hct⟩
 have fr:=I.hok.fresh (lJe s.heap.objs.size)
 have ext:Ext H (upd H s.heap.objs.size (.dT ws)):= .upd (.none fr)
 have big:=I.big
 have I3:=I.laid (a:=s.heap.objs.size) (o:= .dT ws) (h':=h') (t':=s.toks) kp (lJe _) ⟨z,by simpa using (lQa big),xs,Paired.mapP rel fun p q z=>⟨z.1,z.2.1.mono fun b ys e=>ext.tup _ _ e,z.2.2⟩,o',es,ep',hn',hc',hx',he,hn⟩
 exact⟨.ref _,_,_,ext,⟨σ,I3,hs.mono ext,hg.upd (.none fr) (go:= .dct kvs) ⟨ws,jJ6,h2.mono ext⟩⟩,⟨.ref _,rfl,rfl⟩,q _ (hg.fresh fr)⟩
def qXq (mg:Str->Option Value) (x:Str) (i:Int):Prop:=∃t,mg x=some (.int i t)
theorem e_con {x:Str} {i:Int} {pos:Pos} (hg:Gl X x) (hm:qXq X.mg x i) (hd:(x == ("__debug__":Str))=false:=by decide):PE3 X (.Name x pos) (tC (.int i)):=by
 obtain⟨t,hm⟩:=hm
 exact fun pins s τ G H Q ⟨σ,I,hs,hg'⟩ q=>thn (qVa (v:= .int i) hg hm ⟨t,rfl⟩ hd pins s σ H (up X.K H Q) I ⟨.int i,G,.refl H,hg',rfl,q⟩) fun u s' h=>jUf hs h
def qKk:List T->Gp->VK3->Prop:=fun xs G Q=>∃is:List Int,xs=[.tup (is.map T.int)]/\Q (.int is.sum) G
theorem c_sumT (hc:X.calm=true):Call3 X (.builtin "sum") qKk:=by
 rintro pins s τ G H xs us Q ⟨σ,I,hs,hg⟩ ⟨as,ras,rvs⟩ ⟨is,ex,q⟩
 subst ex
 obtain⟨v,rfl,rv⟩:=jQo ras
 obtain⟨u,rfl,ru⟩:=rvs.one
 obtain⟨pa,vs,rfl,hq,r⟩:=(show ∃a vs,v= .ref a/\H a=some (.tup vs)/\Reps X.K H (is.map T.int) vs from rv)
 cases ru
 cases jKw r
 obtain⟨its,rvv,pl,hz⟩:=I.tuple (.of hq)
 obtain⟨ps,e1,e2⟩:=jQj rvv
 subst e1
 have eI:(ps.map (fun p=>Value.int p.1 p.2)).toArray=intItems ps.toArray:=by simp[intItems]
 refine ktm_sumG (xs:=ps.toArray) (I.ok.hd hc) (eI▸pl) fun h' tk t' k=> ?_
 rw[kKs,e2]
 exact⟨.int _,G,H,.refl H,⟨σ,I.kept k,hs,hg⟩,⟨.int _,rfl,t',rfl⟩,q⟩
def kYg:R3:=fun x y G Q=>∃(p q:Addr) (xs:List T),x= .ref p/\y= .ref q/\G p=some (.lst xs)/\G q=some (.lst [])/\Q (.bl (!xs.isEmpty)) G
theorem qVj (hu:X.A.units+64<cLine):Op3 X (compareOp .NotEq) kYg:=by
 rintro pins s τ G H x y v u Q ⟨σ,I,hs,hg⟩ ⟨a,ra,rv⟩ ⟨b,rb,ru⟩ ⟨p,q',xs,ex,ey,hp,hq,q⟩
 subst ex;subst ey
 cases (show a= .ref p from ra);cases (show b= .ref q' from rb)
 cases rv;cases ru
 obtain⟨vs,h1,h2⟩:=hg.lst hp
 obtain⟨ws,h3,h4⟩:=hg.lst hq
 obtain⟨its,r1,p1,_⟩:=I.list (.of h1)
 obtain⟨its',r2,p2,_⟩:=I.list (.of h3)
 have l1:its.length=xs.length:=by rw[<-r1.length,<-h2.length]
 have l2:its'.length=0:=by rw[<-r2.length,<-h4.length];rfl
 cases xs with
 | nil=>
  refine PySem.SeqAt.RcNeAt.lists p1.isList p2.isList (e:=fun _=>true) (by simp at l1;simp[l1,l2]) (by omega) (fun j h1 h2=>absurd h1 (by simp at l1;simp[l1])) X.prog X.w _ _ ?_
  have e0:(!(List.range its.toArray.size).all fun _=>true)=false:=by simp at l1;simp[l1]
  rw[e0]
  exact⟨.bl false,G,H,.refl H,⟨σ,I,hs,hg⟩,⟨.bl false,rfl,rfl⟩,q⟩
 | cons t xs=>
  refine PySem.SeqAt.RcNeAt.lists_lengths p1.isList p2.isList (by simp at l1;simp[l1,l2]) (by omega) X.prog X.w _ _ ?_
  exact⟨.bl true,G,H,.refl H,⟨σ,I,hs,hg⟩,⟨.bl true,rfl,rfl⟩,q⟩
end
end L3
namespace L3
open PySem PyProof.Rows
section
variable {A:Around} {E:Value->Shared->Prop} {s:Shared} {M:Model}
structure Asks (M:Model) (A:Around) (s:Shared) (κ:SortKind) (mem:Keyed->Prop) (le:Keyed->Keyed->Prop) [∀x y,Decidable (le x y)]:Prop where
 ask:∀x y,mem x->mem y->∀(E:Value->Shared->Prop) (Q:Bool->Shared->Prop),Q (!decide (le y x)) s->wpAny M A (keyLt' κ x.1 y.1) Q E s
 tot:∀x y,mem x->mem y->le x y\/le y x
 tr:∀x y z,mem x->mem y->mem z->le x y->le y z->le x z
variable {κ:SortKind} {mem:Keyed->Prop} {le:Keyed->Keyed->Prop} [∀x y,Decidable (le x y)]
theorem lt_ok (H:Asks M A s κ mem le) {x y:Keyed} (hx:mem x) (hy:mem y) {st:SortSt} (hk:kindOf st=κ) {Q:Option Bool->SortSt->Prop} (h:Q (some (!decide (le y x))) st):wpS M A E s (lt' x y) Q st:=by
 rw[lt'_eq]
 refine lJm (wpS_get ?_)
 rw[hk]
 refine lJm (wpS_lift (lVt (H.ask x y hx hy _ _ ?_)))
 exact⟨rfl,lJy h⟩
theorem kZx {arr:Array Keyed} {i:Nat} {x:Keyed} {st:SortSt} {Q:Keyed->SortSt->Prop} (hi:arr[i]? =some x) (h:Q x st):wpS M A E s (elem' arr i) Q st:=by
 rw[elem'_eq,hi];exact lJy h
end
section
variable {le:Keyed->Keyed->Prop} {a b out:Array Keyed} {ia ib k:Nat}
end
section
variable {M:Model} {A:Around} {E:Value->Shared->Prop} {s:Shared} {κ:SortKind} {mem:Keyed->Prop} {le:Keyed->Keyed->Prop} [∀x y,Decidable (le x y)]
theorem mem_at {arr:Array Keyed} {i:Nat} {x:Keyed} (hx:arr[i]? =some x):x∈arr.toList:=by rw[Array.mem_toList_iff];exact Array.mem_of_getElem? hx
theorem kZm {α:Type} {m n:Nat} {p q:StateT SortSt Sem α} {Q:α->SortSt->Prop} {st:SortSt} (h1:m=n->wpS M A E s p Q st) (h2:¬ m=n->wpS M A E s q Q st):wpS M A E s (if (m == n)=true then p else q) Q st:=by
 by_cases c:m=n
 ·rw[lJa (by simpa using c)];exact h1 c
 ·rw[lJb (by simpa using c)];exact h2 c
abbrev kd:Keyed:=(Value.none,Value.none)
variable {a b:Array Keyed}
end
section
variable {le:Keyed->Keyed->Prop} {a b out:Array Keyed} {na nb k:Nat}
end
section
variable {M:Model} {A:Around} {E:Value->Shared->Prop} {s:Shared} {κ:SortKind} {mem:Keyed->Prop} {le:Keyed->Keyed->Prop} [∀x y,Decidable (le x y)] {a b:Array Keyed}
end
section
end
section
variable {M:Model} {A:Around} {E:Value->Shared->Prop} {s:Shared} {κ:SortKind} {mem:Keyed->Prop} {le:Keyed->Keyed->Prop} [∀x y,Decidable (le x y)]
end
section
variable {M:Model} {A:Around} {E:Value->Shared->Prop} {s:Shared} {κ:SortKind} {mem:Keyed->Prop} {le:Keyed->Keyed->Prop} [∀x y,Decidable (le x y)]
structure SB (κ:SortKind) (a0:Array Keyed) (lo hi:Nat) (pe:Array (Nat×Nat×Nat)) (st:SortSt):Prop where
 kind:kindOf st=κ
 fail:failedOf st=none
 pend:pendingOf st=pe
 perm:(arrOf st).Perm a0
 out:∀p,(p<lo\/hi<=p)->(arrOf st)[p]? =a0[p]?
abbrev Vl (st:SortSt) (p:Nat):Keyed:=(arrOf st).getD p kd
def SrtA (le:Keyed->Keyed->Prop) (st:SortSt) (lo n:Nat):Prop:=∀p q,p<q->q<n->le (Vl st (lo+p)) (Vl st (lo+q))
variable {a0:Array Keyed} {lo hi:Nat} {pe:Array (Nat×Nat×Nat)} {st:SortSt}
theorem SB.size (h:SB κ a0 lo hi pe st):(arrOf st).size=a0.size:=h.perm.size_eq
theorem SB.at (h:SB κ a0 lo hi pe st) {p:Nat} (hp:p<a0.size):(arrOf st)[p]? =some (Vl st p):=by
 have:p<(arrOf st).size:=by rw[h.size];exact hp
 simp[Array.getD,this]
theorem SB.inn (h:SB κ a0 lo hi pe st) (hm:∀x,x∈a0.toList->mem x) {p:Nat} (hp:p<a0.size):mem (Vl st p):=by
 have:=mem_at (h.at hp)
 exact hm _ ((Array.perm_iff_toList_perm.mp h.perm).mem_iff.mp this)
theorem jV5 (H:Asks M A s κ mem le) (hm:∀x,x∈a0.toList->mem x) (h:SB κ a0 lo hi pe st) {i j:Nat} (hi:i<a0.size) (hj:j<a0.size) {Q:Option Bool->SortSt->Prop} (q:Q (some (!decide (le (Vl st j) (Vl st i)))) st):wpS M A E s (ltAt' i j) Q st:=by
 rw[ltAt'_eq]
 refine lJm (wpS_get ?_)
 exact lJm (kZx (h.at hi) (lJm (kZx (h.at hj) (lt_ok H (h.inn hm hi) (h.inn hm hj) h.kind q))))
theorem SB.set (h:SB κ a0 lo hi pe st) {xs:Array Keyed} (hp:xs.Perm (arrOf st)) (ho:∀p,(p<lo\/hi<=p)->xs[p]? =(arrOf st)[p]?):SB κ a0 lo hi pe (setArr st xs):=
 ⟨h.kind,h.fail,h.pend,hp.trans h.perm,fun p hp=>(ho p hp).trans (h.out p hp)⟩
theorem jY3 {xs ys:Array Keyed} {i j:Nat} (h:xs[i]? =ys[j]?):xs.getD i kd=ys.getD j kd:=by
 rw[Array.getD_eq_getD_getElem?,Array.getD_eq_getD_getElem?,h]
theorem V_bub {k l p:Nat} (hs:lo+k<(arrOf st).size) (hl:l<=k):Vl (setArr st (bubble (arrOf st) (lo+k) (lo+k-(lo+l)))) (lo+p)=if p=l then Vl st (lo+k) else if l<p/\p<=k then Vl st (lo+(p-1)) else Vl st (lo+p):=by
 have e:=getElem?_bubble hs (lo+k-(lo+l)) (by omega) (lo+p)
 by_cases h1:p=l
 ·rw[lJa (by omega)] at e
  rw[lJa h1];exact jY3 e
 ·rw[lJb (by omega)] at e
  rw[lJb h1]
  by_cases h2:l<p/\p<=k
  ·rw[lJa (by omega)] at e
   rw[lJa h2];exact jY3 (e.trans (by rw[show lo+p-1=lo+(p-1) by omega]))
  ·rw[lJb (by omega)] at e
   rw[lJb h2];exact jY3 e
theorem kJ7 (H:Asks M A s κ mem le) (hm:∀x,x∈a0.toList->mem x) (h:SB κ a0 lo hi pe st) {n ok:Nat} (hok:1<=ok) (hn:ok<=n) (hl:lo+n<=hi) (hh:hi<=a0.size) (hs:SrtA le st lo ok) {Q:Bool->SortSt->Prop} (q:∀st',SB κ a0 lo hi pe st'->SrtA le st' lo n->Q true st'):wpS M A E s (binarySort' lo n ok) Q st:=by
 rw[binarySort'_eq]
 refine lJm (wpS_mono (lQq (I:=fun k (c:Option Bool×Unit) st'=>c=(none,())/\SB κ a0 lo hi pe st'/\SrtA le st' lo k) (Q:=fun (c:Option Bool×Unit) st'=>c=(none,())/\SB κ a0 lo hi pe st'/\SrtA le st' lo n) ?_ ?_ ⟨rfl,h,by rw[Nat.max_eq_left hok];exact hs⟩) ?_)
 ·rintro k c st1 hk hkn ⟨rfl,B,S⟩
  have hks:lo+k<a0.size:=by omega
  dsimp only
  have mV:∀p,p<=k->mem (Vl st1 (lo+p)):=fun p hp=>B.inn hm (by omega)
  have S':∀p q,p<=q->q<k->le (Vl st1 (lo+p)) (Vl st1 (lo+q)):=fun p q hpq hq=>by
   rcases lQz hpq with z | rfl
   ·exact S p q z hq
   ·exact (H.tot _ _ (mV p (by omega)) (mV p (by omega))).elim id id
  refine lJm (wpS_mono (lQq (I:=fun i (c:Option Bool×Nat×Nat) st'=>st1=st'/\c.1=none/\c.2.1<=c.2.2/\c.2.2<=k/\c.2.2-c.2.1<=k-i/\(∀p,p<c.2.1->le (Vl st1 (lo+p)) (Vl st1 (lo+k)))/\(∀p,c.2.2<=p->p<k->le (Vl st1 (lo+k)) (Vl st1 (lo+p))))
   (Q:=fun (c:Option Bool×Nat×Nat) st'=>st1=st'/\c.1=none/\c.2.1<=k/\(∀p,p<c.2.1->le (Vl st1 (lo+p)) (Vl st1 (lo+k)))/\(∀p,c.2.1<=p->p<k->le (Vl st1 (lo+k)) (Vl st1 (lo+p)))) ?_ ?_ ⟨rfl,rfl,Nat.zero_le _,Nat.le_refl _,by dsimp only;omega,fun p hp=>absurd hp (Nat.not_lt_zero _),fun p h1 h2=>absurd h2 (by dsimp only at h1;omega)⟩) ?_)
  ·rintro i ⟨r0,l,r⟩ st2 _ hi2 ⟨rfl,rfl,i1,i2,i3,i4,i5⟩
   dsimp only at i1 i2 i3 i4 i5 ⊢
   by_cases c:l>=r
   ·rw[lJa c]
    exact wpS_pure ⟨rfl,rfl,by dsimp only;omega,i4,fun p h1 h2=>i5 p (by dsimp only at h1;omega) h2⟩
   ·rw[lJb c]
    have hmm:(l+r) / 2<k:=by omega
    refine lJm (jV5 H hm B (by omega) (by omega) ?_)
    by_cases w:le (Vl st1 (lo+(l+r) / 2)) (Vl st1 (lo+k))
    ·rw[lJs w]
     dsimp only
     rw[lJb (by decide)]
     exact wpS_pure ⟨rfl,rfl,by dsimp only;omega,i2,by dsimp only;omega,fun p hp=>H.tr _ _ _ (mV p (by dsimp only at hp;omega)) (mV _ (by omega)) (mV k (Nat.le_refl _)) (S' p _ (by dsimp only at hp;omega) hmm) w,i5⟩
    ·rw[lJu w]
     dsimp only
     (rw[lJa (show (!false)=true from rfl)])
     have w':=(H.tot _ _ (mV _ (by omega)) (mV k (lJe _))).resolve_left w
     exact wpS_pure ⟨rfl,rfl,by dsimp only;omega,by dsimp only;omega,by dsimp only;omega,i4,fun p h1 h2=>H.tr _ _ _ (mV k (Nat.le_refl _)) (mV _ (by omega)) (mV p (by omega)) w' (S' _ p h1 h2)⟩
  ·rintro⟨r0,l,r⟩ st2 ⟨rfl,rfl,i1,i2,i3,i4,i5⟩
   dsimp only at i1 i2 i3 i4 i5 ⊢
   exact⟨rfl,rfl,by omega,i4,fun p h1 h2=>i5 p (by omega) h2⟩
  ·rintro⟨r0,l,r⟩ st2 ⟨rfl,rfl,i1,i2,i3⟩
   dsimp only at i1 i2 i3 ⊢
   rw[moveDown'_eq]
   have hsz:lo+k<(arrOf st1).size:=by rw[B.size];exact hks
   refine lJm (lK6 (lJy ⟨rfl,B.set (bubble_perm ..) (fun p hp=> ?_),fun p q' hpq hq=> ?_⟩))
   ·rw[getElem?_bubble hsz _ (by omega),lJb (by omega),lJb (by omega)]
   ·rw[V_bub hsz i1,V_bub hsz i1]
    by_cases e1:p=l
    ·rw[lJa e1,lJb (by omega),lJa ⟨by omega,by omega⟩]
     exact i3 _ (by omega) (by omega)
    ·rw[lJb e1]
     by_cases e2:q'=l
     ·rw[lJa e2,lJb (by omega)]
      exact i2 p (by omega)
     ·rw[lJb e2]
      by_cases e3:l<p/\p<=k
      ·rw[lJa e3,lJa ⟨by omega,by omega⟩]
       exact S _ _ (by omega) (by omega)
      ·rw[lJb e3]
       by_cases e4:l<q'/\q'<=k
       ·rw[lJa e4]
        exact S' _ _ (by omega) (by omega)
       ·rw[lJb e4]
        exact S _ _ hpq (by omega)
 ·rintro c st1 ⟨rfl,B,S⟩
  refine⟨rfl,B,?_⟩
  rwa [show max (max ok 1) n=n by omega] at S
 ·rintro c st1 ⟨rfl,B,S⟩
  dsimp only
  exact lJy (q _ B S)
end
section
variable {M:Model} {A:Around} {E:Value->Shared->Prop} {s:Shared} {κ:SortKind} {mem:Keyed->Prop} {le:Keyed->Keyed->Prop} [∀x y,Decidable (le x y)]
variable {a0:Array Keyed} {lo hi:Nat} {pe:Array (Nat×Nat×Nat)} {st:SortSt}
def NInc (le:Keyed->Keyed->Prop) (st:SortSt) (lo n:Nat):Prop:=∀p q,p<q->q<n->le (Vl st (lo+q)) (Vl st (lo+p))
abbrev revS (st:SortSt) (i j:Nat):SortSt:=setArr st (mirror (arrOf st) i j ((j-i) / 2))
theorem jX4 {i j p:Nat} (hj:lo+j<=(arrOf st).size):Vl (revS st (lo+i) (lo+j)) (lo+p)=if i<=p/\p<j then Vl st (lo+(i+j-1-p)) else Vl st (lo+p):=by
 have e:=getElem?_mirror_all (i:=lo+i) hj (lo+p)
 by_cases h:i<=p/\p<j
 ·rw[lJa (by omega)] at e
  rw[lJa h];exact jY3 (e.trans (by rw[show lo+i+(lo+j)-1-(lo+p)=lo+(i+j-1-p) by omega]))
 ·rw[lJb (by omega)] at e
  rw[lJb h];exact jY3 e
theorem SB.rev (h:SB κ a0 lo hi pe st) {i j:Nat} (hj:lo+j<=hi) (hh:hi<=a0.size):SB κ a0 lo hi pe (revS st (lo+i) (lo+j)):=
 h.set (mirror_perm ..) fun p hp=>by rw[getElem?_mirror_all (by rw[h.size];omega),lJb (by omega)]
theorem NInc.flip {n:Nat} (h:NInc le st lo n) (hn:lo+n<=(arrOf st).size):SrtA le (revS st (lo+0) (lo+n)) lo n:=fun p q hpq hq=>by
 rw[jX4 hn,jX4 hn,lJa ⟨lJq _,by omega⟩,lJa ⟨lJq _,hq⟩]
 exact h _ _ (by omega) (by omega)
theorem SrtA.flip {n:Nat} (h:SrtA le st lo n) (hn:lo+n<=(arrOf st).size):NInc le (revS st (lo+0) (lo+n)) lo n:=fun p q hpq hq=>by
 rw[jX4 hn,jX4 hn,lJa ⟨lJq _,hq⟩,lJa ⟨lJq _,by omega⟩]
 exact h _ _ (by omega) (by omega)
theorem NInc.part {n m:Nat} (h:NInc le st lo n) (hn:lo+n<=(arrOf st).size) (hm:m<=n) (he:∀p q,m<=p->p<n->m<=q->q<n->le (Vl st (lo+p)) (Vl st (lo+q))):NInc le (revS st (lo+m) (lo+n)) lo n:=fun p q hpq hq=>by
 rw[jX4 hn,jX4 hn]
 by_cases h1:m<=p
 ·rw[lJa ⟨by omega,hq⟩,lJa ⟨h1,by omega⟩]
  exact he _ _ (by omega) (by omega) (by omega) (by omega)
 ·rw[lJb (by omega:¬ (m<=p/\p<n))]
  by_cases h2:m<=q
  ·rw[lJa ⟨h2,hq⟩]
   exact h _ _ (by omega) (by omega)
  ·rw[lJb (by omega)]
   exact h _ _ hpq hq
def Seg (le:Keyed->Keyed->Prop) (st:SortSt) (lo i e:Nat):Prop:=∀p q,i-(e+1)<=p->p<i->i-(e+1)<=q->q<i->le (Vl st (lo+p)) (Vl st (lo+q))
theorem NInc.up (H:Asks M A s κ mem le) (hm:∀x,x∈a0.toList->mem x) {n:Nat} (B:SB κ a0 lo hi pe st) (hn1:1<=n) (hn:lo+n<a0.size) (h:NInc le st lo n) (w:le (Vl st (lo+n)) (Vl st (lo+(n-1)))):NInc le st lo (n+1):=fun p q hpq hq=>by
 rcases lQz (lV0 hq) with z | rfl
 ·exact h p q hpq z
 ·rcases lQz (show p<=q-1 by omega) with y | rfl
  ·exact H.tr _ _ _ (B.inn hm hn) (B.inn hm (by omega)) (B.inn hm (by omega)) w (h p (q-1) y (by omega))
  ·exact w
theorem Seg.part {n e:Nat} (h:Seg le st lo n e) (N:NInc le st lo n) {hn:lo+n<=(arrOf st).size}:NInc le (revS st (lo+(n-(e+1))) (lo+n)) lo n:=N.part hn (by omega) h
theorem kUj (H:Asks M A s κ mem le) (hm:∀x,x∈a0.toList->mem x) (h:SB κ a0 lo hi pe st) {nrem:Nat} (h1:1<=nrem) (hl:lo+nrem<=hi) (hh:hi<=a0.size) {Q:Option Nat->SortSt->Prop} (q:∀n st',SB κ a0 lo hi pe st'->1<=n->n<=nrem->SrtA le st' lo n->Q (some n) st'):wpS M A E s (countRun' lo nrem) Q st:=by
 rw[countRun'_eq]
 have up:∀(st':SortSt) n,SB κ a0 lo hi pe st'->1<=n->n<nrem->SrtA le st' lo n->le (Vl st' (lo+n-1)) (Vl st' (lo+n))->SrtA le st' lo (n+1):=fun st' n B hn hnr S w p q hpq hq=>by
  rcases lQz (lV0 hq) with z | rfl
  ·exact S p q hpq z
  ·rw[show lo+q-1=lo+(q-1) by omega] at w
   rcases lQz (show p<=q-1 by omega) with y | rfl
   ·exact H.tr _ _ _ (B.inn hm (by omega)) (B.inn hm (by omega)) (B.inn hm (by omega)) (S p (q-1) y (by omega)) w
   ·exact w
 refine lJm (wpS_mono (lQq (I:=fun i (c:Option (Option Nat)×Nat) st'=>st=st'/\c=(none,i)/\SrtA le st lo i) (Q:=fun (c:Option (Option Nat)×Nat) st'=>st=st'/\c.1=none/\1<=c.2/\c.2<=nrem/\SrtA le st lo c.2/\(c.2<nrem->¬ le (Vl st (lo+c.2-1)) (Vl st (lo+c.2)))) ?_ ?_ ⟨rfl,rfl,fun p q hpq hq=>absurd hq (by omega)⟩) ?_)
 ·rintro i c st1 hi1 hi2 ⟨rfl,rfl,S⟩
  dsimp only
  refine lJm (jV5 H hm h (by omega) (by omega) ?_)
  by_cases w:le (Vl st (lo+i-1)) (Vl st (lo+i))
  ·rw[lJs w]
   dsimp only
   rw[lJb (by decide)]
   exact lJy ⟨rfl,rfl,up st i h hi1 hi2 S w⟩
  ·rw[lJu w]
   dsimp only
   (rw[lJa (show (!false)=true from rfl)])
   exact wpS_pure ⟨rfl,rfl,hi1,by dsimp only;omega,S,fun _=>w⟩
 ·rintro c st1 ⟨rfl,rfl,S⟩
  rw[show max 1 nrem=nrem by omega] at S ⊢
  exact⟨rfl,rfl,h1,lJe _,S,fun z=>absurd z (lKt _)⟩
 ·rintro⟨r,n⟩ st1 ⟨rfl,rfl,n1,n2,S,W⟩
  dsimp only at n1 n2 S W ⊢
  refine kZm (fun d=> ?_) fun d=> ?_
  ·exact lJy (q n st h n1 n2 S)
  have nlt:n<nrem:=by omega
  have en:lo+n-1=lo+(n-1):=by omega
  rw[en] at W
  have W':=(H.tot _ _ (h.inn hm (by omega)) (h.inn hm (by omega))).resolve_left (W nlt)
  by_cases cn:n>1
  ·rw[lJa cn]
   refine lJm (jV5 H hm h (by omega) (by omega) ?_)
   rw[en]
   by_cases w:le (Vl st (lo+(n-1))) (Vl st lo)
   ·rw[lJs w]
    dsimp only
    rw[lJb (by decide),lQr]
    have hsz:lo+n<=(arrOf st).size:=by rw[h.size];omega
    have B2:=h.rev (i:=0) (j:=n) (by omega) hh
    have N2:NInc le (revS st (lo+0) (lo+n)) lo (n+1):=by
     refine (S.flip hsz).up H hm B2 n1 (by omega) ?_
     rw[jX4 hsz,jX4 hsz,lJb (by omega),lJa (by omega),show 0+n-1-(n-1)=0 by omega,Nat.add_zero]
     exact H.tr _ _ _ (h.inn hm (by omega)) (h.inn hm (by omega)) (h.inn hm (by omega)) W' w
    refine lJm (lK6 ?_)
    (refine lJm (wpS_lift (lVf ⟨rfl,?_⟩)))
    refine lJm (wpS_mono (lQq (I:=fun i (c:Option (Option Nat)×Nat×Nat) st'=>SB κ a0 lo hi pe st'/\c.1=none/\c.2.1=i/\NInc le st' lo i/\c.2.2+1<=i/\Seg le st' lo i c.2.2)
     (Q:=fun (c:Option (Option Nat)×Nat×Nat) st'=>SB κ a0 lo hi pe st'/\c.1=none/\1<=c.2.1/\c.2.1<=nrem/\NInc le st' lo c.2.1/\c.2.2+1<=c.2.1/\Seg le st' lo c.2.1 c.2.2) ?_ ?_ ⟨B2,rfl,rfl,N2,by dsimp only;omega,fun p q a1 a2 a3 a4=>by
      obtain rfl:p=q:=by dsimp only at a1 a3;omega
      exact (H.tot _ _ (B2.inn hm (by omega)) (B2.inn hm (by omega))).elim id id⟩) ?_)
    ·rintro i ⟨r,i',e⟩ st3 hi1 hi2 ⟨B,rfl,rfl,N,he,sg⟩
     dsimp only at N he sg hi1 hi2 ⊢
     have ei:lo+i'-1=lo+(i'-1):=by omega
     refine lJm (jV5 H hm B (by omega) (by omega) ?_)
     rw[ei]
     by_cases w:le (Vl st3 (lo+(i'-1))) (Vl st3 (lo+i'))
     ·rw[lJs w]
      dsimp only
      rw[lJb (by decide)]
      refine lJm (jV5 H hm B (by omega) (by omega) ?_)
      by_cases w2:le (Vl st3 (lo+i')) (Vl st3 (lo+(i'-1)))
      ·rw[lJs w2]
       dsimp only
       rw[lJb (by decide)]
       refine wpS_pure ⟨B,rfl,rfl,N.up H hm B (by omega) (by omega) w2,by dsimp only;omega,fun p q a1 a2 a3 a4=> ?_⟩
       dsimp only at a1 a3
       have to:∀p,i'-(e+1)<=p->p<i'->le (Vl st3 (lo+p)) (Vl st3 (lo+i'))/\le (Vl st3 (lo+i')) (Vl st3 (lo+p)):=fun p b1 b2=>
        ⟨H.tr _ _ _ (B.inn hm (by omega)) (B.inn hm (by omega)) (B.inn hm (by omega)) (sg p (i'-1) b1 b2 (by omega) (by omega)) w,H.tr _ _ _ (B.inn hm (by omega)) (B.inn hm (by omega)) (B.inn hm (by omega)) w2 (sg (i'-1) p (by omega) (by omega) b1 b2)⟩
       by_cases ep:p=i'
       ·by_cases eq:q=i'
        ·rw[ep,eq];exact (H.tot _ _ (B.inn hm (by omega)) (B.inn hm (by omega))).elim id id
        ·rw[ep];exact (to q (by omega) (by omega)).2
       ·by_cases eq:q=i'
        ·rw[eq];exact (to p (by omega) (by omega)).1
        ·exact sg p q (by omega) (by omega) (by omega) (by omega)
      ·rw[lJu w2]
       dsimp only
       (rw[lJa (show (!false)=true from rfl)])
       exact wpS_pure ⟨B,rfl,by dsimp only;omega,by dsimp only;omega,N,he,sg⟩
     ·rw[lJu w]
      dsimp only
      (rw[lJa (show (!false)=true from rfl)])
      have w':=(H.tot _ _ (B.inn hm (by omega)) (B.inn hm (by omega))).resolve_left w
      have one:∀st4,SB κ a0 lo hi pe st4->Seg le st4 lo (i'+1) 0:=fun st4 B4 p q a1 a2 a3 a4=>by
       obtain rfl:p=q:=by omega
       exact (H.tot _ _ (B4.inn hm (by omega)) (B4.inn hm (by omega))).elim id id
      by_cases ce:e>0
      ·rw[lJa ce,lQr,show lo+i'-(e+1)=lo+(i'-(e+1)) by omega]
       have hsz:lo+i'<=(arrOf st3).size:=by rw[B.size];omega
       have B4:=B.rev (i:=i'-(e+1)) (j:=i') (by omega) hh
       have N4:=sg.part N (hn:=hsz)
       refine wpS_bind (wpS_modify (wpS_pure ⟨B4,rfl,rfl,N4.up H hm B4 (by omega) (by omega) ?_,by dsimp only;omega,one _ B4⟩))
       rw[jX4 hsz,jX4 hsz,lJb (by omega),lJa (by omega)]
       exact H.tr _ _ _ (B.inn hm (by omega)) (B.inn hm (by omega)) (B.inn hm (by omega)) w' (sg _ _ (by omega) (by omega) (by omega) (by omega))
      ·rw[lJb ce]
       exact wpS_pure ⟨B,rfl,rfl,N.up H hm B (by omega) (by omega) w',by dsimp only;omega,one _ B⟩
    ·rintro⟨r,i',e⟩ st3 ⟨B,rfl,rfl,N,he,sg⟩
     dsimp only at N he sg ⊢
     exact⟨B,rfl,by omega,by omega,N,he,sg⟩
    ·rintro⟨r,i',e⟩ st3 ⟨B,rfl,b1,b2,N,he,sg⟩
     dsimp only at b1 b2 N he sg ⊢
     have hsz:lo+i'<=(arrOf st3).size:=by rw[B.size];omega
     by_cases ce:e>0
     all_goals first | rw[lJa ce,lQr,lQr,show lo+i'-(e+1)=lo+(i'-(e+1)) by omega] | rw[lJb ce,lQr]
     all_goals first
      | (have N4:=sg.part N (hn:=hsz)
         have B4:=B.rev (i:=i'-(e+1)) (j:=i') (by omega) hh
         have S5:=N4.flip (by rw[B4.size];omega)
         have B5:=B4.rev (i:=0) (j:=i') (by omega) hh
         refine lJm (lK6 (lJm (lK6 ?_)))
         skip)
      | (have S5:=N.flip hsz
         have B5:=B.rev (i:=0) (j:=i') (by omega) hh
         refine lJm (lK6 ?_)
         skip)
     all_goals refine lJm (wpS_mono (lQq (I:=fun i (c:Option (Option Nat)×Nat) st'=>SB κ a0 lo hi pe st'/\c=(none,i)/\SrtA le st' lo i) (Q:=fun (c:Option (Option Nat)×Nat) st'=>SB κ a0 lo hi pe st'/\c.1=none/\1<=c.2/\c.2<=nrem/\SrtA le st' lo c.2) ?_ ?_ ⟨B5,rfl,S5⟩) ?_)
     all_goals first
      | (rintro i c st6 hi1 hi2 ⟨B6,rfl,S6⟩
         dsimp only
         refine lJm (jV5 H hm B6 (by omega) (by omega) ?_)
         by_cases w:le (Vl st6 (lo+i-1)) (Vl st6 (lo+i))
         ·rw[lJs w]
          dsimp only
          rw[lJb (by decide)]
          exact lJy ⟨B6,rfl,up st6 i B6 (by omega) hi2 S6 w⟩
         ·rw[lJu w]
          dsimp only
          (rw[lJa (show (!false)=true from rfl)])
          exact wpS_pure ⟨B6,rfl,by dsimp only;omega,by dsimp only;omega,S6⟩)
      | (rintro c st6 ⟨B6,rfl,S6⟩
         rw[show max i' nrem=nrem by omega] at S6 ⊢
         exact⟨B6,rfl,h1,lJe _,S6⟩)
      | (rintro⟨r,k⟩ st6 ⟨B6,rfl,k1,k2,S6⟩
         dsimp only at k1 k2 S6 ⊢
         exact lJy (q k st6 B6 k1 k2 S6))
   ·rw[lJu w]
    dsimp only
    (rw[lJa (show (!false)=true from rfl)])
    exact lJy (q n st h n1 n2 S)
  ·rw[lJb cn]
   obtain rfl:n=1:=by omega
   have B2:=h
   have N2:NInc le st lo (1+1):=fun p q hpq hq=>by
    obtain rfl:p=0:=by omega
    obtain rfl:q=1:=by omega
    exact W'
   (refine lJm (wpS_lift (lVf ⟨rfl,?_⟩)))
   refine lJm (wpS_mono (lQq (I:=fun i (c:Option (Option Nat)×Nat×Nat) st'=>SB κ a0 lo hi pe st'/\c.1=none/\c.2.1=i/\NInc le st' lo i/\c.2.2+1<=i/\Seg le st' lo i c.2.2)
    (Q:=fun (c:Option (Option Nat)×Nat×Nat) st'=>SB κ a0 lo hi pe st'/\c.1=none/\1<=c.2.1/\c.2.1<=nrem/\NInc le st' lo c.2.1/\c.2.2+1<=c.2.1/\Seg le st' lo c.2.1 c.2.2) ?_ ?_ ⟨B2,rfl,rfl,N2,by dsimp only;omega,fun p q a1 a2 a3 a4=>by
     obtain rfl:p=q:=by dsimp only at a1 a3;omega
     exact (H.tot _ _ (B2.inn hm (by omega)) (B2.inn hm (by omega))).elim id id⟩) ?_)
   ·rintro i ⟨r,i',e⟩ st3 hi1 hi2 ⟨B,rfl,rfl,N,he,sg⟩
    dsimp only at N he sg hi1 hi2 ⊢
    have ei:lo+i'-1=lo+(i'-1):=by omega
    refine lJm (jV5 H hm B (by omega) (by omega) ?_)
    rw[ei]
    by_cases w:le (Vl st3 (lo+(i'-1))) (Vl st3 (lo+i'))
    ·rw[lJs w]
     dsimp only
     rw[lJb (by decide)]
     refine lJm (jV5 H hm B (by omega) (by omega) ?_)
     by_cases w2:le (Vl st3 (lo+i')) (Vl st3 (lo+(i'-1)))
     ·rw[lJs w2]
      dsimp only
      rw[lJb (by decide)]
      refine wpS_pure ⟨B,rfl,rfl,N.up H hm B (by omega) (by omega) w2,by dsimp only;omega,fun p q a1 a2 a3 a4=> ?_⟩
      dsimp only at a1 a3
      have to:∀p,i'-(e+1)<=p->p<i'->le (Vl st3 (lo+p)) (Vl st3 (lo+i'))/\le (Vl st3 (lo+i')) (Vl st3 (lo+p)):=fun p b1 b2=>
       ⟨H.tr _ _ _ (B.inn hm (by omega)) (B.inn hm (by omega)) (B.inn hm (by omega)) (sg p (i'-1) b1 b2 (by omega) (by omega)) w,H.tr _ _ _ (B.inn hm (by omega)) (B.inn hm (by omega)) (B.inn hm (by omega)) w2 (sg (i'-1) p (by omega) (by omega) b1 b2)⟩
      by_cases ep:p=i'
      ·by_cases eq:q=i'
       ·rw[ep,eq];exact (H.tot _ _ (B.inn hm (by omega)) (B.inn hm (by omega))).elim id id
       ·rw[ep];exact (to q (by omega) (by omega)).2
      ·by_cases eq:q=i'
       ·rw[eq];exact (to p (by omega) (by omega)).1
       ·exact sg p q (by omega) (by omega) (by omega) (by omega)
     ·rw[lJu w2]
      dsimp only
      (rw[lJa (show (!false)=true from rfl)])
      exact wpS_pure ⟨B,rfl,by dsimp only;omega,by dsimp only;omega,N,he,sg⟩
    ·rw[lJu w]
     dsimp only
     (rw[lJa (show (!false)=true from rfl)])
     have w':=(H.tot _ _ (B.inn hm (by omega)) (B.inn hm (by omega))).resolve_left w
     have one:∀st4,SB κ a0 lo hi pe st4->Seg le st4 lo (i'+1) 0:=fun st4 B4 p q a1 a2 a3 a4=>by
      obtain rfl:p=q:=by omega
      exact (H.tot _ _ (B4.inn hm (by omega)) (B4.inn hm (by omega))).elim id id
     by_cases ce:e>0
     ·rw[lJa ce,lQr,show lo+i'-(e+1)=lo+(i'-(e+1)) by omega]
      have hsz:lo+i'<=(arrOf st3).size:=by rw[B.size];omega
      have B4:=B.rev (i:=i'-(e+1)) (j:=i') (by omega) hh
      have N4:=sg.part N (hn:=hsz)
      refine wpS_bind (wpS_modify (wpS_pure ⟨B4,rfl,rfl,N4.up H hm B4 (by omega) (by omega) ?_,by dsimp only;omega,one _ B4⟩))
      rw[jX4 hsz,jX4 hsz,lJb (by omega),lJa (by omega)]
      exact H.tr _ _ _ (B.inn hm (by omega)) (B.inn hm (by omega)) (B.inn hm (by omega)) w' (sg _ _ (by omega) (by omega) (by omega) (by omega))
     ·rw[lJb ce]
      exact wpS_pure ⟨B,rfl,rfl,N.up H hm B (by omega) (by omega) w',by dsimp only;omega,one _ B⟩
   ·rintro⟨r,i',e⟩ st3 ⟨B,rfl,rfl,N,he,sg⟩
    dsimp only at N he sg ⊢
    exact⟨B,rfl,by omega,by omega,N,he,sg⟩
   ·rintro⟨r,i',e⟩ st3 ⟨B,rfl,b1,b2,N,he,sg⟩
    dsimp only at b1 b2 N he sg ⊢
    have hsz:lo+i'<=(arrOf st3).size:=by rw[B.size];omega
    by_cases ce:e>0
    all_goals first | rw[lJa ce,lQr,lQr,show lo+i'-(e+1)=lo+(i'-(e+1)) by omega] | rw[lJb ce,lQr]
    all_goals first
     | (have N4:=sg.part N (hn:=hsz)
        have B4:=B.rev (i:=i'-(e+1)) (j:=i') (by omega) hh
        have S5:=N4.flip (by rw[B4.size];omega)
        have B5:=B4.rev (i:=0) (j:=i') (by omega) hh
        refine lJm (lK6 (lJm (lK6 ?_)))
        skip)
     | (have S5:=N.flip hsz
        have B5:=B.rev (i:=0) (j:=i') (by omega) hh
        refine lJm (lK6 ?_)
        skip)
    all_goals refine lJm (wpS_mono (lQq (I:=fun i (c:Option (Option Nat)×Nat) st'=>SB κ a0 lo hi pe st'/\c=(none,i)/\SrtA le st' lo i) (Q:=fun (c:Option (Option Nat)×Nat) st'=>SB κ a0 lo hi pe st'/\c.1=none/\1<=c.2/\c.2<=nrem/\SrtA le st' lo c.2) ?_ ?_ ⟨B5,rfl,S5⟩) ?_)
    all_goals first
     | (rintro i c st6 hi1 hi2 ⟨B6,rfl,S6⟩
        dsimp only
        refine lJm (jV5 H hm B6 (by omega) (by omega) ?_)
        by_cases w:le (Vl st6 (lo+i-1)) (Vl st6 (lo+i))
        ·rw[lJs w]
         dsimp only
         rw[lJb (by decide)]
         exact lJy ⟨B6,rfl,up st6 i B6 (by omega) hi2 S6 w⟩
        ·rw[lJu w]
         dsimp only
         (rw[lJa (show (!false)=true from rfl)])
         exact wpS_pure ⟨B6,rfl,by dsimp only;omega,by dsimp only;omega,S6⟩)
     | (rintro c st6 ⟨B6,rfl,S6⟩
        rw[show max i' nrem=nrem by omega] at S6 ⊢
        exact⟨B6,rfl,h1,lJe _,S6⟩)
     | (rintro⟨r,k⟩ st6 ⟨B6,rfl,k1,k2,S6⟩
        dsimp only at k1 k2 S6 ⊢
        exact lJy (q k st6 B6 k1 k2 S6))
end
section
variable {M:Model} {A:Around} {E:Value->Shared->Prop} {s:Shared} {κ:SortKind} {mem:Keyed->Prop} {le:Keyed->Keyed->Prop} [∀x y,Decidable (le x y)] {st:SortSt}
theorem kV8 {n:Nat} (h1:1<=n) (h:n<64):minRun' n n 0=n:=by
 obtain⟨f,rfl⟩:∃f,n=f+1:=⟨n-1,by omega⟩
 have:minRun' (f+1) (f+1) 0=f+1:=by rw[minRun'_succ,lJa h]
 exact this
def Done (le:Keyed->Keyed->Prop) (st st':SortSt):Prop:=(arrOf st').toList.Perm (arrOf st).toList/\(arrOf st').toList.Pairwise le/\failedOf st'=none/\(pendingOf st').size<=1
theorem qUw {pe:Array (Nat×Nat×Nat)} {st3:SortSt} (B:SB κ (arrOf st) 0 (arrOf st).size pe st3) (S:SrtA le st3 0 (arrOf st).size):(arrOf st3).toList.Pairwise le:=by
 (rw[lXm])
 intro p q hp hq hpq
 have hz:=B.size
 have hp':p<(arrOf st3).size:=by simpa using hp
 have hq':q<(arrOf st3).size:=by simpa using hq
 have:=S p q hpq (by omega)
 simp only[Vl,Array.getD,Nat.zero_add,hp',hq',dif_pos] at this
 simpa using this
theorem kKh (H:Asks M A s κ mem le) (hm:∀x,x∈(arrOf st).toList->mem x) (hk:kindOf st=κ) (hf:failedOf st=none) (hp:pendingOf st= #[]) (h1:1<=(arrOf st).size) (h64:(arrOf st).size<64) {Q:Unit->SortSt->Prop} (q:∀st',(arrOf st').toList.Perm (arrOf st).toList->(arrOf st').toList.Pairwise le->failedOf st'=none->Q () st'):wpS M A E s sortRuns' Q st:=by
 rw[sortRuns'_eq]
 refine lJm (wpS_get ?_)
 dsimp only
 have hmr:=kV8 h1 h64
 have fin:∀ {pe:Array (Nat×Nat×Nat)} {st3:SortSt} (r:Array (Nat×Nat×Nat)),SB κ (arrOf st) 0 (arrOf st).size pe st3->SrtA le st3 0 (arrOf st).size->r.size<=1->Done le st (setPending st3 r):=fun {pe st3} r B S hr=>
  ⟨Array.perm_iff_toList_perm.mp B.perm,show (arrOf st3).toList.Pairwise le from qUw B S,B.fail,hr⟩
 refine lJm (wpS_mono (lQq (I:=fun i (c:Option Unit×Nat) st'=>c.1=none/\((i=0/\c.2=0/\st'=st)\/((arrOf st).size<=c.2/\Done le st st'))) (Q:=fun (c:Option Unit×Nat) st'=>c.1=none/\(arrOf st).size<=c.2/\Done le st st') ?_ ?_ ⟨rfl,.inl ⟨rfl,rfl,rfl⟩⟩) ?_)
 ·rintro i ⟨r,lo⟩ st1 _ hi ⟨rfl,hI⟩
  dsimp only at hI ⊢
  rcases hI with ⟨rfl,rfl,rfl⟩ | ⟨hge,hD⟩
  ·rw[lJb (by omega)]
   have B0:SB κ (arrOf st1) 0 (arrOf st1).size (pendingOf st1) st1:=⟨hk,hf,rfl,Array.Perm.refl _,fun _ _=>rfl⟩
   refine lJm (kUj H hm B0 (by omega) (by omega) (lJe _) fun n st2 B2 n1 n2 S2=> ?_)
   dsimp only
   by_cases cm:n<minRun' (arrOf st1).size (arrOf st1).size 0
   ·rw[lJa cm]
    (refine lJm (wpS_lift (lVf ⟨rfl,?_⟩)))
    have hq1:min ((arrOf st1).size-0) (minRun' (arrOf st1).size (arrOf st1).size 0)=(arrOf st1).size:=by rw[hmr];omega
    rw[hq1]
    refine lJm (kJ7 H hm B2 n1 (by omega) (by omega) (lJe _) S2 fun st3 B3 S3=> ?_)
    rw[lJb (by decide)]
    refine lJm (wpS_get ?_)
    have hpe:pendingOf st3= #[]:=B3.pend.trans hp
    cases hb:(pendingOf st3).back? with
    | none=>exact wpS_bind (wpS_modify (wpS_pure ⟨rfl,.inr ⟨by dsimp only;omega,fin _ B3 S3 (by rw[hpe];simp)⟩⟩))
    | some x=>rw[hpe] at hb;simp at hb
   ·rw[lJb cm]
    rw[hmr] at cm
    have hn:n=(arrOf st1).size:=by omega
    subst hn
    refine lJm (wpS_get ?_)
    have hpe:pendingOf st2= #[]:=B2.pend.trans hp
    cases hb:(pendingOf st2).back? with
    | none=>exact wpS_bind (wpS_modify (wpS_pure ⟨rfl,.inr ⟨by dsimp only;omega,fin _ B2 S2 (by rw[hpe];simp)⟩⟩))
    | some x=>rw[hpe] at hb;simp at hb
  ·rw[lJa (by omega)]
   exact lJy ⟨rfl,hge,hD⟩
 ·rintro⟨r,lo⟩ st1 ⟨rfl,hI⟩
  refine⟨rfl,?_⟩
  rcases hI with ⟨z,_⟩ | hI
  ·rw[Nat.zero_max] at z;omega
  ·exact hI
 ·rintro⟨r,lo⟩ st1 ⟨rfl,hl,hD⟩
  dsimp only at hl ⊢
  refine lJm (wpS_mono (lQq (I:=fun _ (c:Option Unit×Unit) st'=>c=(none,())/\Done le st st') (Q:=fun (c:Option Unit×Unit) st'=>c=(none,())/\Done le st st') ?_ (fun _ _ z=>z) ⟨rfl,hD⟩) ?_)
  ·rintro i c st2 _ hi ⟨rfl,hD2⟩
   refine lJm (wpS_get ?_)
   rw[lJa hD2.2.2.2]
   exact lJy ⟨rfl,hD2⟩
  ·rintro c st2 ⟨rfl,hD2⟩
   dsimp only
   exact lJy (q st2 hD2.1 hD2.2.1 hD2.2.2.1)
end
end L3
namespace L3
open PySem PySem.Spec PyProof.Rows L2 PySem.W
abbrev K3:=Key ⊕ List K2
def vk3 (prog:Program) (w:World):KeyV prog w K3 6:=qJ7 (vk2 prog w)
def pk (e:Int×TKey):List K3:=[.inl (.inl e.1),.inr e.2]
theorem kYn {x y:Int×TKey} (h:pk x=pk y):x=y:=by
 obtain⟨a,b⟩:=x
 obtain⟨c,d⟩:=y
 unfold pk at h
 dsimp only at h
 cases h;rfl
def ltP (x y:Int×TKey):Option Bool:=lexLt (ltS (ltS (ltS ltI))) (pk x) (pk y)
theorem kordP:KOrd (lexLt (ltS (ltS (ltS ltI)))):=kJw (jV2 (jV2 (jV2 kord_I)))
theorem qUj (x y:Int×TKey):ltP x y=if x.1=y.1 then (if x.2=y.2 then some false else ltK x.2 y.2) else some (decide (x.1<y.1)):=by
 obtain⟨a,b⟩:=x
 obtain⟨c,d⟩:=y
 unfold ltP pk
 dsimp only
 unfold lexLt
 by_cases h:a=c
 ·subst h
  rw[lJa rfl,lJa rfl]
  unfold lexLt
  by_cases h2:b=d
  ·subst h2
   rw[lJa rfl,lJa rfl];rfl
  ·rw[lJb (fun z=>h2 (Sum.inr.inj z)),lJb h2];rfl
 ·rw[lJb (fun z=>h (Sum.inl.inj (Sum.inl.inj z))),lJb h];rfl
section
variable {prog:Program} {w:World} {A:Around} {E:Value->Shared->Prop} {s:Shared}
def PkAt (prog:Program) (w:World) (h:Heap) (e:Int×TKey) (p:Addr):Prop:=(jUl (vk3 prog w)).is h (pk e) (.ref p)
theorem PkAt.one {h:Heap} {x y:Int×TKey} {p:Addr} (a:PkAt prog w h x p) (b:PkAt prog w h y p):x=y:=kYn ((jUl (vk3 prog w)).inj a b)
theorem PkAt.shape {h:Heap} {x:Int×TKey} {p:Addr} (a:PkAt prog w h x p):∃(o:Obj) (its:Array Value) (n:Nat) (t:Tok) (v:Value),h.get? p=some o/\o.cls= .type "tuple"/\o.data= .seq its n/\its.toList=[.int x.1 t,v]/\(vk3 prog w).is h (.inl (.inl x.1)) (.int x.1 t)/\(vk3 prog w).is h (.inr x.2) v:=by
 obtain⟨p1,o1,its1,n1,e1,ho1,hc1,hd1,hi1⟩:=(show kVq _ _ _ _ from a)
 cases e1
 generalize hits:its1.toList=its at hi1
 unfold pk at hi1
 cases hi1 with
 | @cons _ v _ vs hv ht=>
  cases ht with
  | @cons _ v2 _ vs2 hv2 ht2=>
   cases ht2
   rcases jJv (show jXq (.inl x.1) v=true from hv) with ⟨i,tk,e,rfl⟩ | ⟨i,tk,e,rfl⟩
   ·cases e
    exact⟨o1,its1,n1,tk,v2,ho1,hc1,hd1,hits,hv,hv2⟩
   ·cases e
theorem askP {x y:Int×TKey} {p q:Addr} {c:Bool} {Q:Bool->Shared->Prop} (hu:A.units+10<cLine) (h1:PkAt prog w s.heap x p) (h2:PkAt prog w s.heap y q) (hl:ltP x y=some c) (hq:Q c s):wpAny (model prog w) A (keyLt' (tuples' true) (.ref p) (.ref q)) Q E s:=by
 obtain⟨o1,its1,n1,t1,v1,ho1,hc1,hd1,e1,a1,b1⟩:=h1.shape
 obtain⟨o2,its2,n2,t2,v2,ho2,hc2,hd2,e2,a2,b2⟩:=h2.shape
 refine kat_lt ho1 hd1 ho2 hd2 ?_
 have z1:its1.size=2:=by rw[<-lQs,e1];rfl
 have z2:its2.size=2:=by rw[<-lQs,e2];rfl
 rw[e1,e2,z1,z2]
 refine kat_cons (((vk3 prog w).eqAt (by omega) a1 a2) prog w _ _ ?_)
 rw[qUj] at hl
 by_cases h:x.1=y.1
 ·rw[lJa h] at hl
  rw[lJs (lKl (fun z:Int=>(Sum.inl (Sum.inl z):K3)) h)]
  refine kat_yes (kat_cons (((vk3 prog w).eqAt (by omega) b1 b2) prog w _ _ ?_))
  by_cases h2:x.2=y.2
  ·rw[lJa h2] at hl
   cases hl
   rw[lJs (lKl (fun z:TKey=>(Sum.inr z:K3)) h2)]
   exact kat_yes (kat_nil hq)
  ·rw[lJb h2] at hl
   rw[lJu (fun z=>h2 (Sum.inr.inj z))]
   refine kat_no (kat_one _ _ (kY1 (V:=vk2 prog w) (kY1 (kY1 kY2)) (by omega) b1 b2 (show ltS (ltS (ltS ltI)) (.inr x.2) (.inr y.2)=some c from hl) hq))
 ·rw[lJb h] at hl
  cases hl
  rw[lJu (fun z=>h (Sum.inl.inj (Sum.inl.inj z)))]
  exact kat_no (oneLt_int hq)
theorem jZu:∀(es:List ((Int×TKey)×Addr×Addr)),(∀e,e∈es->PkAt prog w s.heap e.1 e.2.1)->∃fs,KatTups s.heap (es.map fun e=> .ref e.2.1) fs/\fs.length=es.length/\∀v,v∈fs->Looks (model prog w) s.heap (typeOf v) (.type "int")
 | [],_=>⟨[],.nil,rfl,fun v hv=>absurd hv (lJv)⟩
 | (k,a,b)::es,h=>by
  obtain⟨fs,t,l,hf⟩:=jZu es fun e he=>h e (lJ3 _ he)
  obtain⟨o1,its1,n1,t1,v1,ho1,hc1,hd1,e1,a1,b1⟩:=(h (k,a,b) (lJ7 ..)).shape
  refine⟨.int k.1 t1::fs,.cons ho1 hc1 hd1 (by rw[<-Array.getElem?_toList,e1];rfl) t,by simp[l],fun x hx=> ?_⟩
  rcases (lJj.mp hx) with rfl | hx
  ·exact Looks.of_pure rfl
  ·exact hf x hx
theorem kindP {es:List ((Int×TKey)×Addr×Addr)} (h:∀e,e∈es->PkAt prog w s.heap e.1 e.2.1) (hne:0<es.length) {Q:SortKind->Shared->Prop} (hq:Q (tuples' true) s):wpAny (model prog w) A (keyKind' (List.toArray (es.map fun e=>Value.ref e.2.1))) Q E s:=by
 obtain⟨fs,t,l,hf⟩:=jZu es h
 refine kat_kind (T:= .type "int") t (by omega) hf (by decide) ?_
 rw[show (Value.type "int" != Value.type "tuple")=true by decide]
 exact hq
theorem kX4 {a kS e e1:Nat} {es:List ((Int×TKey)×Addr×Addr)} (ho:s.heap.get? a=some (seqObj "list" #[] e1)) (hk:s.heap.get? kS=some (seqObj "list" (List.toArray (es.map fun x=>Value.ref x.2.1)) e)) (hne:kS≠a) (hu:A.units+10<cLine)
  (h:∀e,e∈es->PkAt prog w s.heap e.1 e.2.1) (hlt:∀e,e∈es->∀e',e'∈es->(ltP e.1 e'.1).isSome=true) (h64:es.length<64) {P:PySem.Fin->Shared->Prop}
  (k:∀(es':List ((Int×TKey)×Addr×Addr)) (h':Heap) (c:Nat),es'.Perm es->es'.Pairwise (fun x y=>ltP y.1 x.1≠some true)->h'.get? a=some (seqObj "list" (List.toArray (es'.map fun e=>Value.ref e.2.2)) c)->(∀p o,p≠a->p≠kS->s.heap.get? p=some o->h'.get? p=some o)->P (.done (.ret .none)) {s with heap:=h'}):
  wpAny (model prog w) A (ksk_end a false (List.toArray (es.map fun e=>Value.ref e.2.2)) e1 (.ref kS) (List.toArray (es.map fun e=>Value.ref e.2.1))) P E s:=by
 have hl1:(es.map fun e=>Value.ref e.2.1).length=es.length:=lJf ..
 have hl2:(es.map fun e=>Value.ref e.2.2).length=es.length:=lJf ..
 have fin:∀(out:List ((Int×TKey)×Addr×Addr)),out.Perm es->out.Pairwise (fun x y=>ltP y.1 x.1≠some true)->∀st':SortSt,(arrOf st').map (·.2)=List.toArray (out.map fun e=>Value.ref e.2.2)->failedOf st'=none->
   wpAny (model prog w) A (ksk_tail a false e1 (.ref kS) st') P E s:=by
  intro out hp hs st' hout hf
  have hol:out.length=es.length:=hp.length_eq
  unfold ksk_tail
  (try dsimp only)
  refine lJc (listUpdate_at hk rfl ?_ (by rw[lJk,hl1,lKo];omega) (lJq _))
  refine lJc (wpAny_letGo ?_)
  have na1:(s.heap.update kS (Obj.mapSeq fun _=>(#[]:Array Value))).get? a=some (seqObj "list" #[] e1):=(lQ8 _ _ _ _ (Ne.symm hne)).trans ho
  (refine lJc (seqEpoch_at na1 rfl ?_))
  rw[hout,hf]
  refine lJc (listUpdate_at na1 rfl ?_ (lJq _) (by simp only[lKx,lKk];rw[lJk,lJf,hol,lKo];omega))
  (simp only[bne_self_eq_false,lKx,lKk])
  refine lJd (k out _ _ hp hs (get?_update_seq na1 fun _=>List.toArray (out.map fun e=>Value.ref e.2.2)) fun p o hpa hpk e=>(lQ8 _ _ _ _ hpa).trans ((lQ8 _ _ _ _ hpk).trans e))
 have step:∀t:Sem PySem.Fin,wpAny (model prog w) A t P E s->wpAny (model prog w) A (if false=true then (do let _ <-rule "list.sort.reverse"; t) else t) P E s:=fun t ht=>by
  rw[lJb (by decide)];exact ht
 unfold ksk_end
 (try dsimp only)
 refine step _ ?_
 by_cases h2:(List.toArray (es.map fun e=>Value.ref e.2.2)).size<2
 ·rw[lJa h2,lJa h2]
  (simp only[lKx,lKk])
  refine lJc (lJd ?_)
  rw[StateT.run_pure]
  refine lJc (lJd ?_)
  refine fin es (.refl _) ?_ _ ?_ rfl
  ·rw[lJk,hl2] at h2
   match es,h2 with
   | [],_=>exact .nil
   | [_],_=>exact List.pairwise_singleton _ _
  ·apply Array.toList_inj.mp
   show (((List.toArray (es.map fun e=>Value.ref e.2.1)).zip (List.toArray (es.map fun e=>Value.ref e.2.2))).map (·.2)).toList=_
   rw[Array.toList_map,ksk_zip,List.map_snd_zip (by simp)]
 ·rw[lJb h2,lJb h2]
  (simp only[lKx,lKk])
  rw[lJk,hl2] at h2
  refine lJc (kindP h (by omega) ?_)
  let f:(Int×TKey)×Addr×Addr->Keyed:=fun e=>(Value.ref e.2.1,Value.ref e.2.2)
  let mem:Keyed->Prop:=fun x=>∃e,e∈es/\x=f e
  let le:Keyed->Keyed->Prop:=fun x y=>∀e e',e∈es->e'∈es->x=f e->y=f e'->ltP e'.1 e.1≠some true
  have one:∀e e',e∈es->e'∈es->f e=f e'->e.1=e'.1:=fun e e' he he' z=>by
   have z1:Value.ref e.2.1=Value.ref e'.2.1:=lKl Prod.fst z
   have z2:e.2.1=e'.2.1:=Value.ref.inj z1
   have a1:=h e he
   rw[z2] at a1
   exact a1.one (h e' he')
  have le_iff:∀e e',e∈es->e'∈es->(le (f e) (f e')↔ltP e'.1 e.1≠some true):=fun e e' he he'=>
   ⟨fun z=>z e e' he he' rfl rfl,fun z d d' hd hd' q q'=>by rw[<-one e d he hd q,<-one e' d' he' hd' q'];exact z⟩
  haveI:∀x y,Decidable (le x y):=fun x y=>Classical.propDecidable _
  have HA:Asks (model prog w) A s (tuples' true) mem le:=by
   refine⟨?_,?_,?_⟩
   ·rintro x y ⟨e,he,rfl⟩ ⟨e',he',rfl⟩ E' Q hQ
    obtain⟨c,hc⟩:=lKq.mp (hlt e he e' he')
    refine askP hu (h e he) (h e' he') hc ?_
    have:(!decide (le (f e') (f e)))=c:=by
     by_cases z:le (f e') (f e)
     ·rw[lJs z]
      have:=(le_iff e' e he' he).mp z
      rw[hc] at this
      cases c with
      | false=>rfl
      | true=>exact absurd rfl this
     ·rw[lJu z]
      cases c with
      | true=>rfl
      | false=>exact absurd ((le_iff e' e he' he).mpr (by rw[hc];simp)) z
    rw[this] at hQ
    exact hQ
   ·rintro x y ⟨e,he,rfl⟩ ⟨e',he',rfl⟩
    rw[le_iff e e' he he',le_iff e' e he' he]
    by_cases z:ltP e'.1 e.1=some true
    ·right
     intro z2
     have:=kKz (jV2 (jV2 (jV2 kord_I))) z z2
     rw[kU6] at this
     cases this
    ·exact .inl z
   ·rintro x y z ⟨e,he,rfl⟩ ⟨e',he',rfl⟩ ⟨d,hd,rfl⟩ h1' h2'
    rw[le_iff e e' he he'] at h1'
    rw[le_iff e' d he' hd] at h2'
    rw[le_iff e d he hd]
    intro q
    by_cases eqk:d.1=e'.1
    ·rw[eqk] at q;exact h1' q
    ·obtain⟨c,hc⟩:=lKq.mp (hlt d hd e' he')
     cases c with
     | true=>exact h2' hc
     | false=>
      have:=kordP.neg (fun z=>eqk (kYn z)) hc
      exact h1' (kKz (jV2 (jV2 (jV2 kord_I))) this q)
  have hz:((List.toArray (es.map fun e=>Value.ref e.2.1)).zip (List.toArray (es.map fun e=>Value.ref e.2.2))).toList=es.map f:=by
   rw[ksk_zip,List.zip_map']
  have key:wpS (model prog w) A E s sortRuns' (fun _ st'=>∃es':List ((Int×TKey)×Addr×Addr),es'.Perm es/\es'.Pairwise (fun x y=>ltP y.1 x.1≠some true)/\(arrOf st').map (·.2)=List.toArray (es'.map fun e=>Value.ref e.2.2)/\failedOf st'=none) (SortSt.mk' (tuples' true) ((List.toArray (es.map fun e=>Value.ref e.2.1)).zip (List.toArray (es.map fun e=>Value.ref e.2.2))) #[] 7 none):=by
   refine kKh HA (fun x hx=> ?_) rfl rfl rfl ?_ ?_ fun st' p1 p2 p3=> ?_
   ·have hx':x∈es.map f:=by rw[<-hz];exact hx
    obtain⟨e,he,rfl⟩:=lJi.mp hx'
    exact⟨e,he,rfl⟩
   ·show 1<=((List.toArray (es.map fun e=>Value.ref e.2.1)).zip (List.toArray (es.map fun e=>Value.ref e.2.2))).size
    rw[<-lQs,hz,lJf];omega
   ·show ((List.toArray (es.map fun e=>Value.ref e.2.1)).zip (List.toArray (es.map fun e=>Value.ref e.2.2))).size<64
    rw[<-lQs,hz,lJf];exact h64
   ·obtain⟨es',hp,he⟩:=jVj p1 es hz
    refine⟨es',hp,?_,?_,p3⟩
    ·rw[he,lQw] at p2
     exact p2.imp_of_mem fun ha hb z=>(le_iff _ _ (hp.mem_iff.mp ha) (hp.mem_iff.mp hb)).mp z
    ·apply Array.toList_inj.mp
     rw[Array.toList_map,he,lJ0]
     rfl
  unfold wpS at key
  refine lJc (lKn key ?_ fun _ _ x=>x)
  rintro⟨⟨⟩,st'⟩ s' ⟨rfl,es',hp,hs,har,hf⟩
  exact fin es' hp hs st' har hf
end
theorem qVu {CX:CXT} {P:Program} {w:World} {K:PySem.W.Frag} {mg:Str->Option Value} {base:Heap} {k:Nat} {f c':Addr} {name qual:Str} {params:Arguments} {body:Expr} {scope:Scope} {pm ct:Value} {oF:Obj}
  {N ps:List Str} (S:FnScope N ps scope) {A:Around} {outer:List Env} {s:Shared} {H:Hp} {args:Args} {us:List Value} {vs:List V} {Q:VK} {E:XK}
  (ho:s.heap.get? f=some oF) (hd:oF.data= .func (kla_fn name qual params body scope [] pm (.ref c') ct)) (hcd:s.heap.CodeRec (.ref c') qual) (hr:Room (k+1) A) (e0:Env0 P w K mg base A outer s H)
  (hb:BindsTo s (kla_fn name qual params body scope [] pm (.ref c') ct) args (ps.zip us)) (r:Vals vs us) (hl:vs.length=ps.length)
  (ht:∀s1,Inv (cxOf CX P w K mg base N qual scope f (.ref c') A outer s H E) [] (L2.start N vs) H s1->wpAny (model P w) (A.deeper (envOfC qual scope s.heap.objs.size f (.ref c'))) (eval body (envOfC qual scope s.heap.objs.size f (.ref c'))) (fun u s'=>∃(v:V) (σ':L2.St) (H':Hp),Inv (cxOf CX P w K mg base N qual scope f (.ref c') A outer s H E) [] σ' H' s'/\L2.RelV v u/\Q v H') (fun _ _=>False) s1):
  codeAny (model P w) A (.call (.ref f) args) (CR CX outer P w H s Q E) s:=by
 have lim:s.heap.NoLimit:=e0.mod.nolimit.keeps fun b o e=>(e0.bs b o e).1
 have hkind:∀y∈ps.zip us,scope.names.lookup y.1=some .local\/(scope.names.lookup y.1=some .cell/\((cellsFrom (s.heap.objs.size+1) scope.names []).lookup y.1).isSome=true):=fun ⟨n,v⟩ hy=>by
  rcases S.par n (List.of_mem_zip hy).1 with q | q
  ·exact .inl q
  ·exact .inr ⟨q,PySem.W.cellsFrom_some _ _ _ (.inl q)⟩
 refine kla_callFunE hr.depth ho hd S.co S.gen rfl hcd (hb _ _ _ _ ?_)
 refine wpAny_newFunctionEnv_cells S.kind hkind fun env he s1 x=> ?_
 subst he
 refine⟨lim.keeps x.toInCall.keep,kla_codeExpr ?_⟩
 have I:Inv (cxOf CX P w K mg base N qual scope f (.ref c') A outer s H E) [] (L2.start N vs) H s1:=kK2 S ⟨hr.hd,hr.gd⟩ e0 hl r x
 exact lKn (ht s1 I) (fun u s' ⟨v,σ',H',J,rv,q⟩=>⟨v,H',J.os,J.bare,J.base,J.hok,rv,q⟩) fun e s' hs=>hs.elim
theorem jY4 {base h h':Heap}:∀ {l:List Env},h.FunFrames base l->(∀b∈frs l,∀o,h.get? b=some o->∃sl,h'.get? b=some {o with slots:=sl})->h'.FunFrames base l
 | [],_,_=>trivial
 | env::r,⟨hk,⟨L,o,hf,hn,ho,hd⟩,hr⟩,k=>by
  obtain⟨sl,e⟩:=k L (by unfold frs;rw[lKu,hf];exact lJ7) o ho
  exact⟨hk,⟨L,_,hf,hn,e,hd⟩,jY4 hr fun b hb=>k b (by unfold frs;rw[lKu,hf];exact lJ3 _ hb)⟩
structure Way (P:Program) (w:World) (K:PySem.W.Frag) (mg:Str->Option Value) (base:Heap) (A:Around) (outer:List Env) (s0:Shared) (H0:Hp) (s:Shared) (H:Hp):Prop where
 e0:Env0 P w K mg base A outer s H
 un:Un (frs outer) [] H0 H s0.heap s.heap
 os:s.os=s0.os
section
variable {P:Program} {w:World} {K:PySem.W.Frag} {mg:Str->Option Value} {base:Heap} {A:Around} {outer:List Env} {s0 s:Shared} {H0 H:Hp} {z:Addr}
theorem Env0.frm {H:Hp} {s:Shared} (e:Env0 P w K mg base A outer s H) {b:Addr} (hb:b∈frs outer):base.get? b=none/\∃o,s.heap.get? b=some o/\H b=none:=by
 obtain⟨h1,o,ho,_⟩:=e.funs.mem hb
 exact⟨h1,o,ho,e.frf b hb⟩
theorem Way.step {h':Heap} {t':Nat} (W:Way P w K mg base A outer s0 H0 s H) (e00:Env0 P w K mg base A outer s0 H0) (hz:base.objs.size<=z) (hz2:∃o,s0.heap.get? z=some o) (xs:List Addr) (hx:∀x,x∈xs->s0.heap.objs.size<=x/\H x=none)
  (k:∀b o,b∉xs->s.heap.get? b=some o->h'.get? b=some o):Way P w K mg base A outer s0 H0 {s with heap:=h',toks:=t'} H:=by
 have old:∀b o,s0.heap.get? b=some o->b∉xs:=fun b o e q=>absurd (lJ6 (lJg e) (hx b q).1) (lKt _)
 have fr:∀b,b∈frs outer->b∉xs:=fun b hb=>by
  obtain⟨_,o,ho,_⟩:=Env0.frm e00 hb
  exact old b o ho
 refine⟨⟨W.e0.frames,W.e0.mod,fun b o e=>⟨k b o (old b o (e00.bs b o e).1) (W.e0.bs b o e).1,(W.e0.bs b o e).2⟩,?_,jY4 W.e0.funs fun b hb o ho=>⟨o.slots,k b o (fr b hb) ho⟩,W.e0.frf,fun a o e=> ?_,W.e0.bare⟩,⟨fun b o e n hb hx'=>k b o (old b o e) (W.un.keep b o e n hb hx'),fun b o e n hb hx'=> ?_,W.un.free,fun b o e hx'=> ?_,W.un.tups,W.un.frzs,W.un.tbls⟩,W.os⟩
 ·obtain⟨o,ho⟩:=hz2
  obtain⟨o',ho'⟩:=W.un.there z o ho (by simp)
  exact lKi hz (lVg (lJg (k z o' (old z o ho) ho')))
 ·refine (W.e0.hok a o e).stay (fun c u hc q=>k c u (fun q2=> ?_) q) (fun _ q=>q) fun _ _ q=>q
  have:=(hx c q2).2
  rcases hc with rfl | hc
  ·rw[e] at this;cases this
  ·rw[hc] at this;cases this
 ·obtain⟨sl,e1⟩:=W.un.slot b o e n hb hx'
  exact⟨sl,k b _ (old b o e) e1⟩
 ·obtain⟨o',e1⟩:=W.un.there b o e hx'
  exact⟨o',k b _ (old b o e) e1⟩
theorem Way.call {s':Shared} {Q:VK} {u:Value} (W:Way P w K mg base A outer s0 H0 s H) (hz:base.objs.size<=z) (hz2:∃o,s.heap.get? z=some o) (h:CE outer P w H s Q u s'):∃v H',Way P w K mg base A outer s0 H0 s' H'/\Un (frs outer) [] H H' s.heap s'.heap/\RelV v u/\Q v H':=by
 obtain⟨v,H',os,bare,un,hok,r,q⟩:=h
 refine⟨v,H',⟨⟨W.e0.frames,W.e0.mod,fun b o e=> ?_,?_,jY4 W.e0.funs fun b hb o ho=>un.slot b o ho (W.e0.frf b hb) hb (by simp),fun b hb=> ?_,hok,bare⟩,W.un.trans un,os.trans W.os⟩,un,r,q⟩
 ·obtain⟨h1,h2⟩:=W.e0.bs b o e
  have nf:b∉frs outer:=fun hb=>by
   obtain⟨h3,_⟩:=Env0.frm W.e0 hb
   rw[e] at h3;cases h3
  exact⟨un.keep b o h1 h2 nf (by simp),un.free b o h1 h2 (by simp)⟩
 ·obtain⟨o,ho⟩:=hz2
  obtain⟨o',ho'⟩:=un.there z o ho (by simp)
  exact lKi hz (lVg (lJg ho'))
 ·obtain⟨_,o,ho,hn⟩:=Env0.frm W.e0 hb
  exact un.free b o ho hn (by simp)
theorem Way.own {s':Shared} {H':Hp} (e00:Env0 P w K mg base A outer s0 H0) (un:Un (frs outer) [] H H' s.heap s'.heap) {b:Addr} {o:Obj} (hb:s0.heap.objs.size<=b) (e:s.heap.get? b=some o) (n:H b=none):s'.heap.get? b=some o/\H' b=none:=by
 have nf:b∉frs outer:=fun hf=>by
  obtain⟨_,o',ho',_⟩:=Env0.frm e00 hf
  exact absurd (lJ6 (lJg ho') hb) (lKt _)
 exact⟨un.keep b o e n nf (by simp),un.free b o e n (by simp)⟩
def KAt (H:Hp) (e:Int×TKey) (p:Addr):Prop:=∃b,H p=some (.tup [.int e.1,.ref b])/\TKeyAt H e.2 b
theorem KAt.mono {H H':Hp} {e:Int×TKey} {p:Addr} (a:KAt H e p) (t:∀b xs,H b=some (.tup xs)->H' b=some (.tup xs)):KAt H' e p:=let ⟨b,h1,h2⟩:=a;⟨b,t _ _ h1,h2.mono t⟩
theorem KAt.pk {e:Int×TKey} {p:Addr} {h:Heap} (a:KAt H e p) (ok:HOk P w H h):PkAt P w h e p:=by
 obtain⟨b,h1,h2⟩:=a
 obtain⟨_,its,hv,o,ho,hc,n,hd,_⟩:=(show [V.int e.1,V.ref b].length<=sizeLine/\∃its:List Value,Vals [V.int e.1,V.ref b] its/\TupD h p its.toArray from ok p _ h1)
 cases hv with
 | @cons _ u1 _ us r1 hv=>
  cases hv with
  | @cons _ u2 _ us2 r2 hv=>
   cases hv
   obtain⟨t,rfl⟩:=(show ∃t,u1=Value.int e.1 t from r1)
   cases (show u2=Value.ref b from r2)
   exact⟨p,o,_,n,rfl,ho,hc,hd,.cons (show jXq (.inl e.1) (.int e.1 t)=true by simp[jXq,Value.isInt]) (.cons (jY0 ok h2) .nil)⟩
end
theorem kZc {H:Hp}:∀ {its:List ((Int×TKey)×Addr)} {ps:List Addr},Paired (fun e p=>KAt H e.1 p) its ps->∃es:List ((Int×TKey)×Addr×Addr),es.map (fun e=>(e.1,e.2.2))=its/\es.map (·.2.1)=ps/\∀e,e∈es->KAt H e.1 e.2.1
 | [],[],.nil=>⟨[],rfl,rfl,fun e he=>absurd he lJv⟩
 | (k,a)::_,p::_,.cons r t=>by
  obtain⟨es,h1,h2,h3⟩:=kZc t
  refine⟨(k,p,a)::es,by rw[lJn,h1],by rw[lJn,h2],fun e he=> ?_⟩
  rcases (lJj.mp he) with rfl | he
  ·exact r
  ·exact h3 e he
section
variable {P:Program} {w:World} {K:PySem.W.Frag} {mg:Str->Option Value} {base:Heap} {A:Around} {outer:List Env} {s0:Shared} {H0:Hp} {z:Addr} {E:Value->Shared->Prop}
theorem qU4 {J:Hp->Prop} {a kS f e1 n0:Nat} (e00:Env0 P w K mg base A outer s0 H0) (hz:base.objs.size<=z) (hz2:∃o,s0.heap.get? z=some o) {its:List ((Int×TKey)×Addr)} (hu:A.units+10<cLine) (h64:its.length<64) (hlt:∀e,e∈its->∀e',e'∈its->(ltP e.1 e'.1).isSome=true)
  (hcall:∀(s:Shared) (H:Hp),Way P w K mg base A outer s0 H0 s H->J H->∀e,e∈its->∀Q:Value->Shared->Prop,(∀(p:Addr) (s':Shared) (H':Hp),Way P w K mg base A outer s0 H0 s' H'->Un (frs outer) [] H H' s.heap s'.heap->KAt H' e.1 p->J H'->Q (.ref p) s')->wpAny (model P w) A (call (.ref f) [.ref e.2]) Q (fun _ _=>False) s)
  {s:Shared} {H:Hp} (W:Way P w K mg base A outer s0 H0 s H) (ha:s0.heap.objs.size<=a) (hk0:s0.heap.objs.size<=kS) (hne:kS≠a) (ho:s.heap.get? a=some (seqObj "list" #[] e1)) (hk:s.heap.get? kS=some (seqObj "list" #[] n0)) (na:H a=none) (nk:H kS=none) (hJ:J H)
  {R:PySem.Fin->Shared->Prop}
  (k:∀(its':List ((Int×TKey)×Addr)) (s':Shared) (H':Hp) (c:Nat),Way P w K mg base A outer s0 H0 s' H'->J H'->its'.Perm its->its'.Pairwise (fun x y=>ltP y.1 x.1≠some true)->s'.heap.get? a=some (seqObj "list" (List.toArray (its'.map fun e=>Value.ref e.2)) c)->H' a=none->R (.done (.ret .none)) s'):
  wpAny (model P w) A (ksk_rest a (.ref f) false (List.toArray (its.map fun e=>Value.ref e.2)) e1 (.ref kS)) R E s:=by
 unfold ksk_rest
 refine lJc (lVf ?_)
 rw[List.forIn_toArray]
 refine lJc (ksk_fold (fun i s'=>∃(H':Hp) (ps:List Addr) (e:Nat),Way P w K mg base A outer s0 H0 s' H'/\J H'/\s'.heap.get? a=some (seqObj "list" #[] e1)/\s'.heap.get? kS=some (seqObj "list" (List.toArray (ps.map Value.ref)) e)/\H' a=none/\H' kS=none/\Paired (fun e p=>KAt H' e.1 p) (its.take i) ps) (its.map fun e=>Value.ref e.2) 0 s
  ⟨H,[],n0,W,hJ,ho,hk,na,nk,.nil⟩ ?step ?done)
 case step=>
  rintro j x s' hx ⟨H',ps,e,W',hJ',ho',hk',na',nk',pp⟩
  simp only[Nat.zero_add] at pp ⊢
  rw[lJx] at hx
  cases hit:its[j]? with
  | none=>rw[hit] at hx;cases hx
  | some it=>
  rw[hit] at hx
  cases hx
  have hj:j<its.length:=(lJh.mp hit).1
  have lps:ps.length=j:=by rw[<-pp.length,lKw];omega
  refine lJc (lVt (lKn (hcall s' H' W' hJ' it (lJz hit) (fun v s2=>∃p H2,v= .ref p/\Way P w K mg base A outer s0 H0 s2 H2/\Un (frs outer) [] H' H2 s'.heap s2.heap/\KAt H2 it.1 p/\J H2) fun p s2 H2 W2 un kt j2=>⟨p,H2,rfl,W2,un,kt,j2⟩) (fun v s2 he=> ?_) fun _ _ hF=>hF.elim))
  obtain⟨p,H2,rfl,W2,un,kt,hJ2⟩:=he
  (try dsimp only)
  obtain⟨oa,na2⟩:=Way.own e00 un ha ho' na'
  obtain⟨ok,nk2⟩:=Way.own e00 un hk0 hk' nk'
  obtain⟨c2,hc2⟩:∃c2,(s2.heap.update kS (Obj.mapSeq (·.push (.ref p)))).get? kS=some (seqObj "list" ((List.toArray (ps.map Value.ref)).push (.ref p)) c2):=⟨_,get?_update_seq ok (·.push (.ref p))⟩
  refine lJc (listUpdate_at ok rfl ?_ (by rw[lJk,lJf,lKo];omega) (by rw[Array.size_push,lJk,lJf,lKo];omega))
  refine lJd ⟨rfl,H2,ps++[p],c2,Way.step (t':=s2.toks) W2 e00 hz hz2 [kS] (fun x hx=>by rw[lJr.mp hx];exact⟨hk0,nk2⟩) (fun b o hb e=>(lQ8 _ _ _ _ (fun q=>hb (by rw[q];exact lJr.mpr rfl))).trans e),hJ2,(lQ8 _ _ _ _ (Ne.symm hne)).trans oa,?_,na2,nk2,?_⟩
  ·rw[hc2];simp
  ·rw[List.take_add_one,hit]
   exact PySem.Paired.snoc (L2.Paired.mapP pp fun _ _ z=>z.mono un.tups) kt
 case done=>
  rintro s' ⟨H',ps,e,W',hJ',ho',hk',na',nk',pp⟩
  rw[show its.take (0+(its.map fun e=>Value.ref e.2).length)=its from lK3 (by simp)] at pp
  obtain⟨es,h1,h2,h3⟩:=kZc pp
  (try dsimp only)
  (refine lJc (listItems_at hk' rfl ?_))
  have m1:(its.map fun e=>Value.ref e.2)=es.map fun e=>Value.ref e.2.2:=by rw[<-h1,lJ0];rfl
  have m2:ps.map Value.ref=es.map fun e=>Value.ref e.2.1:=by rw[<-h2,lJ0];rfl
  have le:es.length=its.length:=by rw[<-h1,lJf]
  have mem:∀e,e∈es->(e.1,e.2.2)∈its:=fun e he=>by rw[<-h1];exact lJi.mpr ⟨e,he,rfl⟩
  rw[m2] at hk'
  rw[m1,m2]
  refine kX4 ho' hk' hne hu (fun e he=>(h3 e he).pk W'.e0.hok) (fun e he e' he'=>hlt _ (mem e he) _ (mem e' he')) (by omega) fun es' h' c pe so hD oth=> ?_
  refine k (es'.map fun e=>(e.1,e.2.2)) _ H' c (Way.step (t':=s'.toks) W' e00 hz hz2 [a,kS] (fun x hx=> ?_) fun b o hb e=>oth b o (fun q=>hb (by rw[q];simp)) (fun q=>hb (by rw[q];simp)) e) hJ' (by rw[<-h1];exact pe.map _) (by rw[lQw];exact so) (by rw[lJ0];exact hD) na'
  rcases (lJj.mp hx) with rfl | hx
  ·exact⟨ha,na'⟩
  ·rw[lJr.mp hx];exact⟨hk0,nk'⟩
theorem kVv {J:Hp->Prop} {l f:Addr} {its:List ((Int×TKey)×Addr)} (hl:s0.heap.IsList l (List.toArray (its.map fun e=>Value.ref e.2))) (e00:Env0 P w K mg base A outer s0 H0) (hz:base.objs.size<=z) (hz2:∃o,s0.heap.get? z=some o) (hu:A.units+20<cLine) (h64:its.length<64) (hlt:∀e,e∈its->∀e',e'∈its->(ltP e.1 e'.1).isSome=true)
  (hcall:∀(s:Shared) (H:Hp),Way P w K mg base A.in1.in1 outer s0 H0 s H->J H->∀e,e∈its->∀Q:Value->Shared->Prop,(∀(p:Addr) (s':Shared) (H':Hp),Way P w K mg base A.in1.in1 outer s0 H0 s' H'->Un (frs outer) [] H H' s.heap s'.heap->KAt H' e.1 p->J H'->Q (.ref p) s')->wpAny (model P w) A.in1.in1 (call (.ref f) [.ref e.2]) Q (fun _ _=>False) s)
  (hJ:J H0) {Q:Value->Shared->Prop} (k:∀(its':List ((Int×TKey)×Addr)) (s':Shared) (H':Hp) (D c:Nat),Way P w K mg base A.in1.in1 outer s0 H0 s' H'->J H'->its'.Perm its->its'.Pairwise (fun x y=>ltP y.1 x.1≠some true)->s0.heap.objs.size<=D->s'.heap.get? D=some (seqObj "list" (List.toArray (its'.map fun e=>Value.ref e.2)) c)->H' D=none->Q (.ref D) s'):
  wpAny (model P w) A (call (.builtin "sorted") [.ref l] [(Str.ofString "key",.ref f)]) Q E s0:=by
 have e01:Env0 P w K mg base A.in1.in1 outer s0 H0:=e00.in1.in1
 have W0:Way P w K mg base A.in1.in1 outer s0 H0 s0 H0:=⟨e01,.refl,rfl⟩
 refine call_function_entry_kw kind_sorted plain_sorted entry_sorted (ksk_s1 _ _) ?_
 unfold Builtin.«sorted»
 (refine lJc (m:=checkCount "sorted" 1 1 _) (lJd ?_))
 refine lJc (collect_list hl ?_ (by rw[lJf,lKo];omega))
 have kp:∀p o,s0.heap.get? p=some o->((s0.heap.push (seqObj "list" #[] 0)).update s0.heap.objs.size (Obj.mapSeq (· ++(its.map fun e=>Value.ref e.2).toArray))).get? p=some o:=fun p o e=>
  (lQ8 _ _ _ _ (lJw (lJg e))).trans (lJo _ e)
 have big:s0.heap.objs.size<=((s0.heap.push (seqObj "list" #[] 0)).update s0.heap.objs.size (Obj.mapSeq (· ++(its.map fun e=>Value.ref e.2).toArray))).objs.size:=by
  rw[Heap.size_update,size_push'];omega
 generalize (s0.heap.push (seqObj "list" #[] 0)).update s0.heap.objs.size (Obj.mapSeq (· ++(its.map fun e=>Value.ref e.2).toArray))=g at kp big ⊢
 have lenI:(its.map fun e=>Value.ref e.2).length=its.length:=lJf ..
 refine lJc (wpAny_newList ?_ (by rw[lenI,lKo];omega))
 have hoL:(g.push (seqObj "list" (List.toArray (its.map fun e=>Value.ref e.2)) 0)).get? g.objs.size=some (seqObj "list" (List.toArray (its.map fun e=>Value.ref e.2)) 0):=lJ5 _ rfl
 refine lJc (lQg (wpAny_call_entry_kw slot_list_sort ⟨_,hoL,rfl⟩ entry_list_sort ?_ (ksk_l1 _ _)))
 rw[ksk_t1]
 generalize hg:g.push (seqObj "list" (List.toArray (its.map fun e=>Value.ref e.2)) 0)=h1 at hoL ⊢
 have kp1:∀p o,s0.heap.get? p=some o->h1.get? p=some o:=fun p o e=>by rw[<-hg];exact lJo _ (kp p o e)
 generalize ga:g.objs.size=a at hoL big ⊢
 unfold ksk_tree
 refine lJc (listItems_at (s:={s0 with heap:=h1}) hoL rfl ?_)
 refine lJc (listUpdate_at (s:={s0 with heap:=h1}) hoL rfl ?_ (by rw[lJk,lenI,lKo];omega) (lJq _))
 obtain⟨e1,ho1⟩:∃e1,(h1.update a (Obj.mapSeq fun _=>(#[]:Array Value))).get? a=some (seqObj "list" #[] e1):=⟨_,get?_update_seq hoL fun _=> #[]⟩
 (refine lJc (seqEpoch_at ho1 rfl ?_))
 refine lJc (wpAny_newTuple ?_ (by show (its.map fun e=>Value.ref e.2).length<=_;rw[lenI,lKo];omega))
 (refine lJc (wpAny_newList ?_ (lJq _)))
 refine lQg ?_
 have hz1:(h1.update a (Obj.mapSeq fun _=>(#[]:Array Value))).objs.size=h1.objs.size:=Heap.size_update ..
 have lt1:a<h1.objs.size:=lJg hoL
 generalize hh2:(h1.update a (Obj.mapSeq fun _=>(#[]:Array Value))).push (seqObj "tuple" (List.toArray (its.map fun e=>Value.ref e.2)) 0)=h2
 have sz2:h2.objs.size=h1.objs.size+1:=by rw[<-hh2,size_push',hz1]
 have kp2:∀p o,p∉[a]->h1.get? p=some o->(h2.push (seqObj "list" #[] 0)).get? p=some o:=fun p o hp e=>by
  rw[<-hh2]
  exact lJo _ (lJo _ ((lQ8 _ _ _ _ fun q=>hp (by rw[q];exact lJr.mpr rfl)).trans e))
 have ho2:(h2.push (seqObj "list" #[] 0)).get? a=some (seqObj "list" #[] e1):=by
  rw[<-hh2]
  exact lJo _ (lJo _ ho1)
 have na:H0 a=none:=e00.hok.fresh big
 have W1:Way P w K mg base A.in1.in1 outer s0 H0 {s0 with heap:=h1} H0:=Way.step (t':=s0.toks) W0 e01 hz hz2 [] (fun x hx=>absurd hx lJv) fun b o _ e=>kp1 b o e
 have W2:Way P w K mg base A.in1.in1 outer s0 H0 {s0 with heap:=h2.push (seqObj "list" #[] 0)} H0:=Way.step (s:={s0 with heap:=h1}) (t':=s0.toks) W1 e01 hz hz2 [a] (fun x hx=>by rw[lJr.mp hx];exact⟨big,na⟩) fun b o hb e=>kp2 b o hb e
 refine qU4 (s:={s0 with heap:=h2.push (seqObj "list" #[] 0)}) (kS:=h2.objs.size) e01 hz hz2 (by rw[lQ3,lQ3];omega) h64 hlt hcall W2 big (by rw[sz2];omega) (by rw[sz2];omega) ho2 (lJ5 _ rfl) na (e00.hok.fresh (by rw[sz2];omega)) hJ fun its' s' H' c W' j' pe so hD nD=> ?_
 exact⟨_,rfl,lJd ⟨_,rfl,k its' s' H' a c W' j' pe so big hD nD⟩⟩
end
class BuB (base:Heap) (mg:Str->Option Value):Prop where
 ex:∃bm o,mg "__builtins__"=some (.ref bm)/\bm≠builtinsNs/\bm≠mainGlobals/\base.get? bm=some o/\o.cls= .type "module"/\o.dict=some builtinsNs/\o.data= .plain
def LCode (H:Hp) (c':Addr) (q:Str):Prop:=∃(oc:Obj) (u:HO) (vs:Array Value) (tq:Tok),H c'=some (.frz oc u)/\oc.data= .fields vs/\vs[1]? =some (.str q tq)
theorem LCode.rec' {P:Program} {w:World} {H:Hp} {h:Heap} {c':Addr} {q:Str} (l:LCode H c' q) (ok:HOk P w H h):h.CodeRec (.ref c') q:=by
 obtain⟨oc,u,vs,tq,h1,h2,h3⟩:=l
 exact⟨c',oc,vs,tq,rfl,(ok c' _ h1).1,h2,h3⟩
section
variable {X:Cx} {pins:List (Addr×Obj)} {σ:L2.St} {H:Hp} {G:Gp} {s:Shared}
theorem mk_lam {E:Value->Shared->Prop} {Pt c:Addr} {ln cl:Nat} {params:Arguments} {body:Expr} {scope:Scope} {pos:Pos} (I:Inv X pins σ H s) (hg:GRel X.K H G) (hcode:X.env.code= .ref c) (C:CodeHd X.base c Pt) (bu:BuB X.base X.mg)
  (hp:G Pt=some (.tb ln cl (X.env.qual++"<lambda>"))) (hcl:closureFor scope X.env=pure []) (hdef:defaultsOf params X.env=([],[])) (hln:pos.line=ln) (hcc:pos.col=cl) {Q:Value->Shared->Prop}
  (k:∀(f c':Addr) (pm ct:Value) (oF:Obj) (s':Shared) (H':Hp),Inv X pins σ H' s'->Ext H H'->GRel X.K H' G->s'.heap.get? f=some oF->oF.data= .func (kla_fn "<lambda>" (X.env.qual++"<lambda>") params body scope [] pm (.ref c') ct)->LCode H' c' (X.env.qual++"<lambda>")->H' f=none->s.heap.objs.size<=f->Q (.ref f) s'):
  wpAny (model X.prog X.w) X.A (eval (.Lambda params body scope pos) X.env) Q E s:=by
 subst hln;subst hcc
 obtain⟨ps,h1,h2⟩:=(show ∃ps,H Pt=some (.tbl ps)/\TbR H pos.line pos.col (X.env.qual++"<lambda>") ps from hg Pt _ hp)
 have hP:s.heap.get? Pt=some (tabObj ps):=I.hok Pt _ h1
 have CH:CodeHd s.heap c Pt:=C.keeps I.bk
 have hgs:s.heap.Ns mainGlobals X.mg:=I.mod.glob.keeps I.bk
 obtain⟨bm,ob,b1,b2,b3,b4,b5,b6,b7⟩:=bu.ex
 have hbm:=I.bs bm ob b4
 have hgP:mainGlobals≠Pt:=fun q=>by
  (obtain⟨o,es,ep,e,hd,_⟩:=hgs)
  rw[q,hP] at e;cases e;cases hd
 have hb:s.heap.BuiltinsAt X.mg Pt:=⟨bm,ob,b1,b2,b3,jQi h1 hbm.2 |>.symm,hbm.1,b5,b6,b7⟩
 refine kla_eval hdef ?_
 rcases h2 with rfl | ⟨c',t1,t2,tq,oc,u,vs,rfl,h3,h4,h5⟩
 ·refine kla_makeFunction hcl I.ok.glob hgs hcode CH hP (show TriplesOk [] from trivial) rfl hgP hb fun c' ctv h' tk hx hge hlt hrec htb=> ?_
  obtain⟨c2,oc,vs,tq,e2,hoc,hd,hv⟩:=hrec
  cases e2
  have fr:∀b,s.heap.objs.size<=b->H b=none:=fun b hb=>I.hok.fresh hb
  have szP:Pt<s.heap.objs.size:=lJg hP
  have cP:c'≠Pt:=fun q=>by rw[q] at hge;exact absurd szP (lQn.mpr hge)
  have sz':s.heap.objs.size<=h'.objs.size:=lKi hge (lVg hlt)
  have nP:∀ {b:Addr} {o:HO},H b=some o->(∀ps,o≠ .tbl ps)->b≠Pt:=fun {b o} e n q=>by rw[q,h1] at e;cases e;exact n _ rfl
  have nc:∀ {b:Addr} {o:HO},H b=some o->b≠c':=fun {b o} e q=>by rw[q,fr c' hge] at e;cases e
  have at_:∀ {b:Addr},b≠Pt->b≠c'->upd (upd H Pt (.tbl (#[]++ #[rawInt pos.line,rawInt pos.col,.ref c']))) c' (.frz oc (.ext fun h=>h.get? c'=some oc)) b=H b:=fun {b} n1 n2=>by rw[jJu n2,jJu n1]
  have tb_:upd (upd H Pt (.tbl (#[]++ #[rawInt pos.line,rawInt pos.col,.ref c']))) c' (.frz oc (.ext fun h=>h.get? c'=some oc)) Pt=some (.tbl (#[]++ #[rawInt pos.line,rawInt pos.col,.ref c'])):=by rw[jJu (Ne.symm cP),jJ6]
  have cc_:upd (upd H Pt (.tbl (#[]++ #[rawInt pos.line,rawInt pos.col,.ref c']))) c' (.frz oc (.ext fun h=>h.get? c'=some oc)) c'=some (.frz oc (.ext fun h=>h.get? c'=some oc)):=jJ6
  generalize hH':upd (upd H Pt (.tbl (#[]++ #[rawInt pos.line,rawInt pos.col,.ref c']))) c' (.frz oc (.ext fun h=>h.get? c'=some oc))=H' at at_ tb_ cc_
  have ext:Ext H H':=⟨fun b xs e=>by rw[at_ (nP e fun _ z=>nomatch z) (nc e)];exact e,fun b o u e=>by rw[at_ (nP e fun _ z=>nomatch z) (nc e)];exact e⟩
  have kp:∀(oF:Obj) b o,b≠Pt->s.heap.get? b=some o->(h'.push oF).get? b=some o:=fun oF b o hb e=>lJo _ (hx b o hb e)
  have un:∀oF:Obj,Un X.fs [] H H' s.heap (h'.push oF):=fun oF=>by
   have nn:∀ {b:Addr},H b=none->b≠Pt:=fun {b} e q=>by rw[q,h1] at e;cases e
   refine⟨fun b o e n _ _=>kp oF b o (nn n) e,fun b o e n _ _=>⟨o.slots,kp oF b o (nn n) e⟩,fun b o e n _=> ?_,fun b o e _=> ?_,ext.tup,ext.frz,fun b ps e=> ?_⟩
   ·rw[at_ (nn n) (fun q=>by rw[q] at e;exact absurd (lJg e) (lQn.mpr hge))];exact n
   ·by_cases q:b=Pt
    ·rw[q];exact⟨_,lJo _ htb⟩
    ·exact⟨o,kp oF b o q e⟩
   ·by_cases q:b=Pt
    ·rw[q] at e ⊢
     rw[h1] at e;cases e
     exact⟨_,tb_⟩
    ·exact⟨#[],by rw[at_ q (nc e),e];simp⟩
  have hok:∀oF:Obj,HOk X.prog X.w H' (h'.push oF):=fun oF a o e=>by
   by_cases q1:a=c'
   ·subst q1
    rw[cc_] at e;cases e
    exact⟨lJo _ hoc,lJo _ hoc,⟨oc,lJo _ hoc⟩,fun h1 h2 p k=>k oc p⟩
   ·by_cases q2:a=Pt
    ·subst q2
     rw[tb_] at e;cases e
     exact lJo _ htb
    ·rw[at_ q2 q1] at e
     refine (I.hok a o e).stay (fun b w hc q=> ?_) (fun b q=> ?_) fun b xs q=>ext.tup b xs q
     ·rcases hc with rfl | hc
      ·exact kp oF _ w q2 q
      ·exact kp oF _ w (nP hc fun _ z=>nomatch z) q
     ·rw[at_ (nP q fun _ z=>nomatch z) (nc q)];exact q
  have grel:GRel X.K H' G:=fun a o e=>by
   by_cases q:a=Pt
   ·subst q
    rw[hp] at e;cases e
    exact⟨_,tb_,.inr ⟨c',_,_,tq,oc,_,vs,rfl,cc_,hd,hv⟩⟩
   ·have z:=hg a o e
    cases hz:H a with
    | none=>exact absurd hz z.some
    | some u=>exact GOk.move z ext (at_ q (nc hz))
  have I2:=I.un (h':=h'.push (kla_obj "<lambda>" (X.env.qual++"<lambda>") params body scope [] ((X.mg "__name__").getD .none) c' ctv)) (t':=tk) (un _) (hok _)
  exact k h'.objs.size c' _ ctv _ _ H' I2 ext grel (lJ5 _ rfl) rfl ⟨oc,_,vs,tq,cc_,hd,hv⟩ (by
   rw[at_ (fun q=>by rw[<-q] at szP;exact absurd szP (lQn.mpr sz')) (lQa hlt)];exact fr _ sz') sz'
 ·refine kla_makeFunctionHit (cv:= .ref c') hcl I.ok.glob hgs hcode CH hP (show TriplesOk [Value.int pos.line t1,Value.int pos.col t2,.ref c'] from trivial) (by simp[codeAmong]) hb fun ctv h' tk hk hsz=> ?_
  exact k h'.objs.size c' _ ctv _ _ H (I.kept (h':=h'.push _) (t':=tk) fun b u e=>lJo _ (hk b u e)) (.refl H) hg (lJ5 _ rfl) rfl ⟨oc,u,vs,tq,h3,h4,h5⟩ (I.hok.fresh hsz) hsz
end
theorem qUa {K:PySem.W.Frag} {H:Hp}:∀ {tks:List (List T×TKey)} {vs:List V} {its:List Value},(∀e,e∈tks->jQ4 e.1=some e.2)->Reps K H (tks.map fun e=> .tup e.1) vs->Vals vs its->
  ∃tb:List ((List T×TKey)×Addr),tb.map (·.1)=tks/\vs=tb.map (fun e=> .ref e.2)/\its=tb.map (fun e=>Value.ref e.2)/\∀e,e∈tb->TKeyAt H e.1.2 e.2/\Rep K H (.tup e.1.1) (.ref e.2)
 | [],_,_,_,r,v=>by
  cases (show _=[] from r)
  cases v
  exact⟨[],rfl,rfl,rfl,fun e he=>absurd he (lJv)⟩
 | (ts,k)::tks,_,its,hk,⟨v,ws,e,r1,r2⟩,vv=>by
  subst e
  cases vv with
  | @cons _ u _ us hr hrs=>
  obtain⟨tb,h1,h2,h3,h4⟩:=qUa (fun e he=>hk e (lJ3 _ he)) r2 hrs
  obtain⟨a,vs',e,ha,hrep⟩:=(show ∃a vs',v= .ref a/\H a=some (.tup vs')/\Reps K H ts vs' from r1)
  subst e
  cases (show u=Value.ref a from hr)
  refine⟨((ts,k),a)::tb,by rw[lJn,h1],by rw[lJn,h2],by rw[lJn,h3],fun e he=> ?_⟩
  (rcases lJj.mp he with rfl | he)
  ·exact⟨jQ3 (hk _ (lJ7 ..)) ha hrep,r1⟩
  ·exact h4 e he
def kn (e:List T×TKey):Int×TKey:=((e.1.length:Nat),e.2)
def kVp (Pt:Addr) (ln cl:Nat) (q:Str) (Q:VK3) (x:T) (G1:Gp):Prop:=∃tks:List (List T×TKey),G1 Pt=some (.tb ln cl q)/\jK4 G1 x=some (tks.map fun e=> .tup e.1)/\tks.length<64/\(∀e,e∈tks->jQ4 e.1=some e.2)/\(∀e,e∈tks->∀e',e'∈tks->(ltP (kn e) (kn e')).isSome=true)/\
 ∀(p:Addr) (kys:List (List T×TKey)),G1 p=none->kys.Perm tks->kys.Pairwise (fun x y=>ltP (kn y) (kn x)≠some true)->Q (.ref p) (gup G1 p (.lst (kys.map fun e=> .tup e.1)))
def kKe (Pt:Addr) (ln cl:Nat) (q:Str) (te:TE3):TE3:=fun τ G Q=>te τ G (kVp Pt ln cl q Q)
def only1 (W:T->Gp->Prop):List T->Gp->Prop
 | [x],G=>W x G
 | _,_=>False
structure LamAt (X:Cx) (Pt:Addr):Prop where
 ex:∃c,X.env.code= .ref c/\codeHdIn X.K c Pt=true
 bu:BuB X.base X.mg
section
variable {X:Cx}
theorem kZy {Pt:Addr} {v:Str} {e:Expr} {te:TE3} {p pos kp lpos p1 p2 p3 p4 p5:Pos} {k0:Nat} {params:Arguments} {scope:Scope} (L:LamAt X Pt) (hx:PE3 X e te) (hr:Room 3 X.A) (S:FnScope [v] [v] scope) (hm:X.mg "sorted"=none) (hml:X.mg "len"=none)
  (hbind:∀(q:Str) (pm ct:Value) (c':Addr) (u:Value),bindArgs (kla_fn "<lambda>" q params (.Tuple [.Call (.Name "len" p1) [.Name v p2] [] p3,.Name v p4] k0 p5) scope [] pm (.ref c') ct) ⟨[u],[]⟩=pure [(v,u)])
  (hcl:closureFor scope X.env=pure []) (hdef:defaultsOf params X.env=([],[]))
  (hv:scope.names.lookup v=some .local:=by rfl) (hvl:scope.names.lookup ("len":Str)=some .globalImplicit:=by rfl) (hd1:(v == ("__debug__":Str))=false:=by decide) (hd2:(v == ("__classdict__":Str))=false:=by decide)
  (hg:Gl X "sorted":=by rfl) (he:starEach [e] X.env=[(false,eval e X.env)]:=by rfl):
  PE3 X (.Call (.Name "sorted" p) [e] [⟨some "key",.Lambda params (.Tuple [.Call (.Name "len" p1) [.Name v p2] [] p3,.Name v p4] k0 p5) scope lpos,kp⟩] pos) (kKe Pt lpos.line lpos.col (X.env.qual++"<lambda>") te):=by
 intro pins s τ G H Q I h
 obtain⟨c,hcode,C⟩:=L.ex
 obtain⟨σ0,I0,hs0,hg0⟩:=id I
 replace C:=codeHd_of_K I0.ok.mod.kin C
 refine lVd (jUk I0 hg hm rfl ?_ (by decide) (by decide))
 refine callWith_kw (thn (jJa hx jJd he pos pins s τ G H (only1 (kVp Pt lpos.line lpos.col (X.env.qual++"<lambda>") Q)) I h) fun us s1 w_=>w_.el fun xs G1 H1 e1 i_ r_ q=>i_.el fun σ1 I1 hs1 hg1=>r_.el fun as ras rvs=> ?_) (by rw[he];rfl) (by rw[he];rfl)
 obtain⟨x,rfl,tks,hP,hL,h64,hk,hlt,q⟩:∃x,xs=[x]/\kVp Pt lpos.line lpos.col (X.env.qual++"<lambda>") Q x G1:=by
  match xs,q with
  | [x],q=>exact⟨x,rfl,q⟩
 obtain⟨a,rfl,ra⟩:=jQo ras
 obtain⟨u,rfl,ru⟩:=rvs.one
 refine kws_cons (mk_lam I1 hg1 hcode C L.bu hP hcl hdef rfl rfl fun f c' pm ct oF s2 H2 I2 e2 hg2 hoF hdF lc nf szf=>kws_nil ?_)
 obtain⟨pa,vs,rfl,hq,r⟩:=jQd hg2 (ra.mono e2) hL
 cases (show u=Value.ref pa from ru)
 obtain⟨its,rvv,pl,hzz⟩:=I2.list hq
 obtain⟨tb,t1,t2,t3,t4⟩:=qUa hk r rvv
 have tl:tb.length=tks.length:=by rw[<-t1,lJf]
 have hmem:∀e,e∈tb->e.1∈tks:=fun e he=>by rw[<-t1];exact lJi.mpr ⟨e,he,rfl⟩
 have hl:s2.heap.IsList pa (List.toArray ((tb.map fun e=>(kn e.1,e.2)).map fun e=>Value.ref e.2)):=by
  have:=pl.isList
  rw[t3] at this
  rw[lJ0];exact this
 have bz:X.base.objs.size<=f:=lKi (lKi I1.ok.bsz I1.sz) szf
 have hun:X.A.units+20<cLine:=by have:=hr.un;omega
 show wpAny (model X.prog X.w) X.A (call (.builtin "sorted") [.ref pa] [(Str.ofString "key",.ref f)]) _ _ s2
 refine kVv (J:=fun H'=>GRel X.K H' G1) (z:=f) hl I2.env0 bz ⟨oF,hoF⟩ hun (by rw[lJf];omega) (fun e he e' he'=> ?_) (fun sA HA WA gA e he QA kA=> ?_) hg2 fun its' s3 H3 D cD W3 g3 pe so hD hoD nD=> ?_
 ·obtain⟨y,hy,rfl⟩:=lJi.mp he
  obtain⟨y',hy',rfl⟩:=lJi.mp he'
  exact hlt _ (hmem y hy) _ (hmem y' hy')
 ·obtain⟨y,hy,rfl⟩:=lJi.mp he
  have nfr:f∉frs X.stack:=fun hb=>by
   obtain⟨_,o,ho,_⟩:=Env0.frm I1.env0 hb
   exact absurd (lJ6 (lJg ho) szf) (lKt _)
  have hfA:=WA.un.keep f oF hoF nf nfr (by simp)
  have extA:Ext H2 HA:=⟨WA.un.tups,WA.un.frzs⟩
  have lcA:LCode HA c' (X.env.qual++"<lambda>"):=by
   obtain⟨oc,u,vs,tq,z1,z2,z3⟩:=lc
   exact⟨oc,u,vs,tq,WA.un.frzs _ _ _ z1,z2,z3⟩
  have rA:=(t4 y hy).2.mono extA
  refine wpAny_call (codeAny_mono (qVu (CX:=fun _ _ _ _ _ _=>False) (N:=[v]) (ps:=[v]) (us:=[.ref y.2]) (vs:=[V.ref y.2]) (E:=fun _ _ _=>False) (Q:=fun v' H'=>∃p,v'= .ref p/\KAt H' (kn y.1) p/\GRel X.K H' G1) S hfA hdF (lcA.rec' WA.e0.hok) hr.in1.in1 WA.e0 (.of_eq (hbind _ _ _ _ _)) (.cons rfl .nil) rfl fun s4 I4=> ?_) fun rr s5 hq5=> ?_)
  ·have I5:Inv3 (cxOf (fun _ _ _ _ _ _=>False) X.prog X.w X.K X.mg X.base [v] (X.env.qual++"<lambda>") scope f (.ref c') X.A.in1.in1 X.stack sA HA (fun _ _ _=>False)).nox [] (jKl [v] [.tup y.1.1]) G1 HA s4:=⟨_,I4.wish _,jVr ⟨_,_,rfl,rA,rfl⟩,gA⟩
   have lenK:y.1.1.length<=sizeLine:=by
    obtain⟨pb,ws,eb,hb,rb⟩:=(show ∃pb ws,V.ref y.2=V.ref pb/\HA pb=some (.tup ws)/\Reps X.K HA y.1.1 ws from rA)
    have:=(show ws.length<=sizeLine/\_ from WA.e0.hok pb _ hb).1
    rw[rb.length];exact this
   have body:=jJ2 (x1:=k0) (pos:=p5) (jJa (jJp (X:=(cxOf (fun _ _ _ _ _ _=>False) X.prog X.w X.K X.mg X.base [v] (X.env.qual++"<lambda>") scope f (.ref c') X.A.in1.in1 X.stack sA HA (fun _ _ _=>False)).nox) (x:="len") (p:=p1) (pos:=p3) jQg hvl hml lJt (jJa (jJb (x:=v) (pos:=p2) 0 rfl (Or.inl hv) hd1 hd2) jJd)) (jJa (jJb (x:=v) (pos:=p4) 0 rfl (Or.inl hv) hd1 hd2) jJd))
   refine lKn (body [] s4 _ _ HA (fun t G'=>t= .tup [.int (y.1.1.length:Nat),.tup y.1.1]/\G'=G1) I5 ⟨.tup y.1.1,rfl,.tup y.1.1,y.1.1,rfl,rfl,.tup y.1.1,rfl,by rw[lKo];show 2<=16777216;decide,rfl,rfl⟩) (fun u6 s6 z6=> ?_) fun _ _ z=>z
   obtain⟨t6,G6,H6,ex6,⟨σ6,I6,hs6,hg6⟩,⟨v6,rv6,ru6⟩,rfl,rfl⟩:=z6
   obtain⟨p6,ws,rfl,hp6,rs6⟩:=(show ∃p ws,v6= .ref p/\H6 p=some (.tup ws)/\Reps X.K H6 [.int (y.1.1.length:Nat),.tup y.1.1] ws from rv6)
   obtain⟨w1,ws1,rfl,rw1,rs7⟩:=rs6
   obtain⟨w2,ws2,rfl,rw2,rs8⟩:=rs7
   cases (show ws2=[] from rs8)
   cases (show w1=V.int (y.1.1.length:Nat) from rw1)
   obtain⟨pb,wb,rfl,hb,rb⟩:=(show ∃pb ws,w2=V.ref pb/\H6 pb=some (.tup ws)/\Reps X.K H6 y.1.1 ws from rw2)
   exact⟨.ref p6,σ6,H6,I6.unwish,ru6,p6,rfl,⟨pb,hp6,jQ3 (hk _ (hmem y hy)) hb rb⟩,hg6⟩
  ·cases rr with
   | error e=>exact hq5
   | ok fl=>
    cases fl with
    | next=>exact hq5
    | brk=>exact hq5
    | cont=>exact hq5
    | ret u5=>
     obtain⟨v5,H5,W5,un5,r5,p5',rfl,kt,g5⟩:=WA.call bz ⟨oF,hfA⟩ hq5
     cases (show u5=Value.ref p5' from r5)
     exact kA p5' s5 H5 W5 un5 kt g5
 ·obtain⟨tb',p1',p2'⟩:=jVj pe tb rfl
  have ext3:Ext H2 H3:=⟨W3.un.tups,W3.un.frzs⟩
  have e4:Ext H3 (upd H3 D (.lst (tb'.map fun e=>V.ref e.2))):= .upd (.none nD)
  have reps4:Reps X.K H3 (tb'.map fun e=> .tup e.1.1) (tb'.map fun e=>V.ref e.2):=kYa tb' fun e he=>((t4 e (p1'.mem_iff.mp he)).2).mono ext3
  have hokD:HOk X.prog X.w (upd H3 D (.lst (tb'.map fun e=>V.ref e.2))) s3.heap:=fun a o e=>by
   by_cases q:a=D
   ·subst q
    rw[jJ6] at e;cases e
    exact⟨by rw[lJf,lKo,p1'.length_eq];omega,tb'.map fun e=>Value.ref e.2,cD,jZp tb',by rw[p2',lJ0] at hoD;exact hoD⟩
   ·rw[jJu q] at e
    exact (W3.e0.hok a o e).stay (fun b w _ z=>z) (fun b z=>by rw[jJu (fun q2=>by rw[q2,nD] at z;cases z)];exact z) fun b xs z=>e4.tup b xs z
  have unD:Un (frs X.stack) [] H2 (upd H3 D (.lst (tb'.map fun e=>V.ref e.2))) s2.heap s3.heap:=by
   have neD:∀ {b:Addr} {o:Obj},s2.heap.get? b=some o->b≠D:=fun {b o} e q=>by rw[q] at e;exact absurd (lJg e) (lQn.mpr hD)
   refine⟨W3.un.keep,W3.un.slot,fun b o e n hx=>by rw[jJu (neD e)];exact W3.un.free b o e n hx,W3.un.there,fun b xs e=>e4.tup b xs (W3.un.tups b xs e),fun b o u e=>e4.frz b o u (W3.un.frzs b o u e),fun b ps e=> ?_⟩
   obtain⟨m,z⟩:=W3.un.tbls b ps e
   exact⟨m,by rw[jJu (fun q=>by rw[q,nD] at z;cases z)];exact z⟩
  have I4:=I2.call' (ch:=[]) W3.os unD hokD W3.e0.bare fun b z=>absurd z lJv
  refine⟨.ref D,gup G1 D (.lst (tb'.map fun e=> .tup e.1.1)),_,((e1.trans e2).trans ext3).trans e4,⟨_,I4,((((hs1.mono e2).mono ext3).mono e4)),g3.lstNew reps4 (.none nD)⟩,⟨.ref D,rfl,rfl⟩,?_⟩
  have:=q D (tb'.map (·.1)) (g3.fresh nD) (by rw[<-t1];exact p1'.map _) (by rw[p2',lQw] at so;rw[lQw];exact so)
  rw[lJ0] at this
  exact this
end
end L3
namespace L2
open PySem PySem.Spec PyProof.Rows PySem.W L3
def qQ0 (tabs:List (Addr×Addr)) (H:Hp):Prop:=∀b,H b=none\/(∃o xs,H b=some (.frz o (.lst xs)))\/(b∈tabs.map (·.2)/\H b=some (.tbl #[]))
theorem kKc {tabs:List (Addr×Addr)} {h:Heap} (hT:TabsAt tabs h) {b:Addr} (hb:b∈tabs.map (·.2)):h.get? b=some (tabObj #[])/\isCodeTable h b:=by
 (obtain⟨q,hq,rfl⟩:=lJi.mp hb)
 exact⟨(hT q hq).2,((hT q hq).1.tab (hT q hq).2).isCodeTable⟩
theorem kY6 {P:Program} {w:World} {K:PySem.W.Frag} {mg mb:Str->Option Value} {CX:CXT} {k:Nat} {fa a:Addr} {fd:FuncData} {x:Str} {sp:Sp} {s₁:Shared} {vs:List Value} {ns:List Int} {tabs:List (Addr×Addr)}
  (hT:TabsAt tabs s₁.heap) (hKT:∀b,b∈tabs.map (·.2)->K.lookup b=none)
  (KX:K.In s₁.heap) (hns:s₁.heap.Ns mainGlobals mg) (hb:s₁.heap.Ns builtinsNs mb) (hbb:∀x:Str,x≠"__name__"->mb x=bootBuiltins x) (hlim:s₁.heap.NoLimit) (hbu:BuB s₁.heap mg) (hg:s₁.gens= #[])
  (ha:s₁.heap.get? a=some {cls:= .type "list",data:= .seq vs.toArray}) (hi:IntsAre vs ns) (hl:ns.length<=sizeLine) (hr:Room k callerA)
  (F:∀base:Heap,K.In base->base.Ns mainGlobals mg->BuB base mg->FnOk P w K mg base CX k fa fd [x] sp) (hbind:∀(s:Shared) (u:Value),BindsTo s fd ⟨[u],[]⟩ [(x,u)])
  (hsp:∀H:Hp,qQ0 tabs H->(∀b,b∈tabs.map (·.2)->H b=some (.tbl #[]))->SqL K H a (ns.map V.int)->sp [.ref a] H (fun v _=>v= .bl true) fun _ _ _=>False)
  (hCX:∀H e s',CX [] H s₁ (fun _ _ _=>False) e s'->False):
  codeAny (model P w) callerA (.call (.ref fa) ⟨[.ref a],[]⟩) (fun r s'=>r= .ok (.ret (.bool true))/\OldK s₁.heap s'.heap/\s'.os=s₁.os/\AllBare s'.gens) s₁:=by
 have rv:=jQj hi
 have lenV:=hi.length
 have aT:a∉tabs.map (·.2):=fun q=>by
  have:=(kKc hT q).1
  rw[ha] at this;cases this
 have core:∀H:Hp,qQ0 tabs H->(∀b,b∈tabs.map (·.2)->H b=some (.tbl #[]))->SqL K H a (ns.map V.int)->HOk P w H s₁.heap->(∀b,H b≠none->b=a\/b∈tabs.map (·.2))->(H a≠none->K.lookup a=none)->
   codeAny (model P w) callerA (.call (.ref fa) ⟨[.ref a],[]⟩) (fun r s'=>r= .ok (.ret (.bool true))/\OldK s₁.heap s'.heap/\s'.os=s₁.os/\AllBare s'.gens) s₁:=by
  intro H hO hO2 hS hok hA hK
  have base_of:∀ {b:Addr} {o:Obj},s₁.heap.get? b=some o->H b=none->(hidT s₁.heap H).get? b=some o:=fun e n=>qQk e n
  have noA:∀ {b:Addr} {o:Obj} {es:Array DictEntry} {ep:Nat},s₁.heap.get? b=some o->o.data= .dict es ep->H b=none:=fun {b o es ep} e d=>by
   cases q:H b with
   | none=>rfl
   | some u=>
    rcases hA b (by rw[q];simp) with e' | e'
    ·subst e'
     rw[ha] at e;cases e
     have d':Data.seq vs.toArray _=Data.dict es ep:=d
     cases d'
    ·rw[(kKc hT e').1] at e;cases e
     have d':Data.fields #[]=Data.dict es ep:=d
     cases d'
  have nsK:∀ {b:Addr} {m:Str->Option Value},s₁.heap.Ns b m->(hidT s₁.heap H).Ns b m:=fun {b m} ⟨o,es,ep,e,d,r⟩=>⟨o,es,ep,base_of e (noA e d),d,r⟩
  have hKb:K.In (hidT s₁.heap H):=fun b o e=>base_of (KX b o e) (by
   cases q:H b with
   | none=>rfl
   | some u=>
    rcases hA b (by rw[q];simp) with e' | e'
    ·subst e'
     rw[hK (by rw[q];simp)] at e;cases e
    ·rw[hKT b e'] at e;cases e)
  have hBb:BuB (hidT s₁.heap H) mg:=by
   obtain⟨bm,o,b1,b2,b3,b4,b5,b6,b7⟩:=hbu.ex
   refine⟨bm,o,b1,b2,b3,base_of b4 ?_,b5,b6,b7⟩
   cases q:H bm with
   | none=>rfl
   | some u=>
    rcases hA bm (by rw[q];simp) with e' | e'
    ·subst e'
     rw[ha] at b4;cases b4
     have d':Data.seq vs.toArray _=Data.plain:=b7
     cases d'
    ·rw[(kKc hT e').1] at b4;cases b4
     have d':Data.fields #[]=Data.plain:=b7
     cases d'
  have hM:Mod K mg (hidT s₁.heap H):=⟨hKb,nsK hns,⟨mb,nsK hb,hbb⟩,let ⟨mc,h1,h2⟩:=hlim;⟨mc,nsK h1,h2⟩⟩
  have e0:Env0 P w K mg (hidT s₁.heap H) callerA [] s₁ H:=⟨rfl,hM,fun b o e=>qVh e,Nat.le_of_eq (kZn _ _),trivial,fun b hb=>absurd (show b∈([]:List Addr) from hb) (by simp),hok,.of_eq hg⟩
  refine codeAny_mono ((F _ hKb (nsK hns) hBb).run callerA [] s₁ H ⟨[.ref a],[]⟩ [.ref a] [.ref a] _ _ hr e0 (hbind s₁ (.ref a)) (.cons rfl .nil) (hsp H hO hO2 hS)) fun r s' h=> ?_
  cases r with
  | error e=>exact (hCX H e s' h).elim
  | ok fl=>
   cases fl with
   | next=>exact False.elim h
   | brk=>exact False.elim h
   | cont=>exact False.elim h
   | ret u=>
    obtain⟨v,H',os,bare,un,hok',r',q⟩:=h
    have q':v= .bl true:=q
    subst q'
    obtain rfl:u=Value.bool true:=r'
    refine⟨rfl,⟨fun b o e=> ?_,fun b o e=>un.there b o e (by simp)⟩,os,bare⟩
    cases q:H b with
    | none=>exact .inl (un.keep b o e q (by intro z;exact absurd (show b∈([]:List Addr) from z) (by simp)) (by simp))
    | some u=>
     rcases hO b with z | ⟨ob,xs,z⟩ | ⟨zm,z⟩
     ·rw[q] at z;cases z
     ·have z2:=un.frzs b ob _ z
      obtain⟨e1,_⟩:=hok b _ z
      obtain⟨e2,_⟩:=hok' b _ z2
      rw[e] at e1;cases e1
      exact .inl e2
     ·obtain⟨more,z2⟩:=un.tbls b _ z
      obtain⟨e1,ht⟩:=kKc hT zm
      have e2:s'.heap.get? b=some (tabObj (#[]++more)):=hok' b _ z2
      rw[e] at e1;cases e1
      exact .inr (.inl ⟨ht,rfl,#[],more,rfl,e2⟩)
 have tbok:∀(H:Hp) (b:Addr) (o:HO),H b=some o->b∈tabs.map (·.2)->o= .tbl #[]->ObjOk P w H s₁.heap b o:=fun H b o _ hm e=>by
  subst e
  exact (kKc hT hm).1
 haveI:∀b:Addr,Decidable (b∈tabs.map (·.2)):=fun b=>Classical.propDecidable _
 cases hk:K.lookup a with
 | some o=>
  have e:=KX a o hk
  rw[ha] at e
  cases e
  have at1:∀ {b:Addr},b∈tabs.map (·.2)->(fun b=>if b∈tabs.map (·.2) then some (HO.tbl #[]) else none:Hp) b=some (.tbl #[]):=fun hb=>lJa hb
  have at2:∀ {b:Addr},b∉tabs.map (·.2)->(fun b=>if b∈tabs.map (·.2) then some (HO.tbl #[]) else none:Hp) b=none:=fun hb=>lJb hb
  generalize (fun b=>if b∈tabs.map (·.2) then some (HO.tbl #[]) else none:Hp)=H at at1 at2
  refine core H (fun b=> ?_) (fun b hb=>at1 hb) (.inr ⟨_,vs.toArray,_,hk,rfl,rfl,rfl,by rw[lJk,lenV];exact hl,by simpa using rv⟩) (fun b u z=> ?_) (fun b z=> ?_) fun z=>absurd (at2 aT) z
  ·by_cases hb:b∈tabs.map (·.2)
   ·exact .inr (.inr ⟨hb,at1 hb⟩)
   ·exact .inl (at2 hb)
  ·by_cases hb:b∈tabs.map (·.2)
   ·rw[at1 hb] at z;cases z;exact tbok H b _ (at1 hb) hb rfl
   ·rw[at2 hb] at z;cases z
  ·by_cases hb:b∈tabs.map (·.2)
   ·exact .inr hb
   ·exact absurd (at2 hb) z
 | none=>
  have at1:∀ {b:Addr},b∈tabs.map (·.2)->(fun b=>if b∈tabs.map (·.2) then some (HO.tbl #[]) else if b=a then some (.frz {cls:= .type "list",data:= .seq vs.toArray} (.lst (ns.map V.int))) else none:Hp) b=some (.tbl #[]):=fun hb=>lJa hb
  have at2:∀ {b:Addr},b∉tabs.map (·.2)->b≠a->(fun b=>if b∈tabs.map (·.2) then some (HO.tbl #[]) else if b=a then some (.frz {cls:= .type "list",data:= .seq vs.toArray} (.lst (ns.map V.int))) else none:Hp) b=none:=fun hb hn=>(lJb hb).trans (lJb hn)
  have at3:(fun b=>if b∈tabs.map (·.2) then some (HO.tbl #[]) else if b=a then some (.frz {cls:= .type "list",data:= .seq vs.toArray} (.lst (ns.map V.int))) else none:Hp) a=some (.frz {cls:= .type "list",data:= .seq vs.toArray} (.lst (ns.map V.int))):=(lJb aT).trans (lJa rfl)
  generalize (fun b=>if b∈tabs.map (·.2) then some (HO.tbl #[]) else if b=a then some (.frz {cls:= .type "list",data:= .seq vs.toArray} (.lst (ns.map V.int))) else none:Hp)=H at at1 at2 at3
  refine core H (fun b=> ?_) (fun b hb=>at1 hb) (.inl (.inr ⟨{cls:= .type "list",data:= .seq vs.toArray},at3⟩)) (fun b u z=> ?_) (fun b z=> ?_) fun _=>hk
  ·by_cases hb:b∈tabs.map (·.2)
   ·exact .inr (.inr ⟨hb,at1 hb⟩)
   ·by_cases hn:b=a
    ·subst hn;exact .inr (.inl ⟨_,_,at3⟩)
    ·exact .inl (at2 hb hn)
  ·by_cases hb:b∈tabs.map (·.2)
   ·rw[at1 hb] at z;cases z;exact tbok H b _ (at1 hb) hb rfl
   ·by_cases hn:b=a
    ·subst hn
     rw[at3] at z;cases z
     exact⟨ha,by rw[lJf];exact hl,vs,_,rv,ha⟩
    ·rw[at2 hb hn] at z;cases z
  ·by_cases hb:b∈tabs.map (·.2)
   ·exact .inr hb
   ·by_cases hn:b=a
    ·exact .inl hn
    ·exact absurd (at2 hb hn) z
theorem walk_ofT (tabs:List (Addr×Addr)) {l:PySem.W.OpenLaw} {n k:Nat} {q:Program} {loose:List Str} {XP:(Str->Option Value)->Heap->Prop} {YP:World->Heap->Prop} {d:DefRec} {K:Params->PySem.W.Frag} {CX:World->CXT} {sp:World->Sp} {x:Str}
  (hn:l.most=some n) (hn2:n<=sizeLine) (hdf:d.params.defaults=[]) (hr:Room k callerA)
  (hY:∀(w:World) (h:Heap),YP w h->(K w.params).In h/\TabsAt tabs h) (hKT:∀(w:World) b,b∈tabs.map (·.2)->(K w.params).lookup b=none)
  (F:∀(w:World) (mg:Str->Option Value) (fa:Addr) (h:Heap),(K w.params).In h->h.Ns mainGlobals mg->mg d.name=some (.ref fa)->
   ∃fd:FuncData,(∀(s:Shared) (u:Value),BindsTo s fd ⟨[u],[]⟩ [(x,u)])/\
    ∀base:Heap,(K w.params).In base->base.Ns mainGlobals mg->BuB base mg->FnOk l.prog w (K w.params) mg base (CX w) k fa fd [x] (sp w))
  (hsp:∀(w:World) (H:Hp) (a:Addr) (ns:List Int),ns.length<=n->qQ0 tabs H->(∀b,b∈tabs.map (·.2)->H b=some (.tbl #[]))->SqL (K w.params) H a (ns.map V.int)->sp w [.ref a] H (fun v _=>v= .bl true) fun _ _ _=>False)
  (hCX:∀(w:World) (H:Hp) (s:Shared) (e:Value) (s':Shared),CX w [] H s (fun _ _ _=>False) e s'->False):
  PySem.W.WalkO q loose XP YP l.row.toRowW d [] (fun f vs=>PySem.call f vs):=by
 refine Att.attach_call hn hdf fun w s₀ s₁ mg mb fa o pm cd doc a vs ns G Y ho hd hcd hmg hobj hints hlen hg=> ?_
 obtain⟨KX,hT⟩:=hY w _ Y
 obtain⟨fd,hb,hF⟩:=F w mg fa _ KX G.T.g hmg
 have hbu:BuB s₁.heap mg:=by
  obtain⟨bm,ob,b1,b2,b3,b4,b5,b6⟩:=G.T.bmain
  refine⟨bm,ob,b1,b2,fun q=> ?_,b3,b4,b5,b6⟩
  obtain⟨o,es,ep,e,d,_⟩:=G.T.g
  rw[<-q,b3] at e;cases e
  rw[b6] at d;cases d
 exact kY6 hT (hKT w) KX G.T.g G.T.b G.T.builtins G.T.nolimit hbu hg hobj hints (lKi hlen hn2) hr hF hb (fun H hO hO2 hS=>hsp w H a ns hlen hO hO2 hS) fun H e s'=>hCX w H s₁ e s'
end L2
namespace L3
open PySem PySem.Spec PyProof.Rows L2 PySem.W
structure LamK (K:PySem.W.Frag) (mg:Str->Option Value) (x:Str) (Pt:Addr):Prop where
 ex:∃f o fd c,mg x=some (.ref f)/\K.lookup f=some o/\o.data= .func fd/\fd.code= .ref c/\codeHdIn K c Pt=true
theorem lam_at {K:PySem.W.Frag} {h:Heap} {mg:Str->Option Value} {x:Str} {f c Pt:Addr} {oc:Value} {od:Option Addr} {osl:Array (Option Value)} {fd:FuncData} (X:K.In h) (G:h.Ns mainGlobals mg) (a:PySem.W.nsIn K mainGlobals x=some (some (.ref f)))
  (l:K.lookup f=some ⟨oc,od,.func fd,osl⟩) (e:fd.code= .ref c) (d:codeHdIn K c Pt=true):LamK K mg x Pt:=⟨f,_,fd,c,lK8 X G a,l,rfl,e,d⟩
section
variable {P:Program} {w:World} {K:PySem.W.Frag} {mg:Str->Option Value} {base:Heap}
theorem kZ9 {x qual:Str} {Pt f:Addr} {oc:Value} {od:Option Addr} {fd:FuncData} {osl:Array (Option Value)} (L:LamK K mg x Pt) (hm:mg x=some (.ref f)) (lk:K.lookup f=some ⟨oc,od,.func fd,osl⟩):∃c,fd.code= .ref c/\codeHdIn K c Pt=true:=by
 obtain⟨f',o,fd',c,h1,h2,h3,h4,h5⟩:=L.ex
 rw[hm] at h1;cases h1
 rw[lk] at h2;cases h2
 cases h3
 exact⟨c,h4,h5⟩
theorem fn3L {x qual:Str} {st:Stmt} {Pt f:Addr} {fd:FuncData} {N ps:List Str} {k:Nat} {sp:Sp3} [B:BuB base mg] (L:LamK K mg x Pt) (hm:mg x=some (.ref f)) (F:Fun K x qual st f fd) (S:FnScope N ps (jJq st))
  (hbody:∀(cdv:Value) (A:Around) (outer:List Env) (s:Shared) (H:Hp) (E:XK),Room k (A.deeper (envOfC qual (jJq st) s.heap.objs.size f cdv))->LamAt (cxOf CX0 P w K mg base N qual (jJq st) f cdv A outer s H E).nox Pt->
   ∃t,PSs3 (cxOf CX0 P w K mg base N qual (jJq st) f cdv A outer s H E).nox (jKr st) t/\∀xs G Q,sp xs G Q->t {nx:=fun _ G'=>Q .non G',rt:=Q} (jKl N xs) G):Fn3 P w K mg base (k+1) f fd ps sp:=by
 obtain⟨oc,od,kV,doc,pm,an,cdv,ct,osl,rfl,lk,hcd⟩:=F.ex
 obtain⟨c,hc,hC⟩:=kZ9 (qual:=qual) L hm lk
 refine qV8 (sp:=dn K ps.length sp) lk hcd S (fun vs H Q E h=>h.1) fun A outer s H vs Q E hr hsp=> ?_
 obtain⟨t,ht,hq⟩:=hbody cdv A outer s H E hr ⟨⟨c,hc,hC⟩,B⟩
 obtain⟨hl,xs,G,rs,hg,hsp⟩:=hsp
 refine⟨fun D σ H1=>D.nx=(fun _ H'=>Q .non H')/\D.rt=Q/\σ=L2.start N vs/\H1=H,PSs.nox ?_,rfl,rfl,rfl,rfl⟩
 rintro pins s1 σ1 H1 D I ⟨e1,e2,e3,e4⟩
 subst e3;subst e4
 have I3:Inv3 (cxOf CX0 P w K mg base N qual (jJq st) f cdv A outer s H1 E).nox pins (jKl N xs) G H1 s1:=⟨_,I,jVr rs,hg⟩
 refine thn (ht pins s1 _ G H1 _ I3 (hq xs G _ hsp)) fun fl s2 z=> ?_
 cases fl with
 | next=>obtain⟨τ',G',H',e',⟨σ',I',a,b⟩,q⟩:=z;exact⟨σ',H',I',by rw[e1];exact q .non H' e' b rfl⟩
 | brk=>obtain⟨τ',G',H',e',_,q⟩:=z;exact q.elim
 | cont=>obtain⟨τ',G',H',e',_,q⟩:=z;exact q.elim
 | ret u=>obtain⟨x',τ',G',H',e',⟨σ',I',a,b⟩,⟨v,rv,ru⟩,q⟩:=z;exact⟨v,σ',H',I',ru,by rw[e2];exact q v H' e' b rv⟩
theorem fnXL {x qual:Str} {st:Stmt} {Pt f:Addr} {fd:FuncData} {N ps:List Str} {k:Nat} {sp:SpX} [B:BuB base mg] (L:LamK K mg x Pt) (hm:mg x=some (.ref f)) (F:Fun K x qual st f fd) (S:FnScope N ps (jJq st))
  (hbody:∀(cdv:Value) (A:Around) (outer:List Env) (s:Shared) (H:Hp) (E:XK) (R:XK3),Room k (A.deeper (envOfC qual (jJq st) s.heap.objs.size f cdv))->XR (cxOf (CXX P w) P w K mg base N qual (jJq st) f cdv A outer s H E) R->LamAt (cxOf (CXX P w) P w K mg base N qual (jJq st) f cdv A outer s H E) Pt->
   ∃t,PSs3 (cxOf (CXX P w) P w K mg base N qual (jJq st) f cdv A outer s H E) (jKr st) t/\∀xs G Q,sp xs G Q R->t {nx:=fun _ G'=>Q .non G',rt:=Q} (jKl N xs) G):FnX P w K mg base (k+1) f fd ps sp:=by
 obtain⟨oc,od,kV,doc,pm,an,cdv,ct,osl,rfl,lk,hcd⟩:=F.ex
 obtain⟨c,hc,hC⟩:=kZ9 (qual:=qual) L hm lk
 refine qV8 (sp:=dnX K ps.length sp) lk hcd S (fun vs H Q E h=>h.1) fun A outer s H vs Q E hr hsp=> ?_
 obtain⟨hl,xs,G,rs,hg,hsp⟩:=hsp
 have hXR:XR (cxOf (CXX P w) P w K mg base N qual (jJq st) f cdv A outer s H E) (fun cn G'=>∀e C H',Ext H H'->GRel K H' G'->CN K cn C->E e (some C) H'):=by
  refine⟨?_,?_,PassesOwn.leaving⟩
  ·intro pins σ H1 G1 s1 s' a C cn args I g1 hc hm ho hg' hR
   exact qK4 I rfl rfl rfl hm ho hg' fun B a0 h' l=>⟨a,C,B,a0,H1,rfl,l,hR (.ref a) C H1 ⟨I.base.tups,I.base.frzs⟩ g1 hc⟩
  ·intro pins σ H1 s1 s' a C cn B a0 H' G' I l g1 hc hR
   refine qVs I rfl rfl rfl l fun h' l'=>⟨a,C,B,a0,H',rfl,l',hR (.ref a) C H' ⟨l'.tups,l'.frzs⟩ g1 hc⟩
 obtain⟨t,ht,hq⟩:=hbody cdv A outer s H E _ hr hXR ⟨⟨c,hc,hC⟩,B⟩
 ·refine⟨fun D σ H1=>D.nx=(fun _ H'=>Q .non H')/\D.rt=Q/\σ=L2.start N vs/\H1=H,?_,rfl,rfl,rfl,rfl⟩
  rintro pins s1 σ1 H1 D I ⟨e1,e2,e3,e4⟩
  subst e3;subst e4
  have I3:Inv3 (cxOf (CXX P w) P w K mg base N qual (jJq st) f cdv A outer s H1 E) pins (jKl N xs) G H1 s1:=⟨_,I,jVr rs,hg⟩
  refine thn (ht pins s1 _ G H1 _ I3 (hq xs G _ hsp)) fun fl s2 z=> ?_
  cases fl with
  | next=>obtain⟨τ',G',H',e',⟨σ',I',a,b⟩,q⟩:=z;exact⟨σ',H',I',by rw[e1];exact q .non H' e' b rfl⟩
  | brk=>obtain⟨τ',G',H',e',_,q⟩:=z;exact q.elim
  | cont=>obtain⟨τ',G',H',e',_,q⟩:=z;exact q.elim
  | ret u=>obtain⟨x',τ',G',H',e',⟨σ',I',a,b⟩,⟨v,rv,ru⟩,q⟩:=z;exact⟨v,σ',H',I',ru,by rw[e2];exact q v H' e' b rv⟩
end
end L3
namespace L3
open PySem PySem.Spec PyProof.Rows L2
def Itx (x:Str):It:=⟨fun i _=>i<x.cps.size,fun i H v H'=>H'=H/\∃c,x.cps[i]? =some c/\v= .str ⟨#[c]⟩,fun i _=>x.cps.size<=i⟩
theorem kXu {P:Program} {w:World} {K:PySem.W.Frag} {tg:Expr} (it:Addr) (x:Str) (t:Tok):Turn P w K tg (Itx x) [it] it (fun i h=>h.IsStrIter it "str_ascii_iterator" x t i) where
 mem:=by simp
 obj:=fun i h st b hb=>by
  have e:b=it:=by simpa using hb
  subst e
  obtain⟨o,e,c,d⟩:=st
  exact⟨o,e,fun v z=>by rw[d] at z;cases z⟩
 keep:=fun i h h' st k=>let ⟨o,e,r⟩:=st;⟨o,k it (by simp) o e,r⟩
 item:=by
  intro X hP hw hK hc i pins s σ H E I hf st hg
  subst hP hw hK
  have hg':i<x.cps.size:=hg
  obtain⟨f0,f1,f2,f3,f4,f5⟩:=hf it (by simp)
  refine wpAny_pyNext_ascii_item st (c:=x.cps[i]) (by simp[hg']) fun h' hit' hs'=> ?_
  have I1:Inv X pins σ H {s with heap:=h',toks:=s.toks+1}:=I.turned (fun b o hb e=>hs'.extBut b o hb e) f0 f1 f3 f4 f5
  obtain⟨o,e,c,d⟩:=id hit'
  exact⟨_,rfl,qQl (s:={s with heap:=h',toks:=s.toks+1}) e c d (by decide) ⟨.str ⟨#[x.cps[i]]⟩,H,I1,⟨_,rfl⟩,⟨rfl,_,by simp[hg'],rfl⟩,hit',fun b hb=>(hf b hb).1⟩⟩
 done:=by
  intro X hP hw hK hc i pins s σ H E I hf st hg
  subst hP hw hK
  have hg':x.cps.size<=i:=hg
  obtain⟨f0,f1,f2,f3,f4,f5⟩:=hf it (by simp)
  exact wpAny_pyNext_ascii_end (I.ok.hd hc) st (by simp[hg']) fun h' eb=>⟨rfl,I.turned (t':=s.toks) (fun b o hb e=>eb b o hb e) f0 f1 f3 f4 f5⟩
 self:=fun _ _ _ _ _ st h=>wpAny_pyIter_striter_ascii st h
def kQt (x:Str):List T:=x.cps.toList.map fun c=> .str ⟨#[c]⟩
def iTxt (tl:TE3):TI3:=fun τ G R=>tl τ G fun x G1=>∃t:Str,x= .str t/\t.cps.all (· <128)=true/\R (kQt t) (fun _=>True) G1
theorem kXe {K:PySem.W.Frag} {H:Hp} (x:Str):qXp K H (Itx x) (kQt x) fun _=>True:=by
 intro i H' G e g _
 have hl:(kQt x).length=x.cps.size:=by simp[kQt]
 refine⟨fun h=>by rw[hl] at h;exact h,fun h=>by rw[hl] at h;exact h,fun hi v H2 ⟨eH,c,ec,ev⟩=> ?_⟩
 subst eH;subst ev
 exact⟨.refl _,g,.str ⟨#[c]⟩,by rw[kQt,lJx,Array.getElem?_toList,ec];rfl,rfl⟩
theorem i_text {X:Cx} {tg l:Expr} {tl:TE3} (hl:PE3 X l tl):PI3 X tg l (iTxt tl):=by
 intro pins s τ G H R I h
 refine thn (hl pins s τ G H _ I h) fun v s1 w_=>w_.el fun x G1 H1 e1 i_ r_ q=>i_.el fun σ I1 hs1 hg1=>r_.el fun a ra rv=> ?_
 obtain⟨t,rfl,ha,q⟩:=q
 cases (show a=V.str t from ra)
 obtain⟨tk,rfl⟩:=(show ∃tk,v=Value.str t tk from rv)
 refine wpAny_pyIter_ascii ha ?_
 refine⟨s1.heap.objs.size,[s1.heap.objs.size],_,_,kQt t,fun _=>True,G1,H1,rfl,e1,⟨σ,I1.kept (t':=s1.toks) fun b o e=>lJo _ e,hs1,hg1⟩,kXu _ t tk,⟨_,lJ5 _ rfl,rfl,rfl⟩,fun b hb=> ?_,kXe t,q⟩
 have e:b=s1.heap.objs.size:=by simpa using hb
 subst e
 exact I1.fpOk (lJe _) (I1.hok.fresh (lJe _))
end L3
namespace W
open PySem L3
local macro_rules
 | `(tactic| wp_walk using 1, $ts,*) => do
  let ls ← ts.getElems.mapM fun t => `(Lean.Parser.Tactic.simpLemma| $t:term)
  let ns ← ("tSeq tIfS jJt tOp rGt rLt rGe rSub L3.rI0 L3.rI rIxF tVar tC tAsg tCB jJc tNil qU9 rLen rAbs rMax kUz gTup jKd gNil gSub jJh jQ1 tRet tRetN jKa jQc jJx tLst tTup tIf tNot tAnd tOr jZi tOrV tNotV tPar jKm jUn rMod qU8 rPow rIsN rNotN kK1 tTru rTru truT tUn rNeg qQz kU3 qK1 qK0 kUe kJ0 kZd qV1 at0 at1 at2 ix30 ix31 ix32 qKd qKb qV2 kUv Option.map_some and_assoc T.int.injEq T.bl.injEq T.tup.injEq T.ref.injEq List.cons.injEq and_true true_and exists_eq_left exists_eq_left' exists_and_left exists_eq_right List.getElem?_cons_zero List.getElem?_cons_succ List.set_cons_zero List.set_cons_succ List.length_cons List.length_nil Nat.reduceAdd Option.some.injEq jJf kZp reduceCtorEq false_and exists_false exists_const Bool.true_eq Bool.not_eq_true' Bool.not_true Bool.not_false if_true if_false decide_eq_true_eq tBM jJ8 jXl jJz qJ4 jQw GO.lst.injEq msk List.zipWith_cons_cons List.zipWith_nil_left List.zipWith_nil_right Bool.false_eq_true kXs".splitOn " ").toArray.mapM fun n => `(Lean.Parser.Tactic.simpLemma| $(Lean.mkIdent n.toName):term)
  let al:=ns++ls
  `(tactic| ((try dsimp only [$al,*]); (try simp only [$al,*])))
local macro_rules
 | `(tactic| omega) => `(tactic| first | exact szle rfl | lia)
def BoxAt (G:Gp) (b:Addr) (n:Nat):Prop:=∃x y z:Int,G b=some (.lst [.int x,.int y,.int z])/\0<=x/\0<=y/\y<2147483648/\0<=z/\z<=n
def Keep (b:Addr) (G G':Gp):Prop:=∀c o,c≠b->G c=some o->G' c=some o
theorem Keep.refl (b:Addr) (G:Gp):Keep b G G:=fun _ _ _ h=>h
theorem Keep.trans {b:Addr} {G G1 G2:Gp} (h:Keep b G G1) (h':Keep b G1 G2):Keep b G G2:=fun c o hc e=>h' c o hc (h c o hc e)
theorem Keep.gup {b:Addr} {G:Gp} {o:GO}:Keep b G (gup G b o):=fun c u hc e=>by rw[jJk hc];exact e
theorem Keep.new {b p:Addr} {G:Gp} {o:GO} (hp:G p=none):Keep b G (L3.gup G p o):=fun c u _ e=>by rw[jJk];exact e;rintro rfl;rw[hp] at e;cases e
abbrev jQf (ns:List Int):List T:=ns.map T.int
theorem sz:sizeLine=16777216:=PySem.sizeLine_eq
abbrev Web:=List (List (Nat×Nat))
def encE (e:Nat×Nat):T:= .tup [.int e.1,.int e.2]
def encR (r:List (Nat×Nat)):T:= .tup (r.map encE)
def encW (W:Web):T:= .tup (W.map encR)
def en (W:Web) (r i:Nat):Option (Nat×Nat):=(W[r]?).bind fun es=>es[i]?
def Sym (W:Web):Prop:=∀r i s j,en W r i=some (s,j)->en W s j=some (r,i)
def sw:Nat->Nat
 | 0=>1
 | 1=>0
 | n=>n
def RowsAt (G:Gp) (h:Addr) (Hs:Web) (rs:List Addr):Prop:=G h=some (.lst (rs.map T.ref))/\rs.length=Hs.length/\∀(i:Nat) (r:Addr),rs[i]? =some r->∃hs:List (Nat×Nat),Hs[i]? =some hs/\G r=some (.lst (hs.map encE))
theorem RowsAt.sub {G G':Gp} {h:Addr} {Hs:Web} {rs:List Addr} (s:Sub G G') (x:RowsAt G h Hs rs):RowsAt G' h Hs rs:=⟨s _ _ x.1,x.2.1,fun i r e=>let ⟨hs,h1,h2⟩:=x.2.2 i r e;⟨hs,h1,s _ _ h2⟩⟩
def keyE (e:Nat×Nat):L2.TKey:=[.inl (.inl (e.1:Int)),.inl (.inl (e.2:Int))]
theorem jYa {a b:Nat×Nat} (h:keyE a=keyE b):a=b:=by
 obtain⟨a1,a2⟩:=a;obtain⟨b1,b2⟩:=b
 simp only[keyE,lVz,Sum.inl.injEq,and_true] at h
 obtain⟨h1,h2⟩:=h
 rw[Int.ofNat.inj h1,Int.ofNat.inj h2]
theorem jU3 {κ:Type} [DecidableEq κ] (kvs:List (κ×T)) (k j:κ) (v:T):valT (putT kvs k v) j=if k=j then some v else valT kvs j:=by
 unfold putT valT
 by_cases h:(kvs.any fun kv=>decide (kv.1=k))=true
 ·rw[lJa h]
  induction kvs with
  | nil=>simp at h
  | cons p ps ih=>
   rw[lJn,lQc,lQc]
   by_cases hp:p.1=k
   ·rw[lJa hp]
    by_cases hj:k=j
    ·simp[hp,hj]
    ·have h1:¬ p.1=j:=fun z=>hj (hp.symm.trans z)
     simp only[h1,decide_false,hj,lKk]
     by_cases h2:(ps.any fun kv=>decide (kv.1=k))=true
     ·have:=ih h2;rw[lJb hj] at this;exact this
     ·have hm:ps.map (fun kv=>if kv.1=k then (kv.1,v) else kv)=ps:=by
       rw[lQ9 (g:=id)];· simp
       intro a ha
       have:¬ a.1=k:=fun z=>h2 (lV1.mpr ⟨a,ha,by simp[z]⟩)
       simp[this]
      rw[hm]
   ·rw[lJb hp]
    have h2:(ps.any fun kv=>decide (kv.1=k))=true:=by
     rw[lQb,lJu hp,Bool.false_or] at h;exact h
    have:=ih h2
    by_cases hj:p.1=j
    ·have:¬ k=j:=fun z=>hp (hj.trans z.symm)
     simp[hj,this]
    ·simp only[hj,decide_false];exact this
 ·rw[lJb h,List.find?_append]
  have hn:(kvs.find? fun kv=>decide (kv.1=j))=none\/∃p,(kvs.find? fun kv=>decide (kv.1=j))=some p:=by
   cases kvs.find? fun kv=>decide (kv.1=j) with
   | none=>exact .inl rfl
   | some p=>exact .inr ⟨p,rfl⟩
  by_cases hj:k=j
  ·subst hj
   have:(kvs.find? fun kv=>decide (kv.1=k))=none:=by
    rw[List.find?_eq_none]
    intro a ha z
    exact h (lV1.mpr ⟨a,ha,z⟩)
   simp[this]
  ·rcases hn with e | ⟨p,e⟩
   ·simp[e,hj]
   ·simp[e,hj]
theorem jU6 {κ:Type} [DecidableEq κ] (kvs:List (κ×T)) (k:κ) (v:T):(putT kvs k v).length<=kvs.length+1:=by
 unfold putT;split<;>simp
theorem qXf {G:Gp} {p:Addr} {kvs:List (L2.TKey×T)} {ys:List T} {ks:L2.TKey} (h:G p=some (.dct kvs)) (hk:jQ4 ys=some ks):dAt G (.ref p) (.tup ys)=some (valT kvs ks):=by simp only[dAt,h,hk]
theorem jXr {G:Gp} {p:Addr} {kvs:List (L2.TKey×T)} {ys:List T} {ks:L2.TKey} {t:T} (h:G p=some (.dct kvs)) (hk:jQ4 ys=some ks) (ht:valT kvs ks=some t):ixR G (.ref p) (.tup ys)=some t:=by
 simp only[ixR,seqT,h,asL,qXf h hk,ht]
theorem jVs {G:Gp} {p:Addr} {kvs:List (L2.TKey×T)} {ys:List T} {ks:L2.TKey} {v:T} (h:G p=some (.dct kvs)) (hk:jQ4 ys=some ks) (hz:kvs.length<sizeLine):setR G (.ref p) (.tup ys) v=some (gup G p (.dct (putT kvs ks v))):=by
 simp only[setR,h,hk,hz,lK5]
theorem jVn {W:Web} {r i:Nat} {e:Nat×Nat} (h:en W r i=some e):∃es,W[r]? =some es/\es[i]? =some e:=by
 unfold en at h
 cases e1:W[r]? with
 | none=>rw[e1] at h;cases h
 | some es=>rw[e1] at h;exact⟨es,rfl,h⟩
theorem jX3 {W:Web} {r i:Nat} {es:List (Nat×Nat)} {e:Nat×Nat} (h1:W[r]? =some es) (h2:es[i]? =some e):en W r i=some e:=by unfold en;rw[h1];exact h2
open Classical in
def oth (Hs:Web) (e:Nat×Nat):Nat×Nat:=if h:∃p:Nat×Nat,en Hs p.1 p.2=some (e.1,sw e.2) then h.choose else (0,0)
theorem jQq {n i:Nat} {x:T} (h:(rngT 0 n)[i]? =some x):i<n/\x= .int i:=by
 unfold rngT at h
 rw[lJx] at h
 have hi:i<n:=by
  rcases lKs i n with z | z
  ·exact z
  ·rw[lKa (by simpa using z)] at h;cases h
 simp[hi] at h
 exact⟨hi,h.symm⟩
theorem jKv {n:Nat}:(rngT 0 n).length=n:=by simp[rngT]
theorem BoxAt.mono {G:Gp} {b:Addr} {n m:Nat} (h:BoxAt G b n) (hm:n<=m):BoxAt G b m:=by
 obtain⟨x,y,z,h1,h2,h3,h4,h5,h6⟩:=h
 exact⟨x,y,z,h1,h2,h3,h4,h5,by omega⟩
theorem BoxAt.some {G:Gp} {b:Addr} {n:Nat} (h:BoxAt G b n):∃o,G b=some o:=by
 obtain⟨x,y,z,h1,_⟩:=h
 exact⟨_,h1⟩
theorem BoxAt.sub {G G':Gp} {b:Addr} {n:Nat} (h:BoxAt G b n) (s:Sub G G'):BoxAt G' b n:=by
 obtain⟨x,y,z,h1,h2,h3,h4,h5,h6⟩:=h
 exact⟨x,y,z,s _ _ h1,h2,h3,h4,h5,h6⟩
theorem BoxAt.gup {G:Gp} {b p:Addr} {n:Nat} {o:GO} (h:BoxAt G b n) (hp:b≠p):BoxAt (gup G p o) b n:=by
 obtain⟨x,y,z,h1,h2,h3,h4,h5,h6⟩:=h
 exact⟨x,y,z,by rw[jJk hp];exact h1,h2,h3,h4,h5,h6⟩
theorem Keep.sub {b:Addr} {G G':Gp} (h:Sub G G'):Keep b G G':=fun c o _ e=>h c o e
theorem Keep.over {b p:Addr} {G G':Gp} {o:GO} (h:Keep b G G') (hp:G p=none):Keep b G (L3.gup G' p o):=fun c u hc e=>by rw[jJk];exact h c u hc e;rintro rfl;rw[hp] at e;cases e
theorem RowsAt.keep {b:Addr} {G G':Gp} {h:Addr} {Hs:Web} {rs:List Addr} (s:Keep b G G') (hb:b∉h::rs) (x:RowsAt G h Hs rs):RowsAt G' h Hs rs:=by
 simp only[lJj,not_or] at hb
 exact⟨s _ _ (Ne.symm hb.1) x.1,x.2.1,fun i r e=>let ⟨hs,h1,h2⟩:=x.2.2 i r e;⟨hs,h1,s _ _ (by rintro rfl;exact hb.2 (lJz e)) h2⟩⟩
theorem RowsAt.set {G:Gp} {h:Addr} {Hs:Web} {rs:List Addr} {r:Nat} {a:Addr} {hs':List (Nat×Nat)} (x:RowsAt G h Hs rs) (hn:(h::rs).Nodup) (hr:rs[r]? =some a):RowsAt (gup G a (.lst (hs'.map encE))) h (Hs.set r hs') rs:=by
 rw[lKp] at hn
 have hrl:r<rs.length:=(lJh.mp hr).1
 refine⟨by rw[jJk];exact x.1;rintro rfl;exact hn.1 (lJz hr),by rw[lVj];exact x.2.1,fun i c e=> ?_⟩
 by_cases hi:i=r
 ·subst hi
  rw[hr] at e;cases e
  exact⟨hs',by rw[lK7];rw[<-x.2.1];exact hrl,jJf⟩
 ·obtain⟨hs,h1,h2⟩:=x.2.2 i c e
  refine⟨hs,by rw[lK9 (Ne.symm hi)];exact h1,?_⟩
  rw[jJk];exact h2
  rintro rfl
  have hil:i<rs.length:=(lJh.mp e).1
  exact hi ((lQy hil hn.2).mp (e.trans hr.symm))
def hv (n t:Nat) (p:Nat×Nat):List (Nat×Nat×Nat):=if p.2=n then [(p.1,t,2)] else [(p.1,t,0),(p.2,t,1)]
def hvs (P:List (Nat×Nat)) (n k:Nat):List (Nat×Nat×Nat):=(List.range k).flatMap fun t=>match P[t]? with
 | some p=>hv n t p
 | none=>[]
structure HalfL (L:List (Nat×Nat×Nat)) (n:Nat) (Hs:Web):Prop where
 len:Hs.length=n
 perm:∀(r:Nat) (hs:List (Nat×Nat)),Hs[r]? =some hs->hs.Perm ((L.filter fun x=>x.1 == r).map fun x=>x.2)
theorem ins_perm {α:Type} {xs:List α} {k:Nat} {y:α}:(xs.take k++y::xs.drop k).Perm (xs++[y]):=by
 have h1:(xs.take k++y::xs.drop k).Perm (y::(xs.take k++xs.drop k)):=List.perm_middle
 rw[List.take_append_drop] at h1
 exact h1.trans (List.perm_append_comm (l₁:=[y]) (l₂:=xs))
theorem HalfL.ins {L:List (Nat×Nat×Nat)} {n:Nat} {Hs:Web} {r k:Nat} {hs:List (Nat×Nat)} {e:Nat×Nat} (h:HalfL L n Hs) (hr:Hs[r]? =some hs):HalfL (L++[(r,e)]) n (Hs.set r (hs.take k++e::hs.drop k)) where
 len:=by rw[lVj];exact h.len
 perm:=fun r' hs' h'=>by
  have hrl:r<Hs.length:=(lJh.mp hr).1
  rw[List.filter_append,lJ4]
  by_cases hi:r'=r
  ·subst hi
   rw[lK7 hrl] at h'
   cases h'
   have:=h.perm r' hs hr
   refine ins_perm.trans ?_
   simp
   exact this.append_right [e]
  ·rw[lK9 (Ne.symm hi)] at h'
   have:=h.perm r' hs' h'
   have hne:¬ r=r':=fun z=>hi z.symm
   simp[hne]
   exact this
theorem HalfL.mem {L:List (Nat×Nat×Nat)} {n:Nat} {Hs:Web} {r i:Nat} {e:Nat×Nat} (h:HalfL L n Hs) (he:en Hs r i=some e):(r,e)∈L:=by
 obtain⟨es,h1,h2⟩:=jVn he
 have:=(h.perm r es h1).mem_iff.mp (lJz h2)
 obtain⟨⟨r',e'⟩,h3,rfl⟩:=lJi.mp this
 obtain⟨h4,h5⟩:=lKc.mp h3
 have:r'=r:=by simpa using h5
 subst this;exact h4
theorem HalfL.of {L:List (Nat×Nat×Nat)} {n:Nat} {Hs:Web} {r:Nat} {e:Nat×Nat} (h:HalfL L n Hs) (hr:r<n) (he:(r,e)∈L):∃i,en Hs r i=some e:=by
 have hrl:r<Hs.length:=by rw[h.len];exact hr
 have h1:Hs[r]? =some Hs[r]:=lJl hrl
 have:e∈Hs[r]:=(h.perm r _ h1).mem_iff.mpr (lJi.mpr ⟨(r,e),lKc.mpr ⟨he,by simp⟩,rfl⟩)
 obtain⟨i,hi⟩:=lKj this
 exact⟨i,jX3 h1 hi⟩
theorem qQe {xs:List (Nat×Nat)} {k:Nat} {y:Nat×Nat}:insT (xs.map encE) k (encE y)=(xs.take k++y::xs.drop k).map encE:=by simp[insT,List.map_take,List.map_drop]
theorem HalfL.len_le {L:List (Nat×Nat×Nat)} {n:Nat} {Hs:Web} {r:Nat} {hs:List (Nat×Nat)} (h:HalfL L n Hs) (hr:Hs[r]? =some hs):hs.length<=L.length:=by
 rw[(h.perm r hs hr).length_eq,lJf];exact lQo _ _
theorem jX7 {xs:List T}:(numT xs).length=xs.length:=by simp[numT]
theorem jUb {n:Nat}:rngT 0 n=(List.range n).map fun (k:Nat)=>T.int k:=by simp[rngT]
theorem qQn {L:List (Nat×Nat×Nat)} {k:Nat}:(L.filter fun x=>decide (x.1<k+1)).length=(L.filter fun x=>decide (x.1<k)).length+(L.filter fun x=>x.1 == k).length:=by
 induction L with
 | nil=>rfl
 | cons a as ih=>
  rw[lQe,lQe,lQe]
  rcases Nat.lt_trichotomy a.1 k with h | h | h
  ·have h1:a.1<k+1:=by omega
   have h2:¬ a.1=k:=by omega
   simp[h,h1,h2,ih];omega
  ·have h1:a.1<k+1:=by omega
   simp[h,ih];omega
  ·have h1:¬ a.1<k+1:=by omega
   have h2:¬ a.1=k:=by omega
   have h3:¬ a.1<k:=by omega
   simp[h1,h2,h3,ih]
theorem kYo {L:List (Nat×Nat×Nat)} {d:Nat}:∀k,(∀r,r<k->d<=(L.filter fun x=>x.1 == r).length)->k*d<=(L.filter fun x=>decide (x.1<k)).length
 | 0,_=>by simp
 | k+1,h=>by
  rw[qQn,Nat.succ_mul]
  have h1:=kYo k fun r hr=>h r (by omega)
  have h2:=h k (by omega)
  omega
theorem kZq {es:List Nat}:(es.map fun e=>T.int (e:Nat)).all jUo=true:=by
 rw[List.all_map,lQu];intros;rfl
theorem jZd {α:Type} {f:α->Bool}:∀ {es:List α},kUl (es.map fun e=>T.bl (f e))=some (es.all f)
 | []=>rfl
 | e::es=>by rw[lJn,kUl,jZd,lQj]
def Conn (W:Web):Prop:=∀S:Nat->Prop,S 0->(∀r i s j,S r->en W r i=some (s,j)->S s)->∀r,r<W.length->S r
theorem en_lt {W:Web} {r i:Nat} {e:Nat×Nat} (h:en W r i=some e):r<W.length:=by
 obtain⟨es,h1,h2⟩:=jVn h
 exact (lJh.mp h1).1
structure Fine (W:Web):Prop where
 len:W.length<=1000
 row:∀(r:Nat) (es:List (Nat×Nat)),W[r]? =some es->es.length<=1000
 rng:∀r i s j,en W r i=some (s,j)->s<W.length
theorem jXt {W:Web} {r:Nat} {es:List (Nat×Nat)} (h:W[r]? =some es):L2.atI (W.map encR) (r:Int)=some (encR es):=by rw[atN];simp[h]
theorem kZw {es:List (Nat×Nat)} {i:Nat} {e:Nat×Nat} (h:es[i]? =some e):L2.atI (es.map encE) (i:Int)=some (encE e):=by rw[atN];simp[h]
def jJj (F:List Nat):List T:=F.map fun e=>T.int (e:Nat)
theorem qQf {F:List Nat} {r:Nat}:inT (.int r) (jJj F)=F.contains r:=by
 unfold inT jJj
 rw[List.any_map,List.contains_eq_any_beq]
 congr 1
 funext e
 simp only[Function.comp,eqT]
 by_cases h:e=r
 ·subst h;simp
 ·have h2:¬ (e:Int)=r:=by omega
  have h3:¬ r=e:=fun z=>h z.symm
  rw[beq_eq_false_iff_ne.mpr h3,beq_eq_false_iff_ne.mpr h2]
theorem qQg {G:Gp} {p:Addr} {F:List Nat} {r:Nat} (h:G p=some (.lst (jJj F))):inR G (.int r) (.ref p)=some (F.contains r):=by
 unfold inR
 rw[jJl h]
 show (if _ then _ else _)=_
 rw[lJa ⟨rfl,kZq⟩,qQf]
theorem jQs:∀ {n:Nat} {F:List Nat} (hn:F.Nodup) (hl:∀x,x∈F->x<n),F.length<=n
 | 0,F,hn,hl=>by
  cases F with
  | nil=>exact lJe _
  | cons a as=>exact absurd (hl a (lJ7)) (lQd _)
 | n+1,F,hn,hl=>by
  have h1:=jQs (n:=n) (hn.erase n) (fun x hx=>by
   rw[hn.mem_erase_iff] at hx
   have:=hl x hx.2;omega)
  by_cases h:n∈F
  ·rw[List.length_erase_of_mem h] at h1;omega
  ·rw[List.erase_of_not_mem h] at h1;omega
theorem kYx {F:List Nat} {n:Nat} (hn:F.Nodup) (hl:∀x,x∈F->x<n) (he:F.length=n):∀r,r<n->r∈F:=by
 intro r hr
 apply lXc
 intro hm
 have:(r::F).length<=n:=jQs (lKp.mpr ⟨hm,hn⟩) (fun x hx=>by rw[lJj] at hx;rcases hx with rfl | hx;exact hr;exact hl x hx)
 simp at this;omega
def vis (F:List Nat) (es:List (Nat×Nat)):List Nat:=es.foldl (fun F e=>if F.contains e.1=true then F else F++[e.1]) F
def row (W:Web) (r:Nat):List (Nat×Nat):=(W[r]?).getD []
theorem jQz {W:Web} {r:Nat} {es:List (Nat×Nat)} (h:W[r]? =some es):row W r=es:=by unfold row;rw[h];rfl
theorem jZ3 {F:List Nat} {es:List (Nat×Nat)} {j:Nat} {e:Nat×Nat} (h:es[j]? =some e):vis F (es.take (j+1))=if (vis F (es.take j)).contains e.1=true then vis F (es.take j) else vis F (es.take j)++[e.1]:=by
 unfold vis
 rw[lQv,h,List.foldl_append];rfl
def bfsN (W:Web):Nat->Nat->List Nat->List Nat
 | 0,_,F=>F
 | n+1,k,F=>match F[k]? with
  | some r=>bfsN W n (k+1) (vis F (row W r))
  | none=>F
def bfs (W:Web) (r:Nat):List Nat:=bfsN W W.length 0 [r]
theorem jZb {W:Web} {n k:Nat} {F:List Nat} (h:F.length<=k):bfsN W n k F=F:=by
 cases n with
 | zero=>rfl
 | succ n=>rw[bfsN,lKa h]
theorem jZa {W:Web} {n k r:Nat} {F:List Nat} (h:F[k]? =some r):bfsN W (n+1) k F=bfsN W n (k+1) (vis F (row W r)):=by rw[bfsN,h]
structure Turn (m:Nat) (σ:List Nat):Prop where
 len:σ.length=m
 nd:σ.Nodup
 lt:∀x,x∈σ->x<m
theorem Turn.at {m:Nat} {σ:List Nat} (h:Turn m σ) {k:Nat} (hk:k<m):∃x,σ[k]? =some x/\x<m:=by
 have hk':k<σ.length:=by rw[h.len];exact hk
 exact⟨σ[k],lJl hk',h.lt _ (lQx hk')⟩
def cl (M:List (List T)) (x i:Nat):Option T:=(M[x]?).bind fun ts=>ts[i]?
def put (M:List (List T)) (x i:Nat) (v:T):List (List T):=match M[x]? with
 | some ts=>M.set x (ts.set i v)
 | none=>M
def dec:T->Nat×Nat
 | .tup [.int a,.int b]=>(a.toNat,b.toNat)
 | _=>(0,0)
theorem kZ3 {e:Nat×Nat}:dec (encE e)=e:=by obtain⟨a,b⟩:=e;simp[encE,dec]
theorem qV9 {G:Gp} {e f:Nat×Nat}:eqG G (encE e) (encE f)=some (decide (e=f)):=by
 obtain⟨a,b⟩:=e;obtain⟨c,d⟩:=f
 rw[show eqG G (encE (a,b)) (encE (c,d))=some (eqT (encE (a,b)) (encE (c,d))) from rfl]
 congr 1
 simp only[encE,eqT,eqTs,Bool.and_true]
 by_cases h1:a=c
 ·by_cases h2:b=d
  ·simp[h1,h2]
  ·have:¬ (b:Int)=d:=by omega
   simp[h1,h2,this]
 ·have:¬ (a:Int)=c:=by omega
  simp[h1,this]
theorem jU1 {G:Gp} {a c:Nat}:eqG G (.int a) (.int c)=some (decide (a=c)):=by
 rw[show eqG G (.int a) (.int c)=some (eqT (.int a) (.int c)) from rfl]
 congr 1
 simp only[eqT]
 by_cases h1:a=c
 ·simp[h1]
 ·have:¬ (a:Int)=c:=by omega
  simp[h1,this]
theorem kZ5 {mask:List Bool} {g:TG3} {tif:TT3} {te:TE3} {τ:St3} {xs:List T} {stay:Gp->Prop} {G:Gp} {Q:VK3} (Pr:T->Prop) (hz:xs.length<=sizeLine) (hst:∀G',Sub G G'->stay G')
  (h:∀(i:Nat) x,xs[i]? =some x->∀G' (K:T->Gp->Prop) (K0:Gp->Prop),Sub G G'->(∀t G4,Pr t->Sub G' G4->K t G4)->g x (msk mask τ) G' fun τ2 G2=>tif τ2 G2 fun b G3=>if b=true then te τ2 G3 K else K0 G3)
  (hq:∀D ts G',G D=none->G' D=some (.lst ts)->ts.length=xs.length->(∀t,t∈ts->Pr t)->Sub G G'->Q (.ref D) G'):jU2 mask g tif te τ xs stay G Q:=by
 intro D hD
 refine⟨fun i acc G'=>acc.length=i/\(∀t,t∈acc->Pr t)/\Sub G G'/\G' D=some (.lst acc),?_,?_,?_,?_⟩
 ·exact⟨rfl,fun t z=>by simp at z,.new hD,jJf⟩
 ·rintro i acc G' hi ⟨j1,j2,j4,j5⟩
  exact⟨hst G' j4,j5⟩
 ·rintro i x acc G3 hx ⟨j1,j2,j4,j5⟩
  have hi:i<xs.length:=(lJh.mp hx).1
  refine h i x hx G3 _ _ j4 fun t G4 hp kp=> ?_
  refine⟨kp _ _ j5,by omega,by simp[j1],?_,(j4.trans kp).over hD,jJf⟩
  intro u hu
  rcases (lJ1.mp hu) with hu | hu
  ·exact j2 u hu
  ·rw[lJr.mp hu];exact hp
 ·rintro acc G3 ⟨j1,j2,j4,j5⟩
  exact hq D acc G3 hD j5 j1 j2 j4
theorem kZj:∀(us:List T),(∀t,t∈us->∃x:Int,t= .int x)->∃ts:List Int,us=jQf ts
 | [],_=>⟨[],rfl⟩
 | u::us,h=>by
  obtain⟨x,rfl⟩:=h u (by simp)
  obtain⟨ts,rfl⟩:=kZj us fun t ht=>h t (lJ3 _ ht)
  exact⟨x::ts,rfl⟩
abbrev RdOk (sp:Sp3) (rd:TS3) (N:List Str):Prop:=∀xs G Q,sp xs G Q->rd {nx:=fun _ G'=>Q .non G',rt:=Q} (jKl N xs) G
noncomputable def jJm:Sp3:=fun xs G Q=>∃(b:Addr) (m:Int) (n:Nat),xs=[.ref b,.int m]/\BoxAt G b n/\n<2^40/\1<=m/\m<2^29/\∀(r:Int) G',0<=r->r<m->BoxAt G' b (n+1)->Keep b G G'->Q (.int r) G'
def qQ2:List Str:=["_law_box_here","_law_many","_law_found","_law_once"]
noncomputable def jYu:TS3:=
 (tSeq (tIfS (jJt (tOp rGt (tOp rIxF (tVar 0) (tC (.int 0))) (tC (.int 0)))) (tSeq (tAsg (tOp rMod (tOp rIxF (tVar 0) (tC (.int 0))) (tVar 1)) (jJh 2))
 (tSeq (tAsg (tOp qU8 (tOp rIxF (tVar 0) (tC (.int 0))) (tVar 1)) (gSub (tVar 0) (tC (.int 0)) jQ1))
 (tRet (tVar 2)))) jKa)
 (tSeq (tAsg (tOp jKm (tOp rIxF (tVar 0) (tC (.int 2))) (tC (.int 1))) (gSub (tVar 0) (tC (.int 2)) jQ1))
 (tSeq (tAsg (tOp rMod (tOp jUn (tOp jKm (tOp rIxF (tVar 0) (tC (.int 1))) (tOp jUn (tC (.int 39373)) (tOp rIxF (tVar 0) (tC (.int 2))))) (tOp jKm (tC (.int 48271)) (tOp rIxF (tVar 0) (tC (.int 2))))) (tC (.int 2147483647))) (jJh 3))
 (tSeq (tAsg (tOp rMod (tOp jKm (tOp jUn (tVar 3) (tOp jKm (tOp rMod (tVar 3) (tC (.int 40009))) (tC (.int 7)))) (tOp rIxF (tVar 0) (tC (.int 2)))) (tC (.int 2147483629))) (gSub (tVar 0) (tC (.int 1)) jQ1))
 (tRet (tOp rMod (tOp qU8 (tOp rMod (tOp jUn (tOp rIxF (tVar 0) (tC (.int 1))) (tOp jKm (tOp rMod (tOp rIxF (tVar 0) (tC (.int 1))) (tC (.int 1009))) (tC (.int 3)))) (tC (.int 998244353))) (tC (.int 7))) (tVar 1)))))))
theorem kQw:RdOk jJm jYu qQ2:=by
 intro xs G Q h_;apply xe3 h_;clear h_;intro b m n h_;apply ae5 h_;clear h_;intro q0_ hn hm1 hm2 k
 obtain⟨x,y,z,hb,hx,hy0,hy1,hz0,hz1⟩:=q0_
 show jYu _ [some (.ref b),some (.int m),none,none] G
 wp_walk using 1,jYu,jJ9 hb,kUu hb
 have box:∀x' y' z':Int,0<=x'->0<=y'->y'<2147483648->0<=z'->z'<=n+1->BoxAt (gup G b (.lst [.int x',.int y',.int z'])) b (n+1):=fun x' y' z' h1 h2 h3 h4 h5=>⟨x',y',z',jJf,h1,h2,h3,h4,by omega⟩
 split
 ·exact⟨by omega,⟨by omega,by omega⟩,k _ _ (lV2 _ (by omega)) (lV3 _ (by omega)) (box _ _ _ (Int.ediv_nonneg hx (by omega)) hy0 hy1 hz0 (by omega)) .gup⟩
 ·have a0:=lV2 ((y+39373*(z+1))*(48271+(z+1))) (b:=2147483647) (by decide)
  have a1:=lV3 ((y+39373*(z+1))*(48271+(z+1))) (b:=2147483647) (by decide)
  refine⟨.inl (by decide),.inr ⟨by omega,by omega⟩,by decide,by decide,?_⟩
  generalize (y+39373*(z+1))*(48271+(z+1))%2147483647=u at a0 a1 ⊢
  have b0:=lV2 (u*(u%40009+7)+(z+1)) (b:=2147483629) (by decide)
  have b1:=lV3 (u*(u%40009+7)+(z+1)) (b:=2147483629) (by decide)
  refine⟨.inl ⟨by omega,by omega⟩,by decide,by decide,?_⟩
  generalize (u*(u%40009+7)+(z+1))%2147483629=v at b0 b1 ⊢
  refine⟨.inl ⟨by omega,by omega⟩,by decide,⟨by decide,by decide⟩,by omega,?_⟩
  exact k _ _ (lV2 _ (by omega)) (lV3 _ (by omega)) (box _ _ _ hx b0 (by omega) (by omega) (by omega)) .gup
def absZ (v:Int):Int:=if v<0 then -v else v
def boxT (v k:Int):List T:=[.int (if 10^18<=absZ v then absZ v else 0),.int ((v%2147483647+7919*k+11)*48271%2147483629),.int 0]
theorem qXj {G:Gp} {b:Addr} {v k:Int} (h:G b=some (.lst (boxT v k))):BoxAt G b 0:=by
 refine⟨_,_,_,h,by unfold absZ;split<;>split<;>omega,lV2 _ (by decide),?_,Int.le_refl _,by simp⟩
 have:=lV3 ((v%2147483647+7919*k+11)*48271) (b:=2147483629) (by decide)
 omega
noncomputable def kJd:Sp3:=fun xs G Q=>∃(c:Addr) (ns:List Int) (k:Nat) (v:Int),xs=[.ref c,.int k]/\G c=some (.lst (jQf ns))/\ns[k]? =some v/\ns.length<=63/\∀p G',G p=none->G' p=some (.lst (boxT v k))->Sub G G'->Q (.ref p) G'
def qXo:List Str:=["_law_script","_law_k","_law_cell","_law_digits"]
noncomputable def kJo:TS3:=
 (tSeq (tAsg (tC (.int 0)) (jJh 2))
 (tSeq (tIfS (jJt (tOp rLt (tVar 1) (tCB rLen (jJc (tVar 0) tNil)))) (tAsg (tOp rIxF (tVar 0) (tVar 1)) (jJh 2)) jKa)
 (tSeq (tAsg (tC (.int 0)) (jJh 3))
 (tSeq (tIfS (jJt (tOp rGe (tCB rAbs (jJc (tVar 2) tNil)) (tOp rPow (tC (.int 10)) (tC (.int 18))))) (tAsg (tCB rAbs (jJc (tVar 2) tNil)) (jJh 3)) jKa)
 (tRet (tLst (jJc (tVar 3) (jJc (tOp rMod (tOp jUn (tOp jKm (tOp jKm (tOp rMod (tVar 2) (tC (.int 2147483647))) (tOp jUn (tC (.int 7919)) (tVar 1))) (tC (.int 11))) (tC (.int 48271))) (tC (.int 2147483629))) (jJc (tC (.int 0)) tNil)))))))))
theorem kV0:RdOk kJd kJo qXo:=by
 intro xs G Q h_;apply xe4 h_;clear h_;intro c ns k v h_;apply ae4 h_;clear h_;intro hc hv hl kk
 show kJo _ [some (.ref c),some (.int k),none,none] G
 have hs:=sz
 have hk:k<ns.length:=(lJh.mp hv).1
 have hat:L2.atI (jQf ns) (k:Int)=some (.int v):=by rw[atN,lJx,hv];rfl
 wp_walk using 1,kJo,jJl hc,List.length_map,jJ9 hc,hat
 rw[lJa (by omega)]
 refine⟨⟨by decide,by decide,by decide⟩,?_⟩
 have fin:∀x,x=(if 10^18<=absZ v then absZ v else 0)->0<(2147483647:Int)/\L2.CMul 7919 k/\L2.CMul (v%2147483647+7919*k+11) 48271/\0<(2147483629:Int)/\3<=sizeLine/\∀p,G p=none->Q (.ref p) (gup G p (.lst [.int x,.int ((v%2147483647+7919*k+11)*48271%2147483629),.int 0])):=by
  rintro x rfl
  exact⟨by decide,.inl (by decide),.inr (by decide),by decide,by omega,fun p hp=>kk p _ hp jJf (.new hp)⟩
 by_cases h:10^18<=absZ v
 ·rw[lJa (show (10:Int)^Int.toNat 18<=(if v<0 then -v else v) from h)]
  exact fin _ (by rw[lJa h];rfl)
 ·rw[lJb (show ¬ (10:Int)^Int.toNat 18<=(if v<0 then -v else v) from h)]
  exact fin _ (by rw[lJb h])
noncomputable def jXd:Sp3:=fun xs G Q=>∃ns:List Int,xs=[.scr (jQf ns),.int 5]/\ns.length<=63/\∀D rs G',G D=none->G' D=some (.lst (rs.map T.ref))->rs.length<=5->(D::rs).Nodup->(∀r,r∈rs->BoxAt G' r 0)->Sub G G'->Q (.ref D) G'
def qJr:List Str:=["_law_script","_law_most","_law_cells","_law_k"]
noncomputable def jXi:TS3:=
 (tSeq (tAsg (jKu [false,false,false,true] (jKp (jJc (tCB rMax (jJc (tC (.int 1)) (jJc (tCB kQz (jJc (tVar 1) (jJc (tCB rLen (jJc (tVar 0) tNil)) tNil))) tNil))) tNil)) (jJh 3) jQw (tCB rSum (jJc (qJ2 (tVar 0) (jVq (tVar 3)) (jVq (tC (.int 63))) (jVq (tVar 1))) tNil))) (jJh 2))
 (tRet (jKu [false,false,false,true] (jKp (jJc (tCB rLen (jJc (tVar 2) tNil)) tNil)) (jJh 3) jQw (jJx kJd (jJc (tVar 2) (jJc (tVar 3) tNil))))))
theorem kKn:RdOk jXd jXi qJr:=by
 intro xs G Q h_;apply xe1 h_;clear h_;intro ns h_;apply ae2 h_;clear h_;intro hl kk
 show jXi _ [some (.scr (jQf ns)),some (.int 5),none,none] G
 have hs:=sz
 wp_walk using 1,jXi,kQz,rSum,qJ2,jVq,jKp
 refine⟨jQf ns,rfl,?_⟩
 obtain⟨N,hN,hN2⟩:∃N:Nat,(if (if ((jQf ns).length:Int)<5 then ((jQf ns).length:Int) else 5)>1 then if ((jQf ns).length:Int)<5 then ((jQf ns).length:Int) else 5 else 1)=(N:Int)/\N<=5:=by
  refine⟨(if (if ((jQf ns).length:Int)<5 then ((jQf ns).length:Int) else 5)>1 then if ((jQf ns).length:Int)<5 then ((jQf ns).length:Int) else 5 else 1).toNat,?_,?_⟩<;>split<;>split<;>omega
 rw[hN]
 refine⟨by omega,by omega,?_⟩
 refine kZ5 (fun t=>∃x:Int,t= .int x) (by rw[jKv];omega) (fun _ _=>trivial) ?_ ?_
 ·intro i x hx G' K K0 s hk
  obtain⟨hi,rfl⟩:=jQq hx
  wp_walk using 1,rSum,qJ2,jVq
  refine⟨by simp,jQf ns,rfl,fun is p hp=>⟨is.filterMap (ns[·]?),?_,fun z=>hk _ _ ⟨z,rfl⟩ (.new hp)⟩⟩
  rw[List.map_filterMap]
  congr 1;funext j;rw[lJx]
 ·intro D ts G1 hD hD1 hlen hts s1
  obtain⟨ms,rfl⟩:=kZj ts hts
  rw[jKv] at hlen
  have hml:ms.length=N:=by simpa using hlen
  refine⟨jQf ms,jJl hD1,by omega,by omega,?_⟩
  rw[show (((jQf ms).length:Nat):Int).toNat=N by simp[hml],jUb]
  refine jZz (fun k:Nat=>boxT (ms.getD k 0) k) (by simp;omega) (fun _ _=>trivial) ?_ ?_
  ·intro i k hk G' K K0 s hK
   obtain⟨q1,q2⟩:=lJh.mp hk
   simp at q1 q2;subst q2
   wp_walk using 1,tSeq
   refine⟨D,ms,i,ms.getD i 0,rfl,s _ _ hD1,?_,by omega,fun p G4 hp h4 s4=>hK p G4 hp h4 s4⟩
   rw[lJl (by omega),List.getD,lJl (by omega)];rfl
  ·intro E rs G2 hE hE2 s2 hrl hnd hrs
   rw[lKr] at hrl
   refine kk E rs G2 (s1.none hE) hE2 (by omega) hnd (fun r hr=> ?_) (s1.trans s2)
   obtain⟨j,hj⟩:=lKj hr
   have hjl:j<rs.length:=(lJh.mp hj).1
   exact qXj (hrs j r j hj (by rw[lQ0 (by omega)])).2
structure OkD (d:Nat) (x:T):Prop where
 tr:tree x=true
 lay:(td x).canLay0=true
 dep:(td x).depth<=d
 eq:eqT x x=true
theorem okD_int {i:Int}:OkD 0 (.int i):=⟨rfl,rfl,Nat.le_of_eq (by simp[td,PyData.depth]),by simp[eqT]⟩
theorem kQ4 {d:Nat}:∀xs:List T,(∀x,x∈xs->OkD d x)->jK5 xs=true/\PyData.canLayAll0 (tds xs)=true/\PyData.depthAll (tds xs)<=d/\eqTs xs xs=true
 | [],_=>⟨rfl,by simp[tds,PyData.canLayAll0],by simp[tds,PyData.depthAll],rfl⟩
 | x::xs,h=>by
  obtain⟨a1,a2,a3,a4⟩:=kQ4 xs fun y hy=>h y (lJ3 _ hy)
  obtain⟨b1,b2,b3,b4⟩:=h x (lJ7 ..)
  refine⟨?_,?_,?_,?_⟩
  ·show (tree x&&jK5 xs)=true;rw[a1,b1];rfl
  ·rw[tds,PyData.canLayAll0,a2,b2];rfl
  ·rw[tds,PyData.depthAll];omega
  ·show (eqT x x&&eqTs xs xs)=true;rw[a4,b4];rfl
theorem kQ3 {d:Nat} {xs:List T} (h:∀x,x∈xs->OkD d x):OkD (d+1) (.tup xs):=by
 obtain⟨a1,a2,a3,a4⟩:=kQ4 xs h
 exact⟨a1,by rw[td,PyData.canLay0];exact a2,by rw[td,PyData.depth];omega,a4⟩
theorem OkD.mono {d d':Nat} {x:T} (h:OkD d x) (l:d<=d'):OkD d' x:=⟨h.tr,h.lay,lKi h.dep l,h.eq⟩
theorem kU2 {w:List Nat}:OkD 1 (.tup (jJj w)):=kQ3 fun x hx=>by
 obtain⟨e,_,rfl⟩:=lJi.mp hx;exact okD_int
theorem kYu {xs:List T} (h:∀x,x∈xs->OkD 40 x):jX2 xs=true:=by
 obtain⟨a1,a2,a3,_⟩:=kQ4 xs h
 unfold jX2
 rw[a1,a2,lJs (show (PyData.list (tds xs)).depth<=50 by rw[PyData.depth];omega)];rfl
theorem kK5:∀ {a b:List Nat},eqTs (jJj a) (jJj b)=decide (a=b)
 | [],[]=>rfl
 | [],_::_=>by simp[jJj,eqTs]
 | _::_,[]=>by simp[jJj,eqTs]
 | x::a,y::b=>by
  show (eqT (.int x) (.int y)&&eqTs (jJj a) (jJj b))=_
  rw[kK5]
  have:eqT (.int (x:Nat)) (.int (y:Nat))=decide (x=y):=by
   by_cases h:x=y
   ·subst h;simp[eqT]
   ·have h2:¬ (x:Int)=y:=by omega
    rw[lJu h];simpa[eqT] using h2
  rw[this];simp
theorem kK6 {G:Gp} {p q:Addr} {a b:List Nat} (h1:G p=some (.lst (jJj a))) (h2:G q=some (.lst (jJj b))):eqG G (.ref p) (.ref q)=some (decide (a=b)):=by
 have ok:∀F:List Nat,jX2 (jJj F)=true:=fun F=>kYu fun x hx=>by
  obtain⟨σ,_,rfl⟩:=lJi.mp hx;exact okD_int.mono (by decide)
 have:eqG G (.ref p) (.ref q)=if jX2 (jJj a)=true/\jX2 (jJj b)=true then some (eqTs (jJj a) (jJj b)) else none:=by simp only[eqG,h1,h2]
 rw[this,lJa ⟨ok a,ok b⟩,kK5]
theorem jY5 {G:Gp} {a c:Int}:eqG G (.int a) (.int c)=some (decide (a=c)):=by
 rw[show eqG G (.int a) (.int c)=some (eqT (.int a) (.int c)) from rfl]
 congr 1
theorem qJk {nu:List Nat} {x y:Nat} (h:nu[x]? =some y):L2.atI (jJj nu) (x:Int)=some (.int (y:Nat)):=by rw[atN];simp[jJj,h]
theorem kQo {kvs:List (L2.Key×T)} {k:L2.Key}:(valT kvs k).isSome=true↔k∈kvs.map Prod.fst:=by
 unfold valT
 rw[lVw,List.find?_isSome,lJi]
 exact⟨fun ⟨a,h1,h2⟩=>⟨a,h1,by simpa using h2⟩,fun ⟨a,h1,h2⟩=>⟨a,h1,by simpa using h2⟩⟩
def keyN (x:Nat):L2.Key:= .inl (x:Nat)
theorem kU9 {F:List Nat} {x:Nat}:keyN x∈F.map keyN↔x∈F:=by
 rw[lJi]
 refine⟨fun ⟨a,ha,e⟩=> ?_,fun h=>⟨x,h,rfl⟩⟩
 have e1:(Sum.inl (a:Int):L2.Key)=Sum.inl (x:Int):=e
 have:(a:Int)=x:=by injection e1
 have:a=x:=by omega
 exact this▸ha
theorem qV5 {G:Gp} {d:Addr} {kvs:List (L2.Key×T)} {F:List Nat} {x:Nat} (h:G d=some (.dck kvs)) (hk:kvs.map Prod.fst=F.map keyN):inR G (.int (x:Nat)) (.ref d)=some (decide (x∈F)):=by
 have e1:seqT G (.ref d)=none:=by simp only[seqT,h];rfl
 have e2:dAt G (.ref d) (.int (x:Nat))=some (valT kvs (keyN x)):=by simp only[dAt,h,jQm];rfl
 unfold inR
 simp only[e1,e2]
 congr 1
 rw[Bool.eq_iff_iff,kQo,hk,kU9];simp
theorem qKn {kvs:List (L2.Key×T)} {k:L2.Key} {v:T} (h:k∉kvs.map Prod.fst):putT kvs k v=kvs++[(k,v)]:=by
 unfold putT
 rw[lJb]
 rw[lV1]
 rintro⟨a,ha,e⟩
 exact h (lJi.mpr ⟨a,ha,by simpa using e⟩)
theorem qKc {G:Gp} {d:Addr} {kvs:List (L2.Key×T)} {x:Nat} {v:T} (h:G d=some (.dck kvs)) (hz:kvs.length<sizeLine):setR G (.ref d) (.int (x:Nat)) v=some (gup G d (.dck (putT kvs (keyN x) v))):=by
 simp only[setR,h,jQm]
 rw[lJa hz];rfl
theorem jYy {xs:List T} {j:Nat} {y:T} (h:(numT xs)[j]? =some y):∃x,xs[j]? =some x/\y= .tup [.int j,x]:=by
 have hj:j<xs.length:=by have:=(lJh.mp h).1;rwa [jKn] at this
 refine⟨xs[j],lJl hj,?_⟩
 rw[jX8 (lJl hj)] at h
 cases h;rfl
theorem qJ8 {G G':Gp} (h:Sub G G') {p:Addr} (hp:G' p=none):G p=none:=by
 cases e:G p with
 | none=>rfl
 | some o=>rw[h _ _ e] at hp;cases hp
structure WI (n k:Nat) (L:List (Nat×Nat×Nat)) (kvs:List (L2.Key×T)):Prop where
 rm:∀x,x∈L->x.1<n/\x.2.2<=1/\x.2.1<k
 ld:∀x,x∈L->∃lp:Bool,valT kvs (.inl (x.2.1:Nat))=some (.bl lp)/\(lp=true->x.2.2=0)/\(lp=false->∃r,(r,x.2.1,1-x.2.2)∈L)
 ln:L.length<=2*k
 tr:k<n->∀x,x∈L->x.1<=k
 kl:kvs.length<=k
 nd:(L.map fun x=>x.2).Nodup
 two:∀j,j<k->j<2->∃r,(r,j,0)∈L
theorem WI.skip {n k:Nat} {L:List (Nat×Nat×Nat)} {kvs:List (L2.Key×T)} (h:WI n k L kvs) (hk:n<=k+1) (hk2:2<=k):WI n (k+1) L kvs:=
 ⟨fun x hx=>by have:=h.rm x hx;omega,h.ld,by have:=h.ln;omega,fun z=>by omega,by have:=h.kl;omega,h.nd,fun j _ h2=>h.two j (by omega) h2⟩
theorem WI.step {n k r1 r2:Nat} {lp:Bool} {L:List (Nat×Nat×Nat)} {kvs:List (L2.Key×T)} (h:WI n k L kvs) (h1:r1<n) (h2:r2<n) (ht:k+1<n->r1<=k+1/\r2<=k+1):
  WI n (k+1) ((L++[(r1,k,0)])++if lp=true then [] else [(r2,k,1)]) (putT kvs (.inl (k:Nat)) (.bl lp)):=by
 have mem:∀x,x∈(L++[(r1,k,0)])++(if lp=true then [] else [(r2,k,1)])->x∈L\/x=(r1,k,0)\/(lp=false/\x=(r2,k,1)):=by
  intro x hx
  rcases (lJ1.mp hx) with hx | hx
  ·rcases (lJ1.mp hx) with hx | hx
   ·exact .inl hx
   ·exact .inr (.inl (lJr.mp hx))
  ·cases lp with
   | true=>simp at hx
   | false=>exact .inr (.inr ⟨rfl,by simpa using hx⟩)
 have hv:valT (putT kvs (.inl (k:Nat)) (.bl lp)) (.inl ((k:Nat):Int))=some (.bl lp):=by rw[jU3,lJa rfl]
 refine⟨fun x hx=> ?_,fun x hx=> ?_,?_,fun hk x hx=> ?_,?_,?_,fun j h1 h2=> ?_⟩
 ·rcases mem x hx with hx | rfl | ⟨_,rfl⟩
  ·have:=h.rm x hx;omega
  ·exact⟨h1,lJq _,lV4 k⟩
  ·exact⟨h2,lJe _,lV4 k⟩
 ·rcases mem x hx with hx | rfl | ⟨hl,rfl⟩
  ·obtain⟨lp',a1,a2,a3⟩:=h.ld x hx
   have hxk:=(h.rm x hx).2.2
   refine⟨lp',?_,a2,fun z=> ?_⟩
   ·rw[jU3,lJb];exact a1
    intro e
    have:(k:Int)=(x.2.1:Nat):=Sum.inl.inj e
    omega
   ·obtain⟨r,hr⟩:=a3 z
    exact⟨r,lK2 _ (lK2 _ hr)⟩
  ·refine⟨lp,hv,fun _=>rfl,fun z=>⟨r2,?_⟩⟩
   subst z;simp
  ·refine⟨lp,hv,fun z=> ?_,fun z=>⟨r1,by simp⟩⟩
   rw[hl] at z;cases z
 ·have:=h.ln
  cases lp<;>simp<;>omega
 ·have ht:=ht hk
  rcases mem x hx with hx | rfl | ⟨_,rfl⟩
  ·have:=h.tr (by omega) x hx;omega
  ·exact ht.1
  ·exact ht.2
 ·have:=h.kl;have:=jU6 kvs (.inl (k:Nat)) (.bl lp);omega
 ·have lt:∀y,y∈L.map (fun x:Nat×Nat×Nat=>x.2)->y.1<k:=fun y hy=>by
   obtain⟨x,hx,rfl⟩:=lJi.mp hy;exact (h.rm x hx).2.2
  have n1:((L++[(r1,k,0)]).map fun x:Nat×Nat×Nat=>x.2).Nodup:=by
   rw[lJ4]
   refine lVm.mpr ⟨h.nd,by simp,fun a ha b hb e=> ?_⟩
   have:=lt a ha
   rw[e,show b=(k,0) by simpa using hb] at this;exact lKt _ this
  cases lp with
  | true=>simpa using n1
  | false=>
   rw[lJb (by decide),lJ4]
   refine lVm.mpr ⟨n1,by simp,fun a ha b hb e=> ?_⟩
   have eb:b=(k,1):=by simpa using hb
   rw[lJ4] at ha
   rcases (lJ1.mp ha) with ha | ha
   ·have:=lt a ha;rw[e,eb] at this;exact lKt _ this
   ·have ea:a=(k,0):=by simpa using ha
    rw[ea,eb] at e;simp at e
 ·by_cases z:j=k
  ·subst z;exact⟨r1,lK2 _ (lKv _ (by simp))⟩
  ·obtain⟨r,hr⟩:=h.two j (by omega) h2
   exact⟨r,lK2 _ (lK2 _ hr)⟩
theorem HalfL.row_len {L:List (Nat×Nat×Nat)} {n r:Nat} {Hs:Web} (h:HalfL L n Hs) (hr:r<n):(row Hs r).length=(L.filter fun x=>x.1 == r).length:=by
 have hrl:r<Hs.length:=by rw[h.len];exact hr
 have h1:Hs[r]? =some Hs[r]:=lJl hrl
 rw[jQz h1,(h.perm r _ h1).length_eq,lJf]
theorem WI.free {n k:Nat} {L:List (Nat×Nat×Nat)} {kvs:List (L2.Key×T)} {Hs:Web} (h:WI n k L kvs) (hh:HalfL L n Hs) (hk:k<n):∃r,r<k+1/\(row Hs r).length<5:=by
 refine (lXc) fun hn=> ?_
 have:=kYo (L:=L) (d:=5) (k+1) fun r hr=>by
  rw[<-hh.row_len (by omega)]
  exact Nat.le_of_not_lt fun z=>hn ⟨r,hr,z⟩
 have h2:=lQo (fun x:Nat×Nat×Nat=>decide (x.1<k+1)) L
 have:=h.ln
 omega
theorem RowsAt.get {G:Gp} {h:Addr} {Hs:Web} {rs:List Addr} {x:Nat} (R:RowsAt G h Hs rs) (hx:x<Hs.length):∃a,rs[x]? =some a/\L2.atI (rs.map T.ref) (x:Int)=some (.ref a)/\G a=some (.lst ((row Hs x).map encE)):=by
 have hxl:x<rs.length:=by rw[R.2.1];exact hx
 have hr:rs[x]? =some rs[x]:=lJl hxl
 obtain⟨us,h1,h2⟩:=R.2.2 x _ hr
 exact⟨_,hr,by rw[atN,lJx,hr];rfl,by rw[jQz h1];exact h2⟩
def InsP (b D:Addr) (r k:Nat) (s:Int) (G:Gp) (K:Gp->Prop):Prop:=∃t,ixR G (.ref D) (.int (r:Nat))=some t/\tyT G "list" t/\∃t1,ixR G (.ref D) (.int (r:Nat))=some t1/\∃x,seqT G t1=some x/\jJm [.ref b,.int ((x.length:Int)+1)] G fun x G1=>2<=sizeLine/\∃p,t= .ref p/\∃x1 x2,x= .int x2/\G1 p=some (.lst x1)/\0<=x2/\x2<=(x1.length:Int)/\x1.length<sizeLine/\K (gup G1 p (.lst (insT x1 x2.toNat (.tup [.int (k:Nat),.int s]))))
theorem qUl {b D:Addr} {rs:List Addr} {n r k s c:Nat} {si:Int} {L:List (Nat×Nat×Nat)} {Hs:Web} {G:Gp} {K:Gp->Prop} (hsi:si=(s:Nat)) (hr:r<n) (hh:HalfL L n Hs) (hl:L.length<=100) (hR:RowsAt G D Hs rs) (hnd:(D::rs).Nodup) (hbD:b∉D::rs) (hb:BoxAt G b c) (hc:c<2^40)
  (kk:∀Hs' G',HalfL (L++[(r,k,s)]) n Hs'->RowsAt G' D Hs' rs->BoxAt G' b (c+1)->(∀a o,a≠b->a∉D::rs->G a=some o->G' a=some o)->K G'):InsP b D r k si G K:=by
 have hs:=sz
 have hrl:r<Hs.length:=by rw[hh.len];exact hr
 obtain⟨a,a1,a2,a3⟩:=hR.get hrl
 have hrow:Hs[r]? =some (row Hs r):=by rw[row,lJl hrl];rfl
 have hlen:=hh.len_le hrow
 have ham:a∈D::rs:=lJ3 _ (lJz a1)
 have hab:a≠b:=fun e=>hbD (e▸ham)
 have hix:ixR G (.ref D) (.int (r:Nat))=some (.ref a):=(jJ9 hR.1).trans a2
 refine⟨_,hix,by rw[jKi a3];trivial,_,hix,_,jJl a3,b,_,c,rfl,hb,hc,by omega,by rw[lJf];omega,fun x G1 x0 x1 bx kp=>⟨by omega,a,rfl,_,x,rfl,kp _ _ hab a3,x0,by omega,by rw[lJf];omega,?_⟩⟩
 rw[hsi,show T.tup [T.int (k:Nat),.int (s:Nat)]=encE (k,s) from rfl,qQe]
 refine kk _ _ (hh.ins hrow) ((hR.keep kp hbD).set hnd a1) (bx.gup hab.symm) fun a' o h1 h2 h3=> ?_
 rw[jJk fun e=>h2 (by rw[e];exact ham)];exact kp _ _ h1 h3
theorem kX8 {G:Gp} {p:Addr} {kvs:List (L2.Key×T)} {k:Int} {v:T} (h:G p=some (.dck kvs)) (hz:kvs.length<sizeLine):setR G (.ref p) (.int k) v=some (gup G p (.dck (putT kvs (.inl k) v))):=by
 simp only[setR,h,jQm];rw[lJa hz]
noncomputable def qXm:List Str:=["_law_box_here","_law_size","_law_more","_law_sides","_law_leads","_law_k","_law_free","_law_one","_law_other","_law_ahead","_law_loop","_law_where","_law_room","_law_door","_law_side","_law_ends"]
noncomputable def kJm:TS3:=
 (tSeq (tAsg (jKu [false,false,false,false,false,false,false,false,false,false,false,false,true,false,false,false] (jKp (jJc (tVar 1) tNil)) (jJh 12) jQw (tLst tNil)) (jJh 3))
 (tSeq (tAsg jQk (jJh 4))
 (tSeq (tFor (jKp (jJc (tOp jKm (tOp rSub (tVar 1) (tC (.int 1))) (tVar 2)) tNil)) (jJh 5) (tSeq (tAsg (jKu [false,false,false,false,false,false,false,false,false,false,false,false,true,false,false,false] (jKp (jJc (tVar 1) tNil)) (jJh 12) (jJt (tOp rLt (tCB rLen (jJc (tOp rIxF (tVar 3) (tVar 12)) tNil)) (tC (.int 5)))) (tVar 12)) (jJh 6))
 (tSeq (tIfS (jJt (tOp rEqA (tVar 6) (tLst tNil))) jZ7 jKa)
 (tSeq (tAsg (tOp rIxF (tVar 6) (jJx jJm (jJc (tVar 0) (jJc (tCB rLen (jJc (tVar 6) tNil)) tNil)))) (jJh 7))
 (tSeq (tAsg (tOp rIxF (tVar 6) (jJx jJm (jJc (tVar 0) (jJc (tCB rLen (jJc (tVar 6) tNil)) tNil)))) (jJh 8))
 (tSeq (tIfS (jJt (tOp rLt (tVar 5) (tOp rSub (tVar 1) (tC (.int 1))))) (tSeq (tAsg (tOp jKm (tVar 5) (tC (.int 1))) (jJh 8))
 (tSeq (tAsg (jKu [false,false,false,false,false,false,false,false,false,false,false,false,true,false,false,false] (iSeq (tVar 6)) (jJh 12) (jJt (tOp rLeF (tVar 12) (tVar 5))) (tVar 12)) (jJh 9))
 (tAsg (tOp rIxF (tVar 9) (jJx jJm (jJc (tVar 0) (jJc (tCB rLen (jJc (tVar 9) tNil)) tNil)))) (jJh 7)))) jKa)
 (tSeq (tAsg (jZi (tOp rGe (tVar 5) (tOp rSub (tVar 1) (tC (.int 1)))) (tOp rEqA (jJx jJm (jJc (tVar 0) (jJc (tC (.int 4)) tNil))) (tC (.int 0)))) (jJh 10))
 (tSeq (tAsg (tVar 10) (gSub (tVar 4) (tVar 5) jQ1))
 (tSeq (jQc (tBM "list" jXl (tOp rIxF (tVar 3) (tVar 7)) (jJc (jJx jJm (jJc (tVar 0) (jJc (tOp jKm (tCB rLen (jJc (tOp rIxF (tVar 3) (tVar 7)) tNil)) (tC (.int 1))) tNil))) (jJc (tTup (jJc (tVar 5) (jJc (tC (.int 0)) tNil))) tNil))))
 (tIfS (tNot (tTru rTru (tVar 10))) (jQc (tBM "list" jXl (tOp rIxF (tVar 3) (tVar 8)) (jJc (jJx jJm (jJc (tVar 0) (jJc (tOp jKm (tCB rLen (jJc (tOp rIxF (tVar 3) (tVar 8)) tNil)) (tC (.int 1))) tNil))) (jJc (tTup (jJc (tVar 5) (jJc (tC (.int 1)) tNil))) tNil)))) jKa))))))))))
 (tSeq (tAsg jQk (jJh 11))
 (tSeq (tFor (jKp (jJc (tVar 1) tNil)) (jJh 12) (tFor (kUc (jJc (tOp rIxF (tVar 3) (tVar 12)) tNil)) (gTup 2 (jKd (jJh 13) (jKd (jJh 14) gNil))) (tAsg (tTup (jJc (tVar 12) (jJc (tVar 13) tNil))) (gSub (tVar 11) (tVar 14) jQ1))))
 (tRet (tCB jJz (jJc (jKu [false,false,false,false,false,false,false,false,false,false,false,false,false,false,false,true] (iSeq (tVar 3)) (jJh 15) jQw (tCB jJz (jJc (jKu [false,false,false,false,false,true,false,false,false,false,false,false,false,false,true,false] (iSeq (tVar 15)) (gTup 2 (jKd (jJh 5) (jKd (jJh 14) gNil))) jQw (tOp rIxF (tVar 11) (tTup (jJc (tVar 5) (jJc (tIf (jJt (tOp rIxF (tVar 4) (tVar 5))) (tVar 14) (tOp rSub (tC (.int 1)) (tVar 14))) tNil))))) tNil))) tNil))))))))
noncomputable def kJl:TS3:=(tSeq (tAsg (jZi (tOp rGe (tVar 5) (tOp rSub (tVar 1) (tC (.int 1)))) (tOp rEqA (jJx jJm (jJc (tVar 0) (jJc (tC (.int 4)) tNil))) (tC (.int 0)))) (jJh 10))
 (tSeq (tAsg (tVar 10) (gSub (tVar 4) (tVar 5) jQ1))
 (tSeq (jQc (tBM "list" jXl (tOp rIxF (tVar 3) (tVar 7)) (jJc (jJx jJm (jJc (tVar 0) (jJc (tOp jKm (tCB rLen (jJc (tOp rIxF (tVar 3) (tVar 7)) tNil)) (tC (.int 1))) tNil))) (jJc (tTup (jJc (tVar 5) (jJc (tC (.int 0)) tNil))) tNil))))
 (tIfS (tNot (tTru rTru (tVar 10))) (jQc (tBM "list" jXl (tOp rIxF (tVar 3) (tVar 8)) (jJc (jJx jJm (jJc (tVar 0) (jJc (tOp jKm (tCB rLen (jJc (tOp rIxF (tVar 3) (tVar 8)) tNil)) (tC (.int 1))) tNil))) (jJc (tTup (jJc (tVar 5) (jJc (tC (.int 1)) tNil))) tNil)))) jKa))))
noncomputable def kJk:TS3:=(tSeq (tAsg jQk (jJh 11))
 (tSeq (tFor (jKp (jJc (tVar 1) tNil)) (jJh 12) (tFor (kUc (jJc (tOp rIxF (tVar 3) (tVar 12)) tNil)) (gTup 2 (jKd (jJh 13) (jKd (jJh 14) gNil))) (tAsg (tTup (jJc (tVar 12) (jJc (tVar 13) tNil))) (gSub (tVar 11) (tVar 14) jQ1))))
 (tRet (tCB jJz (jJc (jKu [false,false,false,false,false,false,false,false,false,false,false,false,false,false,false,true] (iSeq (tVar 3)) (jJh 15) jQw (tCB jJz (jJc (jKu [false,false,false,false,false,true,false,false,false,false,false,false,false,false,true,false] (iSeq (tVar 15)) (gTup 2 (jKd (jJh 5) (jKd (jJh 14) gNil))) jQw (tOp rIxF (tVar 11) (tTup (jJc (tVar 5) (jJc (tIf (jJt (tOp rIxF (tVar 4) (tVar 5))) (tVar 14) (tOp rSub (tC (.int 1)) (tVar 14))) tNil))))) tNil))) tNil)))))
theorem kYd:kJm=(tSeq (tAsg (jKu [false,false,false,false,false,false,false,false,false,false,false,false,true,false,false,false] (jKp (jJc (tVar 1) tNil)) (jJh 12) jQw (tLst tNil)) (jJh 3))
 (tSeq (tAsg jQk (jJh 4))
 (tSeq (tFor (jKp (jJc (tOp jKm (tOp rSub (tVar 1) (tC (.int 1))) (tVar 2)) tNil)) (jJh 5) (tSeq (tAsg (jKu [false,false,false,false,false,false,false,false,false,false,false,false,true,false,false,false] (jKp (jJc (tVar 1) tNil)) (jJh 12) (jJt (tOp rLt (tCB rLen (jJc (tOp rIxF (tVar 3) (tVar 12)) tNil)) (tC (.int 5)))) (tVar 12)) (jJh 6))
 (tSeq (tIfS (jJt (tOp rEqA (tVar 6) (tLst tNil))) jZ7 jKa)
 (tSeq (tAsg (tOp rIxF (tVar 6) (jJx jJm (jJc (tVar 0) (jJc (tCB rLen (jJc (tVar 6) tNil)) tNil)))) (jJh 7))
 (tSeq (tAsg (tOp rIxF (tVar 6) (jJx jJm (jJc (tVar 0) (jJc (tCB rLen (jJc (tVar 6) tNil)) tNil)))) (jJh 8))
 (tSeq (tIfS (jJt (tOp rLt (tVar 5) (tOp rSub (tVar 1) (tC (.int 1))))) (tSeq (tAsg (tOp jKm (tVar 5) (tC (.int 1))) (jJh 8))
 (tSeq (tAsg (jKu [false,false,false,false,false,false,false,false,false,false,false,false,true,false,false,false] (iSeq (tVar 6)) (jJh 12) (jJt (tOp rLeF (tVar 12) (tVar 5))) (tVar 12)) (jJh 9))
 (tAsg (tOp rIxF (tVar 9) (jJx jJm (jJc (tVar 0) (jJc (tCB rLen (jJc (tVar 9) tNil)) tNil)))) (jJh 7)))) jKa)
 kJl))))))
 kJk))):=rfl
theorem qJw {E:Ends3} {b D d:Addr} {rs:List Addr} {n m k r1 r2 c:Nat} {v6 v9 v10 v11 v12 v13 v14 v15:Option T} {L:List (Nat×Nat×Nat)} {Hs:Web} {kvs:List (L2.Key×T)} {G:Gp} (hn:n<=12) (hk:k<20) (h1:r1<n) (h2:r2<n) (w:WI n k L kvs) (hh:HalfL L n Hs) (hR:RowsAt G D Hs rs) (hnd:(D::rs).Nodup) (hbD:b∉D::rs) (hdD:d∉D::rs) (hbd:b≠d) (hd:G d=some (.dck kvs)) (hb:BoxAt G b c) (hc:c+10<2^40)
  (kk:∀lp L' Hs' G' v10,L'=(L++[(r1,k,0)])++(if lp=true then [] else [(r2,k,1)])->HalfL L' n Hs'->RowsAt G' D Hs' rs->G' d=some (.dck (putT kvs (.inl (k:Nat)) (.bl lp)))->BoxAt G' b (c+3)->(∀a o,a≠b->a≠d->a∉D::rs->G a=some o->G' a=some o)->E.nx [some (.ref b),some (.int n),some (.int m),some (.ref D),some (.ref d),some (.int k),v6,some (.int r1),some (.int r2),v9,v10,v11,v12,v13,v14,v15] G'):
  kJl E [some (.ref b),some (.int n),some (.int m),some (.ref D),some (.ref d),some (.int k),v6,some (.int r1),some (.int r2),v9,v10,v11,v12,v13,v14,v15] G:=by
 have hs:=sz
 wp_walk using 1,kJl,rEqA
 have hkl:=w.kl
 have hln:=w.ln
 have fin:∀(lp:Bool) G1 c1 (K1:Gp->Prop),BoxAt G1 b c1->c1<=c+1->Keep b G G1->(∀G2,(if lp=false then InsP b D r2 k 1 G2 (fun G3=>E.nx [some (.ref b),some (.int n),some (.int m),some (.ref D),some (.ref d),some (.int k),v6,some (.int r1),some (.int r2),v9,some (.bl lp),v11,v12,v13,v14,v15] G3) else E.nx [some (.ref b),some (.int n),some (.int m),some (.ref D),some (.ref d),some (.int k),v6,some (.int r1),some (.int r2),v9,some (.bl lp),v11,v12,v13,v14,v15] G2)->K1 G2)->∃G',setR G1 (.ref d) (.int (k:Nat)) (.bl lp)=some G'/\InsP b D r1 k 0 G' K1:=by
  intro lp G1 c1 K1 bx hc1 kp hK1
  have hd1:=kp _ _ hbd.symm hd
  have hdn:∀a,a∈D::rs->a≠d:=fun a ha e=>hdD (e▸ha)
  refine⟨_,kX8 hd1 (by omega),?_⟩
  have R1:RowsAt (gup G1 d (.dck (putT kvs (.inl (k:Nat)) (.bl lp)))) D Hs rs:=by
   have R0:=hR.keep kp hbD
   exact⟨by rw[jJk (hdn D (lJ7 ..))];exact R0.1,R0.2.1,fun i r e=>by
    obtain⟨h0,e1,e2⟩:=R0.2.2 i r e
    exact⟨h0,e1,by rw[jJk (hdn r (lJ3 _ (lJz e)))];exact e2⟩⟩
  refine qUl (s:=0) (c:=c1) rfl h1 hh (by omega) R1 hnd hbD (bx.gup hbd) (by omega) fun Hs1 G2 hh1 R2 b2 g2=>hK1 G2 ?_
  have hd2:=g2 d _ hbd.symm hdD jJf
  cases lp with
  | true=>
   rw[lJb (by decide)]
   refine kk true _ Hs1 G2 _ rfl (by simpa using hh1) R2 hd2 (b2.mono (by omega)) fun a o e1 e2 e3 e4=> ?_
   exact g2 a o e1 e3 (by rw[jJk e2];exact kp _ _ e1 e4)
  | false=>
   rw[lJa rfl]
   refine qUl (s:=1) (c:=c1+1) rfl h2 hh1 (by simp;omega) R2 hnd hbD b2 (by omega) fun Hs2 G3 hh2 R3 b3 g3=> ?_
   refine kk false _ Hs2 G3 _ rfl (by simpa using hh2) R3 (g3 d _ hbd.symm hdD hd2) (b3.mono (by omega)) fun a o e1 e2 e3 e4=> ?_
   exact g3 a o e1 e3 (g2 a o e1 e3 (by rw[jJk e2];exact kp _ _ e1 e4))
 split
 ·refine⟨b,4,c,rfl,hb,by omega,by decide,by decide,fun z G1 z0 z1 bx kp=>⟨decide (z=0),jY5,?_⟩⟩
  exact fin (decide (z=0)) G1 (c+1) _ bx (lJe _) kp fun _ h=>h
 ·exact fin false G c _ hb (by omega) (.refl _ _) fun G2 h=>by rw[lJa rfl] at h;exact h
noncomputable def kJb:Sp3:=fun xs G Q=>∃(b:Addr) (n m c:Nat),xs=[.ref b,.int n,.int m]/\BoxAt G b c/\c+300<2^40/\1<=n/\n<=12/\m<=5/\∀(W:Web) G',Fine W->Sym W->(∀(r:Nat) (es:List (Nat×Nat)),W[r]? =some es->es.length<=2*(n-1+m))->W.length=n->BoxAt G' b (c+100)->Keep b G G'->Q (encW W) G'
theorem kZ6 {mask:List Bool} {g:TG3} {tif:TT3} {te:TE3} {τ:St3} {xs:List T} {stay:Gp->Prop} {G:Gp} {Q:VK3} (Pr:Nat->T->Prop) (hz:xs.length<=sizeLine) (hst:∀G',Sub G G'->stay G')
  (h:∀(i:Nat) x,xs[i]? =some x->∀G' (K:T->Gp->Prop) (K0:Gp->Prop),Sub G G'->(∀t G4,Pr i t->Sub G' G4->K t G4)->g x (msk mask τ) G' fun τ2 G2=>tif τ2 G2 fun b G3=>if b=true then te τ2 G3 K else K0 G3)
  (hq:∀D ts G',G D=none->G' D=some (.lst ts)->ts.length=xs.length->(∀(i:Nat) t,ts[i]? =some t->Pr i t)->Sub G G'->Q (.ref D) G'):jU2 mask g tif te τ xs stay G Q:=by
 intro D hD
 refine⟨fun i acc G'=>acc.length=i/\(∀(j:Nat) t,acc[j]? =some t->Pr j t)/\Sub G G'/\G' D=some (.lst acc),?_,?_,?_,?_⟩
 ·exact⟨rfl,fun j t z=>by simp at z,.new hD,jJf⟩
 ·rintro i acc G' hi ⟨j1,j2,j4,j5⟩
  exact⟨hst G' j4,j5⟩
 ·rintro i x acc G3 hx ⟨j1,j2,j4,j5⟩
  have hi:i<xs.length:=(lJh.mp hx).1
  refine h i x hx G3 _ _ j4 fun t G4 hp kp=> ?_
  refine⟨kp _ _ j5,by omega,by simp[j1],?_,(j4.trans kp).over hD,jJf⟩
  intro j u hu
  by_cases hjl:j<acc.length
  ·rw[lQi hjl] at hu;exact j2 j u hu
  ·have:=(lJh.mp hu).1
   simp at this
   have:j=acc.length:=by omega
   subst this
   rw[lVu (lJe _)] at hu
   simp at hu;subst hu
   rw[j1];exact hp
 ·rintro acc G3 ⟨j1,j2,j4,j5⟩
  exact hq D acc G3 hD j5 j1 j2 j4
theorem kJs {β:Type} {enc:β->T}:∀(ts:List T) (P:Nat->β->Prop),(∀(i:Nat) t,ts[i]? =some t->∃b,t=enc b/\P i b)->∃bs:List β,ts=bs.map enc/\∀(i:Nat) b,bs[i]? =some b->P i b
 | [],_,_=>⟨[],rfl,fun i b h=>by simp at h⟩
 | t::ts,P,h=>by
  obtain⟨b,rfl,hb⟩:=h 0 t rfl
  obtain⟨bs,rfl,h2⟩:=kJs ts (fun i=>P (i+1)) fun i t hi=>h (i+1) t hi
  refine⟨b::bs,rfl,fun i c hc=> ?_⟩
  cases i with
  | zero=>cases hc;exact hb
  | succ i=>exact h2 i c hc
def par (kvs:List (L2.Key×T)) (x:Nat×Nat):Nat×Nat:=match valT kvs (.inl (x.1:Nat)) with
 | some (.bl true)=>x
 | _=>(x.1,1-x.2)
def Has (Hs:Web) (kvs:List (L2.TKey×T)) (x:Nat×Nat):Prop:=∃e:Nat×Nat,valT kvs (keyE x)=some (encE e)/\en Hs e.1 e.2=some x
theorem Has.put {Hs:Web} {kvs:List (L2.TKey×T)} {x y e:Nat×Nat} (h:Has Hs kvs x) (he:en Hs e.1 e.2=some y):Has Hs (putT kvs (keyE y) (encE e)) x:=by
 obtain⟨f,h1,h2⟩:=h
 unfold Has
 rw[jU3]
 by_cases z:keyE y=keyE x
 ·rw[lJa z];cases jYa z;exact⟨e,rfl,he⟩
 ·rw[lJb z];exact⟨f,h1,h2⟩
theorem Has.self {Hs:Web} {kvs:List (L2.TKey×T)} {y e:Nat×Nat} (he:en Hs e.1 e.2=some y):Has Hs (putT kvs (keyE y) (encE e)) y:=⟨e,by rw[jU3,lJa rfl],he⟩
theorem qUi {α β:Type} {f:α->β}:∀ {L:List α},(L.map f).Nodup->∀ {a b:α},a∈L->b∈L->f a=f b->a=b
 | x::L,h,a,b,ha,hb,e=>by
  rw[lJn,lKp] at h
  rcases (lJj.mp ha) with ea | ha'
  ·rcases (lJj.mp hb) with eb | hb'
   ·rw[ea,eb]
   ·exact absurd (by rw[<-ea,e];exact lV5 hb') h.1
  ·rcases (lJj.mp hb) with eb | hb'
   ·exact absurd (by rw[<-eb,<-e];exact lV5 ha') h.1
   ·exact qUi h.2 ha' hb' e
theorem HalfL.one {L:List (Nat×Nat×Nat)} {n r i r' i':Nat} {x:Nat×Nat} {Hs:Web} (h:HalfL L n Hs) (nd:(L.map fun x=>x.2).Nodup) (h1:en Hs r i=some x) (h2:en Hs r' i'=some x):r=r'/\i=i':=by
 have hrr:r=r':=lKl Prod.fst (qUi nd (h.mem h1) (h.mem h2) rfl)
 subst hrr
 refine⟨rfl,?_⟩
 obtain⟨es,z1,z2⟩:=jVn h1
 obtain⟨es',z3,z4⟩:=jVn h2
 rw[z1] at z3;cases z3
 have nd:es.Nodup:=by
  rw[(h.perm r es z1).nodup_iff]
  exact (List.filter_sublist.map _).nodup nd
 exact (lQy (lJh.mp z2).1 nd).mp (z2.trans z4.symm)
structure Tied (Hs W:Web) (f:Nat×Nat->Nat×Nat):Prop where
 len:W.length=Hs.length
 rl:∀(r:Nat) (es:List (Nat×Nat)),W[r]? =some es->es.length=(row Hs r).length
 to:∀r i x,en Hs r i=some x->∃e,en W r i=some e/\en Hs e.1 e.2=some (f x)
theorem Tied.at {Hs W:Web} {f:Nat×Nat->Nat×Nat} (t:Tied Hs W f) {r i:Nat} {e:Nat×Nat} (h:en W r i=some e):∃x,en Hs r i=some x/\en Hs e.1 e.2=some (f x):=by
 obtain⟨es,h1,h2⟩:=jVn h
 have hr:r<Hs.length:=by rw[<-t.len];exact (lJh.mp h1).1
 have hrow:Hs[r]? =some (row Hs r):=by rw[row,lJl hr];rfl
 have hi:i<(row Hs r).length:=by rw[<-t.rl r es h1];exact (lJh.mp h2).1
 have hx:=jX3 hrow (lJl hi)
 obtain⟨e',q1,q2⟩:=t.to r i _ hx
 rw[h] at q1;cases q1
 exact⟨_,hx,q2⟩
theorem Tied.sym {Hs W:Web} {f:Nat×Nat->Nat×Nat} (t:Tied Hs W f) (one:∀r i r' i' x,en Hs r i=some x->en Hs r' i'=some x->r=r'/\i=i') (inv:∀r i x,en Hs r i=some x->f (f x)=x):Sym W:=by
 intro r i s j h
 obtain⟨x,h1,h2⟩:=t.at h
 obtain⟨e,h3,h4⟩:=t.to s j _ h2
 rw[inv r i x h1] at h4
 obtain⟨q1,q2⟩:=one _ _ _ _ _ h4 h1
 rw[h3];congr 1;exact Prod.ext q1 q2
theorem qV3 {G:Gp} {p:Addr} {kvs:List (L2.Key×T)} {k:Int} {t:T} (h:G p=some (.dck kvs)) (ht:valT kvs (.inl k)=some t):ixR G (.ref p) (.int k)=some t:=by
 simp only[ixR,seqT,h,asL,dAt,jQm,ht]
theorem qUt {Q:VK3} {b D d:Addr} {rs:List Addr} {n k:Nat} {m:Int} {v5 v6 v7 v8 v9 v10 v12:Option T} {L:List (Nat×Nat×Nat)} {Hs:Web} {kvs:List (L2.Key×T)} {G:Gp} (hn:n<=12) (w:WI n k L kvs) (hh:HalfL L n Hs) (hR:RowsAt G D Hs rs) (hd:G d=some (.dck kvs)) (hk:k<20)
  (kk:∀(W:Web) G',Fine W->Sym W->(∀(r:Nat) (es:List (Nat×Nat)),W[r]? =some es->es.length<=2*k)->W.length=n->Sub G G'->Q (encW W) G'):
  kJk {nx:=fun _ G'=>Q .non G',rt:=Q} [some (.ref b),some (.int n),some (.int m),some (.ref D),some (.ref d),v5,v6,v7,v8,v9,v10,none,v12,none,none,none] G:=by
 have hs:=sz
 have hln:=w.ln
 wp_walk using 1,kJk,jQk,jKq,jKp,kUc
 refine .inl fun p hp=>⟨by omega,by omega,?_⟩
 rw[show ((n:Nat):Int).toNat=n by omega]
 let J1:Nat->St3->Gp->Prop:=fun r τ G'=>∃(v12 v13 v14:Option T) (ws:List (L2.TKey×T)),τ=[some (.ref b),some (.int n),some (.int m),some (.ref D),some (.ref d),v5,v6,v7,v8,v9,v10,some (.ref p),v12,v13,v14,none]/\G' p=some (.dct ws)/\ws.length<=100*r/\(∀r',r'<r->∀x,x∈row Hs r'->Has Hs ws x)/\Sub G G'
 refine⟨J1,?_,?_,?_,?_⟩
 ·exact xi4 _ _ _ [] rfl ⟨jJf,lJq _,fun r hr=>absurd hr (lQd _),.new hp⟩
 ·intros;trivial
 ·intro r y τ G1 hy h_;apply xe4 h_;clear h_;intro v12 v13 v14 ws h_;apply ae4 h_;clear h_;intro h1 h2 h3 s1
  obtain⟨hr,rfl⟩:=jQq hy
  have hrl:r<Hs.length:=by rw[hh.len];exact hr
  have hrow:Hs[r]? =some (row Hs r):=by rw[row,lJl hrl];rfl
  have hlen:=hh.len_le hrow
  have R1:=hR.sub s1
  obtain⟨a,a1,a2,a3⟩:=R1.get hrl
  wp_walk using 1,jKq,kUc,jJ9 R1.1,a2
  have hla:jK4 G1 (.ref a)=some ((row Hs r).map encE):=by rw[show jK4 G1 (.ref a)=asL (G1 a) from rfl,a3];rfl
  refine⟨_,hla,?_⟩
  let J2:Nat->St3->Gp->Prop:=fun i τ G'=>∃(v13 v14:Option T) (ws:List (L2.TKey×T)),τ=[some (.ref b),some (.int n),some (.int m),some (.ref D),some (.ref d),v5,v6,v7,v8,v9,v10,some (.ref p),some (.int r),v13,v14,none]/\G' p=some (.dct ws)/\ws.length<=100*r+i/\(∀r',r'<r->∀x,x∈row Hs r'->Has Hs ws x)/\(∀x,x∈(row Hs r).take i->Has Hs ws x)/\Sub G G'
  refine⟨J2,?_,?_,?_,?_⟩
  ·exact xi3 _ _ ws rfl ⟨h1,h2,h3,fun x hx=>by simp at hx,s1⟩
  ·intro i τ G' hi h_;apply xe3 h_;clear h_;intro v13 v14 ws h_;apply ae5 h_;clear h_;intro i1 i2 i3 i4 s2
   obtain⟨a',b1,b2,b3⟩:=(hR.sub s2).get hrl
   rw[a1] at b1;cases b1
   rw[show jK4 G' (.ref a)=asL (G' a) from rfl,b3];rfl
  ·intro i y τ G2 hy h_;apply xe3 h_;clear h_;intro v13 v14 ws h_;apply ae5 h_;clear h_;intro i1 i2 i3 i4 s2
   obtain⟨z,hz,rfl⟩:=jYy hy
   obtain⟨x,hx,rfl⟩:=jKt hz
   have hi:i<(row Hs r).length:=(lJh.mp hx).1
   wp_walk using 1,tSeq
   refine⟨by omega,_,jVs i1 (ks:=keyE x) rfl (by omega),xi3 _ _ (putT ws (keyE x) (encE (r,i))) rfl ⟨jJf,by have:=jU6 ws (keyE x) (encE (r,i));omega,fun r' hr' x' hx'=>(i3 r' hr' x' hx').put (e:=(r,i)) (jX3 hrow hx),fun x' hx'=> ?_,s2.over hp⟩⟩
   rw[lQv,hx] at hx'
   rcases (lJ1.mp hx') with hx' | hx'
   ·exact (i4 x' hx').put (e:=(r,i)) (jX3 hrow hx)
   ·have:x'=x:=by simpa using hx'
    subst this;exact Has.self (e:=(r,i)) (jX3 hrow hx)
  ·intro τ G2 h_;apply xe3 h_;clear h_;intro v13 v14 ws h_;apply ae5 h_;clear h_;intro i1 i2 i3 i4 s2
   rw[jX7,lJf,lQ6] at i4
   rw[jX7,lJf] at i2
   refine xi4 _ _ _ ws rfl ⟨i1,by omega,fun r' hr' x hx=> ?_,s2⟩
   by_cases z:r'=r
   ·subst z;exact i4 x hx
   ·exact i3 r' (by omega) x hx
 ·intro τ G1 h_;apply xe4 h_;clear h_;intro v12 v13 v14 ws h_;apply ae4 h_;clear h_;intro h1 h2 h3 s1
  rw[jKv] at h3
  have R1:=hR.sub s1
  wp_walk using 1,iSeq,jJl R1.1
  have hrn:rs.length=n:=by rw[hR.2.1];exact hh.len
  have has:∀r y,(r,y)∈L->Has Hs ws y:=fun r y hy=>by
   have hr:=(w.rm _ hy).1
   obtain⟨q,hq⟩:=hh.of hr hy
   obtain⟨es,e1,e2⟩:=jVn hq
   exact h3 r hr y (by rw[jQz e1];exact lJz e2)
  refine kZ6 (fun i t=>∃es:List (Nat×Nat),t=encR es/\es.length=(row Hs i).length/\∀(j:Nat) e,es[j]? =some e->∀x,(row Hs i)[j]? =some x->en Hs e.1 e.2=some (par kvs x)) (by rw[lJf];omega) (fun G' s=>jJl (s _ _ R1.1)) ?_ ?_
  ·intro i x hx G2 K K0 s2 hK
   obtain⟨a,ha,rfl⟩:=jKt hx
   have hi:i<n:=by rw[<-hrn];exact (lJh.mp ha).1
   have hrl:i<Hs.length:=by rw[hh.len];exact hi
   have hrow:Hs[i]? =some (row Hs i):=by rw[row,lJl hrl];rfl
   have hlen:=hh.len_le hrow
   obtain⟨a',b1,b2,b3⟩:=(R1.sub s2).get hrl
   rw[ha] at b1;cases b1
   wp_walk using 1,iSeq,jJl b3
   refine kZ6 (fun j t=>∃e:Nat×Nat,t=encE e/\∀x,(row Hs i)[j]? =some x->en Hs e.1 e.2=some (par kvs x)) (by rw[lJf];omega) (fun G' s=>jJl (s _ _ b3)) ?_ ?_
   ·intro j y hy G3 K2 K3 s3 hK2
    obtain⟨x,hxj,rfl⟩:=jKt hy
    have hxL:(i,x)∈L:=hh.mem (jX3 hrow hxj)
    obtain⟨lp,l1,l2,l3⟩:=w.ld _ hxL
    obtain⟨_,m2,_⟩:=w.rm _ hxL
    have hd3:=s3 _ _ (s2 _ _ (s1 _ _ hd))
    have hp3:=s3 _ _ (s2 _ _ h1)
    wp_walk using 1,encE,qV3 hd3 l1
    cases lp with
    | true=>
     have hp:par kvs x=x:=by unfold par;rw[l1]
     obtain⟨e,e1,e2⟩:=has _ _ hxL
     wp_walk using 1,tSeq
     exact⟨by omega,_,jXr hp3 (ks:=keyE x) rfl e1,hK2 _ G3 ⟨e,rfl,fun x' hx'=>by rw[hxj] at hx';cases hx';rw[hp];exact e2⟩ (.refl _)⟩
    | false=>
     have hp:par kvs x=(x.1,1-x.2):=by unfold par;rw[l1]
     obtain⟨r',hr'⟩:=l3 rfl
     obtain⟨e,e1,e2⟩:=has _ _ hr'
     wp_walk using 1,tSeq
     refine⟨by omega,_,jXr hp3 (ks:=keyE (x.1,1-x.2)) ?_ e1,hK2 _ G3 ⟨e,rfl,fun x' hx'=>by rw[hxj] at hx';cases hx';rw[hp];exact e2⟩ (.refl _)⟩
     rw[show (1:Int)-(x.2:Nat)=((1-x.2:Nat):Int) by have:x.2<=1:=m2;omega];rfl
   ·intro E ts G3 hE hE3 hl hts s3
    obtain⟨es,rfl,hes⟩:=kJs ts _ hts
    simp only[lJf] at hl
    exact⟨_,jJl hE3,hK _ G3 ⟨es,rfl,hl,hes⟩ s3⟩
  ·intro E ts G2 hE hE2 hl hts s2
   obtain⟨W,rfl,hW⟩:=kJs ts _ hts
   simp only[lJf] at hl
   have ti:Tied Hs W (par kvs):=⟨by rw[hl,hrn,hh.len],fun r es h=>(hW r es h).1,fun r i x hx=>by
    obtain⟨ro,q1,q2⟩:=jVn hx
    have hrl:r<Hs.length:=(lJh.mp q1).1
    have hWr:W[r]? =some (W[r]'(by rw[hl,hrn,<-hh.len];exact hrl)):=lJl _
    obtain⟨g1,g2⟩:=hW r _ hWr
    rw[jQz q1] at g1 g2
    have hi:i<(W[r]'(by rw[hl,hrn,<-hh.len];exact hrl)).length:=by rw[g1];exact (lJh.mp q2).1
    exact⟨_,jX3 hWr (lJl hi),g2 i _ (lJl hi) x q2⟩⟩
   have inv:∀r i x,en Hs r i=some x->par kvs (par kvs x)=x:=fun r i x hx=>by
    have hxL:=hh.mem hx
    obtain⟨lp,l1,l2,l3⟩:=w.ld _ hxL
    have m2:x.2<=1:=(w.rm _ hxL).2.1
    cases lp with
    | true=>
     have hp:par kvs x=x:=by unfold par;rw[l1]
     rw[hp,hp]
    | false=>
     have hp:par kvs x=(x.1,1-x.2):=by unfold par;rw[l1]
     have hp2:par kvs (x.1,1-x.2)=(x.1,1-(1-x.2)):=by unfold par;rw[l1]
     rw[hp,hp2];exact Prod.ext rfl (by show 1-(1-x.2)=x.2;omega)
   have sym:Sym W:=ti.sym (fun r i r' i' x=>hh.one w.nd) inv
   have few:∀(r:Nat) (es:List (Nat×Nat)),W[r]? =some es->es.length<=2*k:=fun r es h=>by
    rw[(hW r es h).1]
    have hrl:r<Hs.length:=by rw[<-ti.len];exact (lJh.mp h).1
    have:=hh.len_le (show Hs[r]? =some (row Hs r) by rw[row,lJl hrl];rfl)
    omega
   exact⟨_,jJl hE2,kk W G2 ⟨by omega,fun r es h=>by have:=few r es h;omega,fun r i s j h=>en_lt (sym _ _ _ _ h)⟩ sym few (by omega) (s1.trans s2)⟩
theorem kVy:RdOk kJb kJm qXm:=by
 intro xs G Q h_;apply xe4 h_;clear h_;intro b n m c h_;apply ae6 h_;clear h_;intro hb hc hn1 hn2 hm kk
 show kJm _ [some (.ref b),some (.int n),some (.int m),none,none,none,none,none,none,none,none,none,none,none,none,none] G
 have hs:=sz
 rw[kYd]
 wp_walk using 1,jKq,jKp
 refine⟨by omega,by omega,?_⟩
 obtain⟨bo,hbo⟩:=hb.some
 rw[show ((n:Nat):Int).toNat=n by omega,jUb]
 refine jZz (fun _=>[]) (by simp;omega) (fun _ _=>trivial) ?_ ?_
 ·intro x x' hx G' K K0 s hk
  wp_walk using 1,tSeq
  exact⟨by omega,fun p hp=>hk p _ hp jJf (.new hp)⟩
 ·intro D rs G1 hD hD1 s1 hrl hnd hrs
  rw[lKr] at hrl
  wp_walk using 1,jQk
  refine .inr fun d hd=>⟨by omega,by omega,?_⟩
  have hdG:=s1.none hd
  have hfr:∀r,r∈D::rs->G r=none:=by
   intro r z
   rcases (lJj.mp z) with rfl | z
   ·exact hD
   obtain⟨j,hj⟩:=lKj z
   have hjl:j<rs.length:=(lJh.mp hj).1
   exact (hrs j r j hj (by rw[lQ0 (by omega)])).1
  have hsm:∀r,r∈D::rs->∃o,G1 r=some o:=by
   intro r z
   rcases (lJj.mp z) with rfl | z
   ·exact⟨_,hD1⟩
   obtain⟨j,hj⟩:=lKj z
   have hjl:j<rs.length:=(lJh.mp hj).1
   exact⟨_,(hrs j r j hj (by rw[lQ0 (by omega)])).2⟩
  have hbD:b∉D::rs:=fun z=>by have:=hfr b z;rw[hbo] at this;cases this
  have hdD:d∉D::rs:=fun z=>by obtain⟨o,ho⟩:=hsm d z;rw[hd] at ho;cases ho
  have hbd:b≠d:=jJg (s1 _ _ hbo) hd
  rw[show (((n:Nat):Int)-1+(m:Nat)).toNat=n-1+m by omega]
  let J1:Nat->St3->Gp->Prop:=fun k τ G'=>∃(v5 v6 v7 v8 v9 v10 v12:Option T) (L:List (Nat×Nat×Nat)) (Hs:Web) (kvs:List (L2.Key×T)),τ=[some (.ref b),some (.int n),some (.int m),some (.ref D),some (.ref d),v5,v6,v7,v8,v9,v10,none,v12,none,none,none]/\WI n k L kvs/\HalfL L n Hs/\RowsAt G' D Hs rs/\G' d=some (.dck kvs)/\BoxAt G' b (c+6*k)/\Keep b G G'
  refine⟨J1,?_,?_,?_,?_⟩
  ·refine xi10 none none none none none none none [] (List.replicate n []) [] rfl ⟨⟨fun x hx=>(by cases hx),fun x hx=>(by cases hx),lJe _,fun _ x hx=>(by cases hx),lJe _,List.nodup_nil,fun j h=>absurd h (lQd _)⟩,⟨by simp,?_⟩,⟨?_,by simp[hrl],?_⟩,jJf,(hb.sub s1).gup hbd,(Keep.sub s1).over hdG⟩
   ·intro r hs' h
    rw[List.getElem?_replicate] at h
    split at h
    ·cases h;simp
    ·cases h
   ·rw[jJk fun e=>hdD (by rw[<-e];exact lJ7 ..)];exact hD1
   ·intro i r h
    have hi:i<n:=by rw[<-hrl];exact (lJh.mp h).1
    exact⟨[],by simp[hi],by rw[jJk fun e=>hdD (by rw[<-e];exact lJ3 _ (lJz h))];exact (hrs i r i h (by simp[hi])).2⟩
  ·intros;trivial
  ·intro k y τ G2 hy h_;apply xe10 h_;clear h_;intro v5 v6 v7 v8 v9 v10 v12 L Hs kvs h_;apply ae6 h_;clear h_;intro hw hh hR hdk hbx hkp
   obtain⟨hk,rfl⟩:=jQq hy
   have hkn:k<20:=by omega
   have fin:∀(r1 r2:Nat) G8 c8 (u6 u9:Option T),r1<n->r2<n->(k+1<n->r1<=k+1/\r2<=k+1)->BoxAt G8 b c8->c8+3<=c+6*(k+1)->Keep b G2 G8->kJl {nx:=J1 (k+1),rt:=Q,bk:=kJk {nx:=fun _ G'=>Q .non G',rt:=Q},ct:=J1 (k+1)} [some (.ref b),some (.int n),some (.int m),some (.ref D),some (.ref d),some (.int k),u6,some (.int r1),some (.int r2),u9,v10,none,v12,none,none,none] G8:=by
    intro r1 r2 G8 c8 u6 u9 h1 h2 ht bx hc8 kp
    refine qJw hn2 hkn h1 h2 hw hh (hR.keep kp hbD) hnd hbD hdD hbd (kp _ _ hbd.symm hdk) bx (by omega) fun lp L' Hs' G' u10 eL hh' R' hd' b' g'=> ?_
    refine xi10 _ _ _ _ _ _ _ L' Hs' _ rfl ⟨by rw[eL];exact hw.step h1 h2 ht,hh',R',hd',b'.mono hc8,fun a o ha ho=> ?_⟩
    exact g' a o ha (jJg ho hdG) (fun z=>by rw[hfr a z] at ho;cases ho) (kp _ _ ha (hkp _ _ ha ho))
   wp_walk using 1,jKp,rEqA,iSeq,jZ7
   refine⟨by omega,by omega,?_⟩
   rw[show ((n:Nat):Int).toNat=n by omega,jUb]
   refine jVb (fun r=>if (row Hs r).length<5 then some (T.int (r:Nat)) else none) (by simp;omega) (fun _ _=>trivial) ?_ ?_
   ·intro i r hr G3 K K0 s3 hK hK0
    obtain⟨q1,q2⟩:=lJh.mp hr
    simp at q1 q2;subst q2
    obtain⟨a,a1,a2,a3⟩:=(hR.sub s3).get (x:=i) (by rw[hh.len];exact q1)
    wp_walk using 1,jJ9 (hR.sub s3).1,a2,jJl a3,List.length_map
    by_cases h5:(row Hs i).length<5
    ·rw[lJa (by omega)]
     exact hK _ _ (by rw[lJa h5]) (.refl _)
    ·rw[lJb (by omega)]
     exact hK0 (by rw[lJb h5]) _ (.refl _)
   ·intro f G3 hf hf3 s3
    obtain⟨F,hF1,hF2⟩:∃F:List Nat,(List.range n).filterMap (fun r=>if (row Hs r).length<5 then some (T.int (r:Nat)) else none)=jJj F/\F=(List.range n).filter fun r=>decide ((row Hs r).length<5):=by
     refine⟨_,?_,rfl⟩
     generalize List.range n=l
     induction l with
     | nil=>rfl
     | cons a as ih=>
      rw[lKu,lQe]
      by_cases h:(row Hs a).length<5<;>simp[h,ih,jJj]
    rw[hF1] at hf3
    have hFm:∀r,r∈F↔r<n/\(row Hs r).length<5:=fun r=>by rw[hF2,lKc,lJ2];simp
    have hFl:F.length<=n:=by rw[hF2];have:=lQo (fun r=>decide ((row Hs r).length<5)) (List.range n);rw[lKr] at this;exact this
    refine⟨by omega,fun z hz=> ?_⟩
    have hfz:f≠z:=jJg hf3 hz
    refine⟨decide (F=[]),kK6 (b:=[]) (by rw[jJk hfz];exact hf3) jJf,?_⟩
    have s4:Sub G2 (gup G3 z (.lst [])):=s3.trans (.new hz)
    have hf4:gup G3 z (.lst []) f=some (.lst (jJj F)):=by rw[jJk hfz];exact hf3
    generalize gup G3 z (.lst [])=G4 at s4 hf4 ⊢
    have hfb:f≠b:=fun e=>by rw[e] at hf;obtain⟨o1,ho1⟩:=hbx.some;rw[hf] at ho1;cases ho1
    by_cases hFe:F=[]
    ·rw[lJa (lJs hFe)]
     refine xi10 _ _ _ _ _ _ _ L Hs kvs rfl ⟨hw.skip ?_ ?_,hh,hR.sub s4,s4 _ _ hdk,(hbx.sub s4).mono (by omega),hkp.trans (.sub s4)⟩
     ·refine Nat.le_of_not_lt fun hkn'=> ?_
      obtain⟨r,r1,r2⟩:=hw.free hh (by omega)
      have:=(hFm r).mpr ⟨by omega,r2⟩
      rw[hFe] at this;cases this
     ·have q:=kYo (L:=L) (d:=5) n fun r hr=>by
       rw[<-hh.row_len hr]
       exact Nat.le_of_not_lt fun z=>by have:=(hFm r).mpr ⟨hr,z⟩;rw[hFe] at this;cases this
      have h2:=lQo (fun x:Nat×Nat×Nat=>decide (x.1<n)) L
      have:=hw.ln
      omega
    rw[lJb (by simpa using hFe)]
    have hF1:1<=F.length:=by
     cases hF:F with
     | nil=>exact absurd hF hFe
     | cons a F=>simp
    have pick:∀(A:List Nat) (x:Int),0<=x->x<((jJj A).length:Int)->∃r,r∈A/\L2.atI (jJj A) x=some (.int (r:Nat)):=by
     intro A x x0 x1
     have hl:x.toNat<A.length:=by simp[jJj] at x1;omega
     exact⟨A[x.toNat],lQx hl,by rw[atZ x0];simp[jJj,hl]⟩
    have iL:(jJj F).length=F.length:=by simp[jJj]
    refine⟨_,jJl hf4,b,_,_,rfl,hbx.sub s4,by omega,by rw[iL];omega,by rw[iL];omega,fun x1 G5 x10 x11 bx5 kp5=> ?_⟩
    obtain⟨r1,hr1,ha1⟩:=pick F x1 x10 x11
    have hf5:=kp5 _ _ hfb hf4
    refine⟨_,(jJ9 hf5).trans ha1,_,jJl hf5,b,_,_,rfl,bx5,by omega,by rw[iL];omega,by rw[iL];omega,fun x2 G6 x20 x21 bx6 kp6=> ?_⟩
    obtain⟨r2,hr2,ha2⟩:=pick F x2 x20 x21
    have hf6:=kp6 _ _ hfb hf5
    have kp26:Keep b G2 G6:=(Keep.sub s4).trans (kp5.trans kp6)
    refine⟨_,(jJ9 hf6).trans ha2,?_⟩
    split
    ·rename_i hkn'
     refine⟨_,jJl hf6,?_⟩
     refine jVb (es:=F) (enc:=fun r:Nat=>T.int r) (fun r=>if r<=k then some (T.int (r:Nat)) else none) (by omega) (fun G' s=>jJl (s _ _ hf6)) ?_ ?_
     ·intro i r hr G7 K K0 s7 hK hK0
      wp_walk using 1,rLeF
      by_cases h5:r<=k
      ·rw[lJa (by omega)]
       exact hK _ _ (by rw[lJa h5]) (.refl _)
      ·rw[lJb (by omega)]
       exact hK0 (by rw[lJb h5]) _ (.refl _)
     ·intro g G7 hg hg7 s7
      obtain⟨A,hA1,hA2⟩:∃A:List Nat,F.filterMap (fun r=>if r<=k then some (T.int (r:Nat)) else none)=jJj A/\A=F.filter fun r=>decide (r<=k):=by
       refine⟨_,?_,rfl⟩
       generalize F=l
       induction l with
       | nil=>rfl
       | cons a as ih=>
        rw[lKu,lQe]
        by_cases h:a<=k<;>simp[h,ih,jJj]
      rw[hA1] at hg7
      have hAm:∀r,r∈A↔r∈F/\r<=k:=fun r=>by rw[hA2,lKc];simp
      have hAl:A.length<=F.length:=by rw[hA2];exact lQo _ _
      have hA1:1<=A.length:=by
       obtain⟨r,q1,q2⟩:=hw.free hh (by omega)
       exact List.length_pos_of_mem ((hAm r).mpr ⟨(hFm r).mpr ⟨by omega,q2⟩,by omega⟩)
      have iA:(jJj A).length=A.length:=by simp[jJj]
      have hgb:g≠b:=fun e=>by rw[e] at hg;obtain⟨o1,ho1⟩:=bx6.some;rw[hg] at ho1;cases ho1
      refine⟨_,jJl hg7,b,_,_,rfl,bx6.sub s7,by omega,by rw[iA];omega,by rw[iA];omega,fun x3 G8 x30 x31 bx8 kp8=> ?_⟩
      obtain⟨r3,hr3,ha3⟩:=pick A x3 x30 x31
      refine⟨_,(jJ9 (kp8 _ _ hgb hg7)).trans ha3,?_⟩
      have h3:=(hAm r3).mp hr3
      have h3n:=(hFm r3).mp h3.1
      have:=fin r3 (k+1) G8 _ (some (.ref f)) (some (.ref g)) h3n.1 (by omega) (fun _=>by omega) bx8 (by omega) (kp26.trans ((Keep.sub s7).trans kp8))
      exact this
    ·have h1:=(hFm r1).mp hr1
     have h2:=(hFm r2).mp hr2
     exact fin r1 r2 G6 _ (some (.ref f)) v9 h1.1 h2.1 (fun _=>by omega) bx6 (by omega) kp26
  ·intro τ G2 h_;apply xe10 h_;clear h_;intro v5 v6 v7 v8 v9 v10 v12 L Hs kvs h_;apply ae6 h_;clear h_;intro hw hh hR hdk hbx hkp
   rw[jKv] at hw hbx
   refine qUt hn2 hw hh hR hdk (by omega) fun W G3 fW sy tw hW s3=> ?_
   exact kk W G3 fW sy tw hW ((hbx.sub s3).mono (by omega)) (hkp.trans (.sub s3))
def jVd (r:Nat) (es:List (Nat×Nat)):Nat:=(es.getLast?.map Prod.fst).getD r
def goW (W:Web) (r:Nat) (ds:List Nat):Option (List (Nat×Nat)):=ds.foldl (fun o d=>o.bind fun es=>(en W (jVd r es) d).map fun e=>es++[e]) (some [])
theorem kJy {W:Web} {r d:Nat} {ds:List Nat}:goW W r (ds++[d])=(goW W r ds).bind fun es=>(en W (jVd r es) d).map fun e=>es++[e]:=by
 unfold goW;rw[List.foldl_append];rfl
theorem qQm {W:Web} {r:Nat} {ds ds':List Nat} (h:goW W r ds=none):goW W r (ds++ds')=none:=by
 unfold goW at h ⊢
 rw[List.foldl_append,h]
 induction ds' with
 | nil=>rfl
 | cons a as ih=>exact ih
theorem jXp {r:Nat} {es:List (Nat×Nat)} {e:Nat×Nat}:jVd r (es++[e])=e.1:=by simp[jVd]
theorem qUy {α:Type} {P:List α->Prop} (h0:P []) (h1:∀ds d,P ds->P (ds++[d])) (ds:List α):P ds:=by
 have:∀l:List α,P l.reverse:=by
  intro l
  induction l with
  | nil=>exact h0
  | cons a as ih=>rw[List.reverse_cons];exact h1 _ _ ih
 have h:=this ds.reverse
 rwa [List.reverse_reverse] at h
theorem qUn {W:Web} (f:Fine W) {r:Nat} (hr:r<W.length):∀ {ds:List Nat} {es:List (Nat×Nat)},goW W r ds=some es->jVd r es<W.length/\es.length=ds.length/\∀e,e∈es->e.1<W.length:=by
 intro ds
 refine qUy (P:=fun ds=>∀ {es:List (Nat×Nat)},goW W r ds=some es->jVd r es<W.length/\es.length=ds.length/\∀e,e∈es->e.1<W.length) ?_ ?_ ds
 ·intro es h;cases h;exact⟨hr,rfl,fun e he=>by cases he⟩
 ·intro ds d ih es h
  rw[kJy] at h
  cases e1:goW W r ds with
  | none=>rw[e1] at h;cases h
  | some es1=>
   rw[e1] at h
   obtain⟨a1,a2,a3⟩:=ih e1
   simp only[Option.bind_some] at h
   cases e2:en W (jVd r es1) d with
   | none=>rw[e2] at h;cases h
   | some e=>
    rw[e2] at h;cases h
    have he:=f.rng _ _ e.1 e.2 e2
    refine⟨by rw[jXp];exact he,by simp[a2],fun x hx=> ?_⟩
    rw[lJ1,lJr] at hx
    rcases hx with hx | rfl
    ·exact a3 x hx
    ·exact he
theorem kVb {W:Web} {r i d:Nat} {ds:List Nat} (hd:ds[i]? =some d):goW W r (ds.take (i+1))=(goW W r (ds.take i)).bind fun es=>(en W (jVd r es) d).map fun e=>es++[e]:=by
 rw[lQv,hd];exact kJy
theorem qV6 {W:Web} {r i d:Nat} {ds:List Nat} {es:List (Nat×Nat)} (hd:ds[i]? =some d) (h:goW W r (ds.take i)=some es) (hn:en W (jVd r es) d=none):goW W r ds=none:=by
 have:goW W r (ds.take (i+1))=none:=by rw[kVb hd,h];simp[hn]
 have h2:=qQm (ds':=ds.drop (i+1)) this
 rwa [List.take_append_drop] at h2
theorem kUw {W:Web} {r:Nat} (hr:r<W.length):∃es,W[r]? =some es/\∀d,en W r d=es[d]? :=⟨W[r],lJl hr,fun d=>by unfold en;rw[lJl hr];rfl⟩
abbrev Stp:=Nat×Nat×Nat
abbrev jUi:=Nat×List Stp
def jJ0 (s:Stp):T:= .tup [.int s.1,.int s.2.1,.int s.2.2]
def jUq (S:jUi):T:= .tup [.int S.1,.tup (S.2.map jJ0)]
def dg (W:Web) (r:Nat):Nat:=((W[r]?).getD []).length
theorem dg_at {W:Web} {r:Nat} {es:List (Nat×Nat)} (h:W[r]? =some es):dg W r=es.length:=by rw[dg,h];rfl
theorem okD_enc {e:Nat×Nat}:OkD 1 (encE e):=kU2 (w:=[e.1,e.2])
theorem kZt {G:Gp} {x y:T} {d:Nat} (hx:OkD d x) (hy:OkD d y) (hd:d<=50) (hr:∀p,x≠ .ref p):eqG G x y=some (eqT x y):=by
 have ok:∀ {z:T},OkD d z->eqOk z=true:=fun {z} h=>by
  unfold eqOk
  rw[h.tr,h.lay,lJs (show (td z).depth<=50 by have:=h.dep;omega)];rfl
 have:eqG G x y=if eqOk x=true/\eqOk y=true then some (eqT x y) else none:=by
  cases x with
  | ref p=>exact absurd rfl (hr p)
  | _=>rfl
 rw[this,lJa ⟨ok hx,ok hy⟩]
theorem kJ1 {e f:Nat×Nat}:eqT (encE e) (encE f)=decide (e=f):=by
 have:=qV9 (G:=fun _=>none) (e:=e) (f:=f)
 rw[kZt okD_enc okD_enc (by decide) (fun p z=>by cases z)] at this
 exact lKb this
def jUr (W:Web) (ds:List Nat) (es:List (Nat×Nat)):List Stp:=(ds.zip es).map fun p=>(p.1,p.2.2,dg W p.2.1)
theorem kKf {W:Web} {ds:List Nat} {es:List (Nat×Nat)} {d:Nat} {e:Nat×Nat} (h:ds.length=es.length):jUr W (ds++[d]) (es++[e])=jUr W ds es++[(d,e.2,dg W e.1)]:=by
 unfold jUr
 rw[List.zip_append h,lJ4];rfl
theorem jYk {W:Web} {ds:List Nat} {es:List (Nat×Nat)}:(jUr W ds es).length<=ds.length:=by
 simp[jUr];omega
noncomputable def jXb:Sp3:=fun xs G Q=>∃(W:Web) (r:Nat) (ds:List Nat) (es:List (Nat×Nat)),xs=[encW W,.int r,.tup (jJj ds)]/\Fine W/\r<W.length/\ds.length<=1000/\goW W r ds=some es/\∀G',Sub G G'->Q (jUq (dg W r,jUr W ds es)) G'
def qJo:List Str:=["_law_web_here","_law_room","_law_way_here","_law_path","_law_doors","_law_door","_law_came"]
noncomputable def jXf:TS3:=
 (tSeq (tAsg (tLst tNil) (jJh 3))
 (tSeq (tAsg (tCB rLen (jJc (tOp rIxF (tVar 0) (tVar 1)) tNil)) (jJh 4))
 (tSeq (tFor (iSeq (tVar 2)) (jJh 5) (tSeq (tAsg (tOp rIxF (tOp rIxF (tVar 0) (tVar 1)) (tVar 5)) (gTup 2 (jKd (jJh 1) (jKd (jJh 6) gNil))))
 (jQc (tBM "list" jJ8 (tVar 3) (jJc (tTup (jJc (tVar 5) (jJc (tVar 6) (jJc (tCB rLen (jJc (tOp rIxF (tVar 0) (tVar 1)) tNil)) tNil)))) tNil)))))
 (tRet (tTup (jJc (tVar 4) (jJc (tCB jJz (jJc (tVar 3) tNil)) tNil)))))))
theorem kKk:RdOk jXb jXf qJo:=by
 intro xs G Q h_;apply xe4 h_;clear h_;intro W r ds es h_;apply ae5 h_;clear h_;intro fine hr hdl hg kk
 show jXf _ [some (.tup (W.map encR)),some (.int r),some (.tup (jJj ds)),none,none,none,none] G
 have hs:=sz
 obtain⟨row,hrow,hen⟩:=kUw hr
 have hrl:=fine.row _ _ hrow
 wp_walk using 1,jXf,jKq,iSeq,jXt hrow,encR,List.length_map
 refine⟨lJq _,fun p hp=> ?_⟩
 let J1:Nat->St3->Gp->Prop:=fun i τ G'=>∃(v5 v6:Option T) (fs:List (Nat×Nat)),τ=[some (.tup (W.map encR)),some (.int (jVd r fs:Nat)),some (.tup (jJj ds)),some (.ref p),some (.int (row.length:Nat)),v5,v6]/\goW W r (ds.take i)=some fs/\G' p=some (.lst ((jUr W (ds.take i) fs).map jJ0))/\Sub G G'
 refine⟨J1,?_,?_,?_,?_⟩
 ·exact xi3 none none [] rfl ⟨rfl,jJf,.new hp⟩
 ·intros;trivial
 ·intro i y τ G1 hy h_;apply xe3 h_;clear h_;intro v5 v6 fs h_;apply ae3 h_;clear h_;intro h1 h2 h3
  obtain⟨d,hd,rfl⟩:=jKt hy
  have hi:i<ds.length:=(lJh.mp hd).1
  obtain⟨c1,c2,c3⟩:=qUn fine hr h1
  obtain⟨row1,hrow1,hen1⟩:=kUw c1
  rw[lKw] at c2
  cases he:en W (jVd r fs) d with
  | none=>rw[qV6 hd h1 he] at hg;cases hg
  | some e=>
   have he1:=fine.rng _ _ e.1 e.2 he
   obtain⟨row2,hrow2,hen2⟩:=kUw he1
   have hr2:=fine.row _ _ hrow2
   have hed:row1[d]? =some e:=by rw[<-hen1];exact he
   wp_walk using 1,jXt hrow1,encR,kZw hed,encE,jXt hrow2,List.length_map,jKi h2,h2
   have hl:=jYk (W:=W) (ds:=ds.take i) (es:=fs)
   rw[lKw] at hl
   refine⟨by omega,by omega,xi3 _ _ (fs++[e]) (by rw[jXp]) ⟨?_,?_,h3.over hp⟩⟩
   ·rw[kVb hd,h1];simp[he]
   ·rw[jJf,lQv,hd]
    rw[show (some d).toList=[d] from rfl,kKf (by rw[lKw];omega),lJ4,dg_at hrow2];rfl
 ·intro τ G1 h_;apply xe3 h_;clear h_;intro v5 v6 fs h_;apply ae3 h_;clear h_;intro h1 h2 h3
  have e1:(jJj ds).length=ds.length:=by simp[jJj]
  rw[e1,lQ6] at h1 h2
  rw[hg] at h1;cases h1
  wp_walk using 1,tSeq
  refine⟨_,jJl h2,?_⟩
  have:=kk G1 h3
  rw[jUq,dg_at hrow] at this
  exact⟨by omega,this⟩
noncomputable def kJc:Sp3:=fun xs G Q=>∃(b:Addr) (W:Web) (r m n:Nat),xs=[.ref b,encW W,.int r,.int m]/\BoxAt G b n/\n+300<2^40/\Fine W/\r<W.length/\m<=60/\∀ds es G',goW W r ds=some es->ds.length<=m->BoxAt G' b (n+2*m)->Keep b G G'->Q (.tup (jJj ds)) G'
def qXn:List Str:=["_law_box_here","_law_web_here","_law_room","_law_many","_law_way_here","_law_gone_by","_law_k","_law_doors","_law_fresh","_law_door"]
noncomputable def kJn:TS3:=
 (tSeq (tAsg (tLst tNil) (jJh 4))
 (tSeq (tAsg (tLst tNil) (jJh 5))
 (tSeq (tFor (jKp (jJc (tVar 3) tNil)) (jJh 6) (tSeq (tAsg (tCB rLen (jJc (tOp rIxF (tVar 1) (tVar 2)) tNil)) (jJh 7))
 (tSeq (tIfS (jJt (tOp rEqA (tVar 7) (tC (.int 0)))) (tRet (tCB jJz (jJc (tVar 4) tNil))) jKa)
 (tSeq (tAsg (jKu [false,false,false,false,false,false,false,false,false,true] (jKp (jJc (tVar 7) tNil)) (jJh 9) (jJt (tOp kJp (tTup (jJc (tVar 2) (jJc (tVar 9) tNil))) (tVar 5))) (tVar 9)) (jJh 8))
 (tSeq (tIfS (tOr (jJt (tOp rEqA (tVar 8) (tLst tNil))) (jJt (tOp rEqA (jJx jJm (jJc (tVar 0) (jJc (tC (.int 5)) tNil))) (tC (.int 0))))) (tAsg (jQh (jJc (tVar 7) tNil)) (jJh 8)) jKa)
 (tSeq (tAsg (tOp rIxF (tVar 8) (jJx jJm (jJc (tVar 0) (jJc (tCB rLen (jJc (tVar 8) tNil)) tNil)))) (jJh 9))
 (tSeq (jQc (tBM "list" jJ8 (tVar 4) (jJc (tVar 9) tNil)))
 (tSeq (jQc (tBM "list" jJ8 (tVar 5) (jJc (tTup (jJc (tVar 2) (jJc (tVar 9) tNil))) tNil)))
 (tSeq (jQc (tBM "list" jJ8 (tVar 5) (jJc (tOp rIxF (tOp rIxF (tVar 1) (tVar 2)) (tVar 9)) tNil)))
 (tAsg (tOp rIxF (tOp rIxF (tOp rIxF (tVar 1) (tVar 2)) (tVar 9)) (tC (.int 0))) (jJh 2)))))))))))
 (tRet (tCB jJz (jJc (tVar 4) tNil))))))
theorem qQw {mask:List Bool} {g:TG3} {tif:TT3} {te:TE3} {τ:St3} {xs:List T} {stay:Gp->Prop} {G:Gp} {Q:VK3} (Pr:T->Prop) (hz:xs.length<=sizeLine) (hst:∀G',Sub G G'->stay G')
  (h:∀(i:Nat) x,xs[i]? =some x->∀G' (K:T->Gp->Prop) (K0:Gp->Prop),Sub G G'->(∀t G4,Pr t->Sub G' G4->K t G4)->(∀G4,Sub G' G4->K0 G4)->g x (msk mask τ) G' fun τ2 G2=>tif τ2 G2 fun b G3=>if b=true then te τ2 G3 K else K0 G3)
  (hq:∀D ts G',G D=none->G' D=some (.lst ts)->ts.length<=xs.length->(∀t,t∈ts->Pr t)->Sub G G'->Q (.ref D) G'):jU2 mask g tif te τ xs stay G Q:=by
 intro D hD
 refine⟨fun i acc G'=>acc.length<=i/\(∀t,t∈acc->Pr t)/\Sub G G'/\G' D=some (.lst acc),?_,?_,?_,?_⟩
 ·exact⟨lJe _,fun t z=>by simp at z,.new hD,jJf⟩
 ·rintro i acc G' hi ⟨j1,j2,j4,j5⟩
  exact⟨hst G' j4,j5⟩
 ·rintro i x acc G3 hx ⟨j1,j2,j4,j5⟩
  have hi:i<xs.length:=(lJh.mp hx).1
  refine h i x hx G3 _ _ j4 (fun t G4 hp kp=> ?_) fun G4 kp=>⟨by omega,j2,j4.trans kp,kp _ _ j5⟩
  refine⟨kp _ _ j5,by omega,by simp;omega,?_,(j4.trans kp).over hD,jJf⟩
  intro u hu
  rcases (lJ1.mp hu) with hu | hu
  ·exact j2 u hu
  ·rw[lJr.mp hu];exact hp
 ·rintro acc G3 ⟨j1,j2,j4,j5⟩
  exact hq D acc G3 hD j5 j1 j2 j4
theorem natsP {Pr:Nat->Prop}:∀(us:List T),(∀t,t∈us->∃x:Nat,Pr x/\t= .int x)->∃ts:List Nat,us=jJj ts/\∀x,x∈ts->Pr x
 | [],_=>⟨[],rfl,fun x hx=>by simp at hx⟩
 | u::us,h=>by
  obtain⟨x,hx,rfl⟩:=h u (by simp)
  obtain⟨ts,rfl,h2⟩:=natsP us fun t ht=>h t (lJ3 _ ht)
  refine⟨x::ts,rfl,fun y hy=> ?_⟩
  rcases (lJj.mp hy) with rfl | hy
  ·exact hx
  ·exact h2 y hy
theorem okD_ok {z:T} (h:OkD 40 z):eqOk z=true:=by
 unfold eqOk
 rw[h.tr,h.lay,lJs (show (td z).depth<=50 by have:=h.dep;omega)];rfl
noncomputable def jYs:TS3:=(tSeq (tAsg (tOp rIxF (tVar 8) (jJx jJm (jJc (tVar 0) (jJc (tCB rLen (jJc (tVar 8) tNil)) tNil)))) (jJh 9))
 (tSeq (jQc (tBM "list" jJ8 (tVar 4) (jJc (tVar 9) tNil)))
 (tSeq (jQc (tBM "list" jJ8 (tVar 5) (jJc (tTup (jJc (tVar 2) (jJc (tVar 9) tNil))) tNil)))
 (tSeq (jQc (tBM "list" jJ8 (tVar 5) (jJc (tOp rIxF (tOp rIxF (tVar 1) (tVar 2)) (tVar 9)) tNil)))
 (tAsg (tOp rIxF (tOp rIxF (tOp rIxF (tVar 1) (tVar 2)) (tVar 9)) (tC (.int 0))) (jJh 2))))))
theorem kYe:kJn=(tSeq (tAsg (tLst tNil) (jJh 4))
 (tSeq (tAsg (tLst tNil) (jJh 5))
 (tSeq (tFor (jKp (jJc (tVar 3) tNil)) (jJh 6) (tSeq (tAsg (tCB rLen (jJc (tOp rIxF (tVar 1) (tVar 2)) tNil)) (jJh 7))
 (tSeq (tIfS (jJt (tOp rEqA (tVar 7) (tC (.int 0)))) (tRet (tCB jJz (jJc (tVar 4) tNil))) jKa)
 (tSeq (tAsg (jKu [false,false,false,false,false,false,false,false,false,true] (jKp (jJc (tVar 7) tNil)) (jJh 9) (jJt (tOp kJp (tTup (jJc (tVar 2) (jJc (tVar 9) tNil))) (tVar 5))) (tVar 9)) (jJh 8))
 (tSeq (tIfS (tOr (jJt (tOp rEqA (tVar 8) (tLst tNil))) (jJt (tOp rEqA (jJx jJm (jJc (tVar 0) (jJc (tC (.int 5)) tNil))) (tC (.int 0))))) (tAsg (jQh (jJc (tVar 7) tNil)) (jJh 8)) jKa)
 jYs)))))
 (tRet (tCB jJz (jJc (tVar 4) tNil)))))):=rfl
theorem qJx {D:Ends3} {b p q f:Addr} {W:Web} {cur m n k:Nat} {v9:Option T} {ds F:List Nat} {gs row:List (Nat×Nat)} {G:Gp} (hw:W[cur]? =some row) (hf:G f=some (.lst (jJj F))) (hF:1<=F.length) (hF2:F.length<=1000) (hFr:∀d,d∈F->d<row.length) (hp:G p=some (.lst (jJj ds))) (hq:G q=some (.lst (gs.map encE))) (hdl:ds.length<=100) (hgl:gs.length<=200) (hpb:p≠b) (hqb:q≠b) (hfb:f≠b) (hpq:p≠q) (hb:BoxAt G b n) (hn:n<2^40)
  (kk:∀(d:Nat) e G',row[d]? =some e->G' p=some (.lst (jJj (ds++[d])))->G' q=some (.lst ((gs++[(cur,d),e]).map encE))->BoxAt G' b (n+1)->(∀c o,c≠b->c≠p->c≠q->G c=some o->G' c=some o)->D.nx [some (.ref b),some (.tup (W.map encR)),some (.int (e.1:Nat)),some (.int m),some (.ref p),some (.ref q),some (.int k),some (.int (row.length:Nat)),some (.ref f),some (.int (d:Nat))] G'):
  jYs D [some (.ref b),some (.tup (W.map encR)),some (.int (cur:Nat)),some (.int m),some (.ref p),some (.ref q),some (.int k),some (.int (row.length:Nat)),some (.ref f),v9] G:=by
 have hs:=sz
 wp_walk using 1,jYs,jJl hf
 refine⟨b,_,n,rfl,hb,hn,by simp[jJj];omega,by simp[jJj];omega,fun c G1 c0 c1 bx kp=> ?_⟩
 have hcl:c.toNat<F.length:=by simp[jJj] at c1;omega
 have hca:L2.atI (jJj F) c=some (.int (F[c.toNat]:Nat)):=by rw[atZ c0];simp[jJj,hcl]
 have hmem:F[c.toNat]∈F:=lQx hcl
 generalize F[c.toNat]=d at hca hmem
 have hd:=hFr d hmem
 have hed:row[d]? =some row[d]:=lJl hd
 generalize row[d]=e at hed
 have hp1:=kp _ _ hpb hp
 have hq1:=kp _ _ hqb hq
 wp_walk using 1,jJ9 (kp _ _ hfb hf),hca,jKi hp1,hp1,jJk hpq.symm,hq1,jXt hw,encR,kZw hed,encE
 refine⟨by simp[jJj];omega,by rw[jKi (by rw[jJk hpq.symm];exact hq1)];trivial,by omega,by simp;omega,by simp;omega,kk d e _ hed ?_ ?_ ((bx.gup hpb.symm).gup hqb.symm) ?_⟩
 ·rw[jJk hpq,jJf];simp[jJj]
 ·rw[jJf];simp[encE]
 ·intro c o h1 h2 h3 h4
  rw[jJk h3,jJk h2];exact kp _ _ h1 h4
theorem kVz:RdOk kJc kJn qXn:=by
 intro xs G Q h_;apply xe5 h_;clear h_;intro b W r m n h_;apply ae6 h_;clear h_;intro hb hn fine hr hm kk
 show kJn _ [some (.ref b),some (.tup (W.map encR)),some (.int r),some (.int m),none,none,none,none,none,none] G
 have hs:=sz
 rw[kYe]
 wp_walk using 1,jKq,jKp
 refine⟨by omega,fun p hp=>⟨by omega,fun q hq=>⟨by omega,by omega,?_⟩⟩⟩
 obtain⟨hqp,hq0⟩:=jQt hq
 obtain⟨bo,hbo⟩:=hb.some
 have hbp:=jJg hbo hp
 have hbq:=jJg hbo hq0
 let J1:Nat->St3->Gp->Prop:=fun i τ G'=>∃(v6 v7 v8 v9:Option T) (ds:List Nat) (es:List (Nat×Nat)) (gs:List (Nat×Nat)),τ=[some (.ref b),some (.tup (W.map encR)),some (.int (jVd r es:Nat)),some (.int m),some (.ref p),some (.ref q),v6,v7,v8,v9]/\goW W r ds=some es/\ds.length=i/\G' p=some (.lst (jJj ds))/\G' q=some (.lst (gs.map encE))/\gs.length=2*i/\BoxAt G' b (n+2*i)/\Keep b G G'
 refine⟨J1,?_,?_,?_,?_⟩
 ·exact xi7 none none none none [] [] [] rfl ⟨rfl,rfl,by rw[jJk hqp.symm];exact jJf,jJf,rfl,(hb.gup hbp).gup hbq,(Keep.new hp).over hq0⟩
 ·intros;trivial
 ·intro i y τ G1 hy h_;apply xe7 h_;clear h_;intro v6 v7 v8 v9 ds es gs h_;apply ae7 h_;clear h_;intro h1 h2 h3 h4 h5 h6 h7
  obtain⟨hi,rfl⟩:=jQq hy
  obtain⟨c1,c2,c3⟩:=qUn fine hr h1
  obtain⟨row,hrow,hen⟩:=kUw c1
  have hrl:=fine.row _ _ hrow
  wp_walk using 1,rEqA,jKp,jQh,jXt hrow,encR,List.length_map
  refine⟨decide (row.length=0),jU1 (c:=0),?_⟩
  by_cases h0:row.length=0
  ·rw[lJa (lJs h0)]
   exact⟨_,jJl h3,kk ds es G1 h1 (by omega) (h6.mono (by omega)) h7⟩
  rw[lJb (by simpa using (h0))]
  have go:∀(f:Addr) (F:List Nat) G2 k,Sub G1 G2\/(Keep b G1 G2)->G2 f=some (.lst (jJj F))->1<=F.length->F.length<=1000->(∀d,d∈F->d<row.length)->f≠b->BoxAt G2 b k->k+1<=n+2*(i+1)->jYs {nx:=J1 (i+1),rt:=Q,bk:=tRet (tCB jJz (jJc (tVar 4) tNil)) {nx:=fun x G'=>Q T.non G',rt:=Q},ct:=J1 (i+1)} [some (.ref b),some (.tup (W.map encR)),some (.int (jVd r es:Nat)),some (.int m),some (.ref p),some (.ref q),some (.int i),some (.int (row.length:Nat)),some (.ref f),v9] G2:=by
   intro f F G2 k sk hf hF hF2 hFr hfb bx hk
   have kp:Keep b G1 G2:=sk.elim (fun s c o _ e=>s c o e) id
   refine qJx hrow hf hF hF2 hFr (kp _ _ hbp.symm h3) (kp _ _ hbq.symm h4) (by omega) (by omega) hbp.symm hbq.symm hfb hqp.symm bx (by omega) fun d e G3 he g1 g2 g3 g4=> ?_
   refine xi7 _ _ _ _ (ds++[d]) (es++[e]) (gs++[(jVd r es,d),e]) (by rw[jXp]) ⟨?_,by simp[h2],g1,g2,by simp[h5];omega,g3.mono hk,fun c o hc ho=> ?_⟩
   ·rw[kJy,h1,Option.bind_some,hen,he];rfl
   ·exact g4 c o hc (jJg ho hp) (jJg ho hq0) (kp c o hc (h7 c o hc ho))
  refine⟨by omega,by omega,?_⟩
  refine qQw (fun t=>∃d:Nat,d<row.length/\t= .int d) (by rw[jKv];omega) (fun _ _=>trivial) ?_ ?_
  ·intro j x hx G2 K K0 s2 hK hK0
   obtain⟨hj,rfl⟩:=jQq hx
   wp_walk using 1,kJp
   refine⟨by omega,_,s2 _ _ h4,okD_ok ((okD_enc (e:=(jVd r es,j))).mono (by decide)),kYu fun x hx=> ?_,fun c=> ?_⟩
   ·obtain⟨e,_,rfl⟩:=lJi.mp hx;exact okD_enc.mono (by decide)
   ·cases c with
    | true=>exact hK _ G2 ⟨j,by omega,rfl⟩ (.refl _)
    | false=>exact hK0 G2 (.refl _)
  ·intro D ts G2 hD hD2 hlen hts s2
   obtain⟨F,rfl,hF⟩:=natsP ts hts
   rw[jKv] at hlen
   refine⟨by omega,fun z hz=> ?_⟩
   have hDz:D≠z:=jJg hD2 hz
   refine⟨decide (F=[]),kK6 (b:=[]) (by rw[jJk hDz];exact hD2) jJf,?_⟩
   have sz2:Sub G1 (gup G2 z (.lst [])):=s2.trans (.new hz)
   have bxz:BoxAt (gup G2 z (.lst [])) b (n+2*i):=h6.sub sz2
   have hDz2:gup G2 z (.lst []) D=some (.lst (jJj F)):=by rw[jJk hDz];exact hD2
   generalize gup G2 z (.lst [])=G3 at sz2 bxz hDz2 ⊢
   obtain⟨bo3,hbo3⟩:=bxz.some
   have hDb:D≠b:=fun e=>by rw[e] at hD;obtain⟨o1,ho1⟩:=h6.some;rw[hD] at ho1;cases ho1
   have rng:∀G4 k,Keep b G1 G4->BoxAt G4 b k->k+1<=n+2*(i+1)-> -2^62<=(row.length:Int)/\(row.length:Int)<=2^20/\∀f,G4 f=none->jYs {nx:=J1 (i+1),rt:=Q,bk:=tRet (tCB jJz (jJc (tVar 4) tNil)) {nx:=fun x G'=>Q T.non G',rt:=Q},ct:=J1 (i+1)} [some (.ref b),some (.tup (W.map encR)),some (.int (jVd r es:Nat)),some (.int m),some (.ref p),some (.ref q),some (.int i),some (.int (row.length:Nat)),some (.ref f),v9] (gup G4 f (.lst (rngT 0 (row.length:Int).toNat))):=by
    intro G4 k kp bx hk
    refine⟨by omega,by omega,fun f hf=> ?_⟩
    obtain⟨bo4,hbo4⟩:=bx.some
    have hfb:b≠f:=jJg hbo4 hf
    refine go f (List.range row.length) _ k (.inr (kp.trans (.new hf))) ?_ (by simp;omega) (by simp;omega) (fun d hd=>lJ2.mp hd) hfb.symm (bx.gup hfb) hk
    rw[jJf,show (row.length:Int).toNat=row.length by omega,jUb];rfl
   by_cases hFe:F=[]
   ·rw[lJa (lJs hFe)]
    exact rng G3 _ (fun c o _ e=>sz2 c o e) bxz (by omega)
   ·rw[lJb (by simpa using hFe)]
    have hF1:1<=F.length:=by
     cases F with
     | nil=>exact absurd rfl hFe
     | cons a F=>simp
    refine⟨b,5,_,rfl,bxz,by omega,by decide,by decide,fun c G4 c0 c1 bx kp=>⟨_,jY5,?_⟩⟩
    have kp14:Keep b G1 G4:=fun c o hc e=>kp c o hc (sz2 c o e)
    split
    ·exact rng G4 _ kp14 bx (by omega)
    ·exact go D F G4 _ (.inr kp14) (kp _ _ hDb hDz2) hF1 (by simp[jJj] at hlen;omega) hF hDb bx (by omega)
 ·intro τ G1 h_;apply xe7 h_;clear h_;intro v6 v7 v8 v9 ds es gs h_;apply ae7 h_;clear h_;intro h1 h2 h3 h4 h5 h6 h7
  rw[jKv] at h2 h6
  wp_walk using 1,tSeq
  exact⟨_,jJl h3,kk ds es G1 h1 (by omega) (h6.mono (by omega)) h7⟩
structure SB (S:jUi):Prop where
 c:S.1<=11
 n:S.2.length<=8
 s:∀x,x∈S.2->x.2.2<=11
noncomputable def jYo:Sp3:=fun xs G Q=>∃(b:Addr) (S:jUi) (n:Nat),xs=[.ref b,jUq S]/\BoxAt G b n/\n+10<2^40/\SB S/\∀(S':jUi) G',SB S'->BoxAt G' b (n+4)->Keep b G G'->Q (jUq S') G'
def qQ3:List Str:=["_law_box_here","_law_story_here","_law_doors","_law_path","_law_way_here","_law_at","_law_step","_law_spot"]
noncomputable def jYv:TS3:=
 (tSeq (tAsg (tVar 1) (gTup 2 (jKd (jJh 2) (jKd (jJh 3) gNil))))
 (tSeq (tAsg (jJx jJm (jJc (tVar 0) (jJc (tC (.int 5)) tNil))) (jJh 4))
 (tSeq (tIfS (tOr (jJt (tOp rEqA (tVar 3) (tTup tNil))) (jJt (tOp rEqA (tVar 4) (tC (.int 0))))) (tRet (tTup (jJc (tCB kQz (jJc (tC (.int 6)) (jJc (tCB rMax (jJc (tC (.int 0)) (jJc (tOp jQp (tVar 2) (tOp rIxF (tLst (jJc (tC (.int 1)) (jJc (tUn rNeg (tC (.int 1))) tNil))) (jJx jJm (jJc (tVar 0) (jJc (tC (.int 2)) tNil))))) tNil))) tNil))) (jJc (tVar 3) tNil)))) jKa)
 (tSeq (tAsg (jJx jJm (jJc (tVar 0) (jJc (tCB rLen (jJc (tVar 3) tNil)) tNil))) (jJh 5))
 (tSeq (tIfS (jJt (tOp rEqA (tVar 4) (tC (.int 1)))) (tRet (tTup (jJc (tVar 2) (jJc (tOp jQp (tSl rSlF (tVar 3) jQ9 (jVq (tVar 5))) (tSl rSlF (tVar 3) (jVq (tOp jQp (tVar 5) (tC (.int 1)))) jQ9)) tNil)))) jKa)
 (tSeq (tIfS (jJt (tOp rEqA (tVar 4) (tC (.int 2)))) (tRet (tTup (jJc (tVar 2) (jJc (tSl rSlF (tOp jQp (tVar 3) (tTup (jJc (tOp rIxF (tVar 3) (tVar 5)) tNil))) jQ9 (jVq (tC (.int 8)))) tNil)))) jKa)
 (tSeq (tAsg (tCB kKq (jJc (tOp rIxF (tVar 3) (tVar 5)) tNil)) (jJh 6))
 (tSeq (tAsg (jJx jJm (jJc (tVar 0) (jJc (tC (.int 3)) tNil))) (jJh 7))
 (tSeq (tAsg (tCB kQz (jJc (tC (.int 6)) (jJc (tCB rMax (jJc (tC (.int 0)) (jJc (tOp jQp (tOp rIxF (tVar 6) (tVar 7)) (tOp rIxF (tLst (jJc (tC (.int 1)) (jJc (tUn rNeg (tC (.int 1))) tNil))) (jJx jJm (jJc (tVar 0) (jJc (tC (.int 2)) tNil))))) tNil))) tNil))) (gSub (tVar 6) (tVar 7) jQ1))
 (tRet (tTup (jJc (tVar 2) (jJc (tOp jQp (tOp jQp (tSl rSlF (tVar 3) jQ9 (jVq (tVar 5))) (tTup (jJc (tCB jJz (jJc (tVar 6) tNil)) tNil))) (tSl rSlF (tVar 3) (jVq (tOp jQp (tVar 5) (tC (.int 1)))) jQ9)) tNil)))))))))))))
theorem okD_st {s:Stp}:OkD 1 (jJ0 s):=kU2 (w:=[s.1,s.2.1,s.2.2])
theorem qQp {G:Gp} {ss:List Stp}:eqG G (.tup (ss.map jJ0)) (.tup [])=some (decide (ss=[])):=by
 rw[kZt (d:=2) (kQ3 fun x hx=>by obtain⟨s,_,rfl⟩:=lJi.mp hx;exact okD_st) (kQ3 fun x hx=>by cases hx) (by decide) (fun p z=>by cases z)]
 cases ss with
 | nil=>rfl
 | cons a ss=>simp[eqT,eqTs]
theorem jV7 {xs ys:List T} {G:Gp} {Q:VK3} (h:xs.length+ys.length<=sizeLine) (q:Q (.tup (xs++ys)) G):jQp (.tup xs) (.tup ys) G Q:=by
 cases xs with
 | nil=>exact .inr ⟨ys,rfl,rfl,q⟩
 | cons c xs=>exact .inl ⟨.val (.tup (c::xs++ys)),by have:xs.length+1+ys.length<=sizeLine:=h;simp[addR,this],q⟩
theorem qJn {i j:Int} {G:Gp} {Q:VK3} (q:Q (.int (i+j)) G):jQp (.int i) (.int j) G Q:= .inl ⟨.val (.int (i+j)),rfl,q⟩
def clip (x:Int):Int:=if (if x>0 then x else 0)<6 then if x>0 then x else 0 else 6
theorem clip0 {x:Int}:0<=clip x:=by unfold clip;split<;>split<;>omega
theorem clip6 {x:Int}:clip x<=6:=by unfold clip;split<;>split<;>omega
theorem pm {b:Addr} {v:Int} {G:Gp} {k:Nat} {K:Int->Gp->Prop} (bx:BoxAt G b k) (hk:k<2^40) (kk:∀z G',BoxAt G' b (k+1)->Keep b G G'->K z G'):
  2<=sizeLine/\∀p,G p=none->jJm [.ref b,.int 2] (gup G p (.lst [.int 1,.int (-1)])) fun y G2=>∃t,ixR G2 (.ref p) y=some t/\jQp (.int v) t G2 fun x G3=>∃z,x= .int z/\K z G3:=by
 have hs:=sz
 refine⟨by omega,fun p hp=> ?_⟩
 obtain⟨bo,hbo⟩:=bx.some
 have hbp:=jJg hbo hp
 refine⟨b,2,k,rfl,bx.gup hbp,hk,by decide,by decide,fun c G1 c0 c1 b1 k1=> ?_⟩
 have hc:c=0\/c=1:=by omega
 have hp1:=k1 _ _ hbp.symm jJf
 have fin:∀u:Int,L2.atI [T.int 1,T.int (-1)] c=some (.int u)->∃t,ixR G1 (.ref p) (.int c)=some t/\jQp (.int v) t G1 fun x G3=>∃z,x= .int z/\K z G3:=fun u hu=>
  ⟨.int u,(jJ9 hp1).trans hu,qJn ⟨_,rfl,kk _ G1 b1 ((Keep.new hp).trans k1)⟩⟩
 rcases hc with rfl | rfl
 ·exact fin 1 rfl
 ·exact fin (-1) rfl
theorem kQx:RdOk jYo jYv qQ3:=by
 intro xs G Q h_;apply xe3 h_;clear h_;intro b S n h_;apply ae4 h_;clear h_;intro hb hn sb kk
 show jYv _ [some (.ref b),some (.tup [.int S.1,.tup (S.2.map jJ0)]),none,none,none,none,none,none] G
 have hs:=sz
 have hl:=sb.n
 wp_walk using 1,jYv,rEqA,kQz,tSl,rSlF,slR,jQ9,jVq,kKq,kJq
 refine⟨b,5,n,rfl,hb,by omega,by decide,by decide,fun w G1 w0 w1 bx kp=>⟨by omega,_,qQp,?_⟩⟩
 have easy:2<=sizeLine/\∀p,G1 p=none->jJm [.ref b,.int 2] (gup G1 p (.lst [.int 1,.int (-1)])) fun y G2=>∃t,ixR G2 (.ref p) y=some t/\jQp (.int S.1) t G2 fun x G3=>∃z,x= .int z/\2<=sizeLine/\Q (.tup [.int (clip z),.tup (S.2.map jJ0)]) G3:=by
  refine pm (K:=fun z G3=>2<=sizeLine/\Q (.tup [.int (clip z),.tup (S.2.map jJ0)]) G3) bx (by omega) fun z G' b1 k1=>⟨by omega,?_⟩
  have:=kk ((clip z).toNat,S.2) G' ⟨by have:=clip6 (x:=z);show (clip z).toNat<=11;omega,sb.n,sb.s⟩ (b1.mono (by omega)) (kp.trans k1)
  rw[jUq,show (((clip z).toNat:Nat):Int)=clip z by have:=clip0 (x:=z);omega] at this
  exact this
 by_cases h0:S.2=[]
 ·rw[lJa (lJs h0)]
  exact easy
 rw[lJb (by simpa using (h0))]
 refine⟨_,jY5,?_⟩
 have hl1:1<=S.2.length:=by
  cases h:S.2 with
  | nil=>exact absurd h h0
  | cons a l=>simp
 split
 ·exact easy
 ·refine⟨b,_,n+1,rfl,bx,by omega,by rw[lJf];omega,by rw[lJf];omega,fun at' G2 a0 a1 b2 k2=>⟨_,jY5,?_⟩⟩
  rw[lJf] at a1
  obtain⟨i,rfl⟩:=lK4 a0
  have hi:i<S.2.length:=by omega
  have hsi:S.2[i]? =some S.2[i]:=lJl hi
  have hs3:S.2[i].2.2<=11:=sb.s _ (lQx hi)
  generalize S.2[i]=s at hsi hs3
  have cut1:cutT (S.2.map jJ0) none (some (i:Int))=(S.2.take i).map jJ0:=by
   unfold cutT
   rw[HT.sIx_none,HT.sIx_nat,List.drop_zero,Nat.sub_zero]
   simp[List.map_take]
  have cut2:cutT (S.2.map jJ0) (some ((i:Int)+1)) none=(S.2.drop (i+1)).map jJ0:=by
   rw[show ((i:Int)+1)=((i+1:Nat):Int) by omega]
   unfold cutT
   rw[HT.sIx_none,HT.sIx_nat,lK3 (by simp),lJf,Nat.min_eq_left (by omega),List.map_drop]
  have hat:ixR G2 (.tup (S.2.map jJ0)) (.int i)=some (jJ0 s):=by
   rw[kZd,atN,lJx,hsi];rfl
  have kp2:=kp.trans k2
  split
  ·refine⟨_,rfl,qJn ⟨_,rfl,?_⟩⟩
   rw[cut1,cut2]
   refine jV7 (by simp;omega) ⟨by omega,?_⟩
   rw[<-lJ4]
   exact kk (S.1,S.2.take i++S.2.drop (i+1)) G2 ⟨sb.c,by simp;omega,fun x hx=>(lJ1.mp hx).elim (fun z=>sb.s x (lV6 z)) fun z=>sb.s x (List.mem_of_mem_drop z)⟩ (b2.mono (by omega)) kp2
  ·refine⟨_,jY5,?_⟩
   split
   ·refine⟨_,hat,by omega,jV7 (by simp;omega) ⟨_,rfl,?_⟩⟩
    rw[kUe]
    refine⟨by omega,?_⟩
    have e:cutT (S.2.map jJ0++[jJ0 s]) none (some 8)=((S.2++[s]).take 8).map jJ0:=by
     rw[show (8:Int)=((8:Nat):Int) from rfl]
     unfold cutT
     rw[HT.sIx_none,HT.sIx_nat,List.drop_zero,Nat.sub_zero,List.map_take,lJ4]
     show List.take _ (S.2.map jJ0++[jJ0 s])=List.take 8 (S.2.map jJ0++[jJ0 s])
     rw[List.take_eq_take_iff]
     omega
    rw[e]
    exact kk (S.1,(S.2++[s]).take 8) G2 ⟨sb.c,by simp;omega,fun x hx=>(lJ1.mp (lV6 hx)).elim (sb.s x) fun z=>by rw[lJr.mp z];exact hs3⟩ (b2.mono (by omega)) kp2
   ·refine⟨_,hat,[.int s.1,.int s.2.1,.int s.2.2],rfl,fun p hp=> ?_⟩
    obtain⟨bo2,hbo2⟩:=b2.some
    have hbp:=jJg hbo2 hp
    refine⟨b,3,n+1+1,rfl,b2.gup hbp,by omega,by decide,by decide,fun c G3 c0 c1 b3 k3=> ?_⟩
    have hp3:=k3 _ _ hbp.symm jJf
    have kp3:=kp2.trans ((Keep.new hp).trans k3)
    have last:∀(v:Nat) (j:Nat) (f:Nat->Stp),L2.atI [T.int s.1,.int s.2.1,.int s.2.2] c=some (.int v)->L2.ixN 3 c=some j->(∀z:Nat,T.tup ([T.int s.1,.int s.2.1,.int s.2.2].set j (.int z))=jJ0 (f z))->(∀z,z<=6->(f z).2.2<=11)->∃t,ixR G3 (.ref p) (.int c)=some t/\2<=sizeLine/\∀p_1,G3 p_1=none->jJm [.ref b,.int 2] (gup G3 p_1 (.lst [.int 1,.int (-1)])) fun y G2=>∃t_1,ixR G2 (.ref p_1) y=some t_1/\jQp t t_1 G2 fun x_1 G1=>∃x_2,x_1= .int x_2/\∃G',setR G1 (.ref p) (.int c) (.int (clip x_2))=some G'/\∃i_1,T.int (i:Nat)=T.int i_1/\∃x,seqT G' (.ref p)=some x/\1<=sizeLine/\jQp (.tup (cutT (S.2.map jJ0) none (some i_1))) (.tup [.tup x]) G' fun x G1=>jQp (.int (i:Nat)) (.int 1) G1 fun x_3 G1=>∃i,x_3= .int i/\jQp x (.tup (cutT (S.2.map jJ0) (some i) none)) G1 fun x G1=>2<=sizeLine/\Q (.tup [.int S.1,x]) G1:=by
     intro v j f h1 h2 h3 h4
     refine⟨.int v,(jJ9 hp3).trans h1,?_⟩
     refine pm (v:=v) (K:=fun z G1=>∃G',setR G1 (.ref p) (.int c) (.int (clip z))=some G'/\∃i_1,T.int (i:Nat)=T.int i_1/\∃x,seqT G' (.ref p)=some x/\1<=sizeLine/\jQp (.tup (cutT (S.2.map jJ0) none (some i_1))) (.tup [.tup x]) G' fun x G1=>jQp (.int (i:Nat)) (.int 1) G1 fun x_3 G1=>∃i,x_3= .int i/\jQp x (.tup (cutT (S.2.map jJ0) (some i) none)) G1 fun x G1=>2<=sizeLine/\Q (.tup [.int S.1,x]) G1) b3 (by omega) fun z0 G4 b4 k4=> ?_
     have hp4:=k4 _ _ hbp.symm hp3
     refine⟨_,qKa hp4 h2,_,rfl,_,kUv,by omega,?_⟩
     have hz:clip z0=((clip z0).toNat:Nat):=by have:=clip0 (x:=z0);omega
     rw[cut1,hz,h3 (clip z0).toNat]
     refine jV7 (by simp;omega) (qJn ⟨_,rfl,?_⟩)
     rw[cut2]
     refine jV7 (by simp;omega) ⟨by omega,?_⟩
     have hkeep:Keep b G (gup G4 p (.lst ([T.int s.1,.int s.2.1,.int s.2.2].set j (.int ((clip z0).toNat:Nat))))):=fun c' o hc ho=>by
      rw[jJk (jJg (kp2 c' o hc ho) hp)];exact (kp3.trans k4) c' o hc ho
     have:=kk (S.1,S.2.take i++[f (clip z0).toNat]++S.2.drop (i+1)) _ ⟨sb.c,by simp;omega,fun x hx=>(lJ1.mp hx).elim (fun z=>(lJ1.mp z).elim (fun z=>sb.s x (lV6 z)) fun z=>by rw[lJr.mp z];exact h4 _ (by have:=clip6 (x:=z0);omega)) fun z=>sb.s x (List.mem_of_mem_drop z)⟩ (b4.gup hbp) hkeep
     rw[jUq,lJ4,lJ4] at this
     exact this
    have hc3:c=0\/c=1\/c=2:=by omega
    rcases hc3 with rfl | rfl | rfl
    ·exact last s.1 0 (fun z=>(z,s.2.1,s.2.2)) rfl ix30 (fun z=>rfl) fun z _=>hs3
    ·exact last s.2.1 1 (fun z=>(s.1,z,s.2.2)) rfl ix31 (fun z=>rfl) fun z _=>hs3
    ·exact last s.2.2 2 (fun z=>(s.1,s.2.1,z)) rfl ix32 (fun z=>rfl) fun z hz=>by show z<=11;omega
abbrev Kvs:=List (L2.TKey×T)
def kv1 (kvs:Kvs) (a b:Nat×Nat):Kvs:=putT (putT kvs (keyE a) (encE b)) (keyE b) (encE a)
theorem qVv {kvs:Kvs} {a b:Nat×Nat}:(kv1 kvs a b).length<=kvs.length+2:=by
 have h1:=jU6 kvs (keyE a) (encE b)
 have h2:=jU6 (putT kvs (keyE a) (encE b)) (keyE b) (encE a)
 unfold kv1;omega
noncomputable def kJa:Sp3:=fun xs G Q=>∃(p:Addr) (kvs:Kvs) (a b:Nat×Nat),xs=[.ref p,encE a,encE b]/\G p=some (.dct kvs)/\(∀x,x∈kvs->jZ2 x.1)/\kvs.length<=1000/\∀q G',G q=none->G' q=some (.dct (kv1 kvs a b))->Sub G G'->Q (.ref q) G'
def N_tied:List Str:=["leads","start","end","further"]
noncomputable def kQy:TS3:=
 (tSeq (tAsg (tCB jZr (jJc (tVar 0) tNil)) (jJh 3))
 (tSeq (tAsg (tVar 2) (gSub (tVar 3) (tVar 1) jQ1))
 (tSeq (tAsg (tVar 1) (gSub (tVar 3) (tVar 2) jQ1))
 (tRet (tVar 3)))))
theorem kYc:RdOk kJa kQy N_tied:=by
 intro xs G Q h_;apply xe4 h_;clear h_;intro p kvs a b h_;apply ae4 h_;clear h_;intro hp hk hl kk
 show kQy _ [some (.ref p),some (encE a),some (encE b),none] G
 have hs:=sz
 wp_walk using 1,kQy,jZr
 refine⟨kvs,hp,hk,fun q hq=> ?_⟩
 have h1:=jU6 kvs (keyE a) (encE b)
 wp_walk using 1,tSeq
 refine⟨_,jVs jJf (ks:=keyE a) rfl (by omega),?_⟩
 wp_walk using 1,tSeq
 refine⟨_,jVs jJf (ks:=keyE b) rfl (by omega),?_⟩
 wp_walk using 1,tSeq
 exact kk q _ hq jJf (.new hq)
def skR (c:List Nat) (kvs:Kvs) (i:Nat):T:= .tup ((List.range (c.getD i 0)).map fun j=>(valT kvs (keyE (i,j))).getD .non)
noncomputable def jVf:Sp3:=fun xs G Q=>∃(c:List Nat) (p:Addr) (kvs:Kvs),xs=[.tup (jJj c),.ref p]/\G p=some (.dct kvs)/\c.length<=100/\(∀x,x∈c->x<=100)/\∀G',Sub G G'->Q (.tup ((List.range c.length).map (skR c kvs))) G'
def kXn:List Str:=["counts","leads","rooms","room","doors","door"]
noncomputable def jVh:TS3:=
 (tSeq (tAsg (tLst tNil) (jJh 2))
 (tSeq (tFor (iEnT (jJc (tVar 0) tNil)) (gTup 2 (jKd (jJh 3) (jKd (jJh 4) gNil))) (jQc (tBM "list" jJ8 (tVar 2) (jJc (tCB jJz (jJc (jKu [false,false,false,false,false,true] (jKp (jJc (tVar 4) tNil)) (jJh 5) jQw (tBM "dict" qU7 (tVar 1) (jJc (tTup (jJc (tVar 3) (jJc (tVar 5) tNil))) tNil))) tNil)) tNil))))
 (tRet (tCB jJz (jJc (tVar 2) tNil)))))
theorem kJi:RdOk jVf jVh kXn:=by
 intro xs G Q h_;apply xe3 h_;clear h_;intro c p kvs h_;apply ae4 h_;clear h_;intro hp hl hc kk
 show jVh _ [some (.tup (jJj c)),some (.ref p),none,none,none,none] G
 have hs:=sz
 wp_walk using 1,jVh,jKq,iEnT
 refine⟨lJq _,fun q hq=> ?_⟩
 have hpq:=jJg hp hq
 let J1:Nat->St3->Gp->Prop:=fun i τ G'=>∃(v3 v4:Option T),τ=[some (.tup (jJj c)),some (.ref p),some (.ref q),v3,v4,none]/\G' q=some (.lst ((List.range i).map (skR c kvs)))/\Sub G G'
 refine⟨J1,?_,?_,?_,?_⟩
 ·exact xi2 _ _ rfl ⟨jJf,.new hq⟩
 ·intros;trivial
 ·intro i y τ G1 hy h_;apply xe2 h_;clear h_;intro v3 v4 h_;apply ae2 h_;clear h_;intro h2 h3
  obtain⟨z,hz,rfl⟩:=jYy hy
  obtain⟨d,hd,rfl⟩:=jKt hz
  have hi:i<c.length:=(lJh.mp hd).1
  have hd1:=hc d (lJz hd)
  have hcd:c.getD i 0=d:=by rw[lQ7,hd];rfl
  wp_walk using 1,jKp,jKi h2
  refine⟨by omega,by omega,?_⟩
  rw[show (((d:Nat):Int)).toNat=d by omega,jUb]
  refine jK1 (es:=List.range d) (enc:=fun x:Nat=>T.int x) (fun j=>(valT kvs (keyE (i,j))).getD .non) (by rw[lKr];omega) (fun _ _=>trivial) ?_ ?_
  ·intro j x hx G2 K K0 s2 hK
   have hp2:=s2 _ _ (h3 _ _ hp)
   wp_walk using 1,qU7
   refine⟨by simp[tyT,hp2],by omega,valT kvs (keyE (i,x)),?_,hK G2 (.refl _)⟩
   simp only[dAt,hp2];rfl
  ·intro D G2 hD hD2 s2
   refine⟨_,jJl hD2,?_⟩
   have hq2:=s2 _ _ h2
   wp_walk using 1,hq2
   refine⟨by rw[lJf,lKr];omega,xi2 _ _ rfl ⟨?_,(h3.trans s2).over hq⟩⟩
   rw[jJf,List.range_succ,lJ4,List.map_singleton]
   unfold skR
   rw[hcd]
 ·intro τ G1 h_;apply xe2 h_;clear h_;intro v3 v4 h_;apply ae2 h_;clear h_;intro h2 h3
  wp_walk using 1,tSeq
  have hn:(numT (jJj c)).length=c.length:=by rw[jX7];simp[jJj]
  rw[hn] at h2
  exact⟨_,jJl h2,kk G1 h3⟩
noncomputable def jUp (c:List Nat) (s:Stp) (most:Nat):List (Nat×Nat):=((List.range c.length).filter fun r=>decide (c.getD r 0=s.2.2)).map (fun r=>(r,s.2.1))++if c.length<most then [(c.length,s.2.1)] else []
theorem kK9 {c:List Nat} {s:Stp} {most:Nat}:(jUp c s most).length<=c.length+1:=by
 unfold jUp
 have:=lQo (fun r=>decide (c.getD r 0=s.2.2)) (List.range c.length)
 rw[lKr] at this
 rw[lKd,lJf]
 split
 ·rw[lQt];omega
 ·rw[lQk];omega
noncomputable def nxtE (c:List Nat) (kvs:Kvs) (room:Nat) (s:Stp) (most:Nat):List (Nat×Nat):=
 if s.1<c.getD room 0/\s.2.1<s.2.2 then
  match valT kvs (keyE (room,s.1)) with
  | some t=>(jUp c s most).filter fun e=>eqT (encE e) t
  | none=>(jUp c s most).filter fun e=>(valT kvs (keyE e)).isNone
 else []
theorem kJx {G:Gp} {p:Addr} {kvs:Kvs} {e:Nat×Nat} (h:G p=some (.dct kvs)):inR G (encE e) (.ref p)=some (valT kvs (keyE e)).isSome:=by
 unfold inR
 simp only[seqT,h,asL,dAt]
 rfl
theorem kYw {c:List Nat}:numT (jJj c)=(List.range c.length).map fun i=>T.tup [.int (i:Nat),.int (c.getD i 0:Nat)]:=by
 apply lQ2
 intro i
 rw[lJx]
 by_cases hi:i<c.length
 ·rw[lQ0 hi]
  have:(jJj c)[i]? =some (.int (c.getD i 0:Nat)):=by simp[jJj,hi]
  rw[jX8 this];rfl
 ·rw[lKa (show (numT (jJj c)).length<=i by rw[jX7];simp[jJj];omega),lKa (by rw[lKr];omega)];rfl
theorem jU0 {α β:Type} {p:α->Bool} {f:α->β}:∀l:List α,l.filterMap (fun r=>if p r=true then some (f r) else none)=(l.filter p).map f
 | []=>rfl
 | a::l=>by
  rw[lKu,lQe]
  by_cases h:p a=true
  ·rw[lJa h,lJa h,lJn,jU0 l]
  ·rw[lJb h,lJb h,jU0 l]
theorem at_c {c:List Nat} {r:Nat} (h:r<c.length):L2.atI (jJj c) (r:Int)=some (.int (c.getD r 0:Nat)):=by rw[atN];simp[jJj,h]
noncomputable def jVg:Sp3:=fun xs G Q=>∃(c:List Nat) (p:Addr) (kvs:Kvs) (room most:Nat) (s:Stp),xs=[.tup (jJj c),.ref p,encE (room,s.1),jJ0 s,.int most]/\G p=some (.dct kvs)/\room<c.length/\c.length<=100/\(∀e t,valT kvs (keyE e)=some t->∃v,t=encE v)/\∀q G',G q=none->G' q=some (.lst ((nxtE c kvs room s most).map encE))->Sub G G'->Q (.ref q) G'
def kXo:List Str:=["counts","leads","start","step","most","rooms","ends","room","doors","end"]
noncomputable def jVi:TS3:=
 (tSeq (tIfS (tOr (tNot (jJt (kUt rLeF rLt (tC (.int 0)) (tOp rIxF (tVar 2) (tC (.int 1))) (tOp rIxF (tVar 0) (tOp rIxF (tVar 2) (tC (.int 0))))))) (tNot (jJt (kUt rLeF rLt (tC (.int 0)) (tOp rIxF (tVar 3) (tC (.int 1))) (tOp rIxF (tVar 3) (tC (.int 2))))))) (tRet (tLst tNil)) jKa)
 (tSeq (tAsg (jKu [false,false,false,false,false,false,false,true,true,false] (iEnT (jJc (tVar 0) tNil)) (gTup 2 (jKd (jJh 7) (jKd (jJh 8) gNil))) (jJt (tOp rEqA (tVar 8) (tOp rIxF (tVar 3) (tC (.int 2))))) (tVar 7)) (jJh 5))
 (tSeq (tAsg (jKu [false,false,false,false,false,false,false,true,false,false] (iSeq (tVar 5)) (jJh 7) jQw (tTup (jJc (tVar 7) (jJc (tOp rIxF (tVar 3) (tC (.int 1))) tNil)))) (jJh 6))
 (tSeq (tIfS (jJt (tOp rLt (tCB rLen (jJc (tVar 0) tNil)) (tVar 4))) (jQc (tBM "list" jJ8 (tVar 6) (jJc (tTup (jJc (tCB rLen (jJc (tVar 0) tNil)) (jJc (tOp rIxF (tVar 3) (tC (.int 1))) tNil))) tNil))) jKa)
 (tSeq (tIfS (jJt (tOp kYj (tVar 2) (tVar 1))) (tRet (jKu [false,false,false,false,false,false,false,false,false,true] (iSeq (tVar 6)) (jJh 9) (jJt (tOp rEqA (tVar 9) (tOp rIxF (tVar 1) (tVar 2)))) (tVar 9))) jKa)
 (tRet (jKu [false,false,false,false,false,false,false,false,false,true] (iSeq (tVar 6)) (jJh 9) (jJt (tOp jKx (tVar 9) (tVar 1))) (tVar 9))))))))
theorem kJj:RdOk jVg jVi kXo:=by
 intro xs G Q h_;apply xe6 h_;clear h_;intro c p kvs room most s h_;apply ae5 h_;clear h_;intro hp hr hl hv kk
 show jVi _ [some (.tup (jJj c)),some (.ref p),some (.tup [.int room,.int s.1]),some (.tup [.int s.1,.int s.2.1,.int s.2.2]),some (.int most),none,none,none,none,none] G
 have hs:=sz
 have hel:=kK9 (c:=c) (s:=s) (most:=most)
 have hil:(jJj c).length=c.length:=by simp[jJj]
 wp_walk using 1,jVi,kUt,rLeF,rEqA,iEnT,iSeq,at_c hr,hil
 have none_:¬ (s.1<c.getD room 0/\s.2.1<s.2.2)->0<=sizeLine/\∀(p:Addr),G p=none->Q (.ref p) (gup G p (.lst [])):=fun h=>⟨lJq _,fun q hq=>kk q _ hq (by rw[jJf,nxtE,lJb h];rfl) (.new hq)⟩
 rw[lJa (by omega)]
 by_cases h1:s.1<c.getD room 0
 rotate_left
 ·rw[lJa (by simp only[lXi];omega)]
  exact none_ fun z=>h1 z.1
 rw[lJb (by simp only[lXi];omega),lJa (by omega)]
 by_cases h2:s.2.1<s.2.2
 rotate_left
 ·rw[lJa (by simp only[lXi];omega)]
  exact none_ fun z=>h2 z.2
 rw[lJb (by simp only[lXi];omega),kYw]
 have fin:∀(q:Addr) (v5:T) (G1:Gp),G q=none->G1 q=some (.lst ((jUp c s most).map encE))->Sub G G1->kYj (.tup [.int room,.int s.1]) (.ref p) G1 fun x_2 G1=>∃c_1,x_2= .bl c_1/\if c_1=true then ∃xs,seqT G1 (.ref q)=some xs/\jU2 [false,false,false,false,false,false,false,false,false,true] (jJh 9) (jJt (tOp rEqA (tVar 9) (tOp rIxF (tVar 1) (tVar 2)))) (tVar 9) [some (.tup (jJj c)),some (.ref p),some (.tup [.int room,.int s.1]),some (.tup [.int s.1,.int s.2.1,.int s.2.2]),some (.int most),some v5,some (.ref q),none,none,none] xs (fun G'=>seqT G' (.ref q)=some xs) G1 Q else ∃xs,seqT G1 (.ref q)=some xs/\jU2 [false,false,false,false,false,false,false,false,false,true] (jJh 9) (jJt (tOp jKx (tVar 9) (tVar 1))) (tVar 9) [some (.tup (jJj c)),some (.ref p),some (.tup [.int room,.int s.1]),some (.tup [.int s.1,.int s.2.1,.int s.2.2]),some (.int most),some v5,some (.ref q),none,none,none] xs (fun G'=>seqT G' (.ref q)=some xs) G1 Q:=by
  intro q v5 G1 hq hq1 s1
  have hp1:=s1 _ _ hp
  refine⟨_,kJx (e:=(room,s.1)) hp1,_,rfl,?_⟩
  have ns:∀G2,Sub G1 G2->seqT G2 (.ref q)=some ((jUp c s most).map encE):=fun G2 s2=>jJl (s2 _ _ hq1)
  cases hval:valT kvs (keyE (room,s.1)) with
  | some t=>
   rw[lJa (by simp)]
   obtain⟨v,rfl⟩:=hv _ _ hval
   refine⟨_,ns G1 (.refl _),?_⟩
   refine jVb (fun e=>if eqT (encE e) (encE v)=true then some (encE e) else none) (by omega) ns ?_ ?_
   ·intro i e he G2 K K0 s2 hK hK0
    have hix:ixR G2 (.ref p) (.tup [.int room,.int s.1])=some (encE v):=jXr (s2 _ _ hp1) (ks:=keyE (room,s.1)) rfl hval
    wp_walk using 1,rEqA,hix
    refine⟨_,kZt (d:=1) okD_enc okD_enc (by decide) (fun p z=>by cases z),?_⟩
    by_cases h:eqT (encE e) (encE v)=true
    ·rw[lJa h];exact hK _ _ (by rw[lJa h]) (.refl _)
    ·rw[lJb h];exact hK0 (by rw[lJb h]) _ (.refl _)
   ·intro D G2 hD hD2 s2
    rw[jU0 (p:=fun e=>eqT (encE e) (encE v))] at hD2
    exact kk D G2 (s1.none hD) (by rw[hD2,nxtE,lJa ⟨h1,h2⟩,hval]) (s1.trans s2)
  | none=>
   rw[lJb (by simp)]
   refine⟨_,ns G1 (.refl _),?_⟩
   refine jVb (fun e=>if (valT kvs (keyE e)).isNone=true then some (encE e) else none) (by omega) ns ?_ ?_
   ·intro i e he G2 K K0 s2 hK hK0
    wp_walk using 1,jKx
    refine⟨_,kJx (s2 _ _ hp1),?_⟩
    cases hz:valT kvs (keyE e) with
    | none=>
     rw[lJa (by simp)]
     exact hK _ _ (by rw[lJa (by rw[hz];rfl)]) (.refl _)
    | some t=>
     rw[lJb (by simp)]
     exact hK0 (by rw[lJb (by rw[hz];simp)]) _ (.refl _)
   ·intro D G2 hD hD2 s2
    rw[jU0 (p:=fun e=>(valT kvs (keyE e)).isNone)] at hD2
    exact kk D G2 (s1.none hD) (by rw[hD2,nxtE,lJa ⟨h1,h2⟩,hval]) (s1.trans s2)
 refine jVb (es:=List.range c.length) (enc:=fun i:Nat=>T.tup [.int (i:Nat),.int (c.getD i 0:Nat)]) (fun r=>if decide (c.getD r 0=s.2.2)=true then some (T.int (r:Nat)) else none) (by rw[lKr];omega) (fun _ _=>trivial) ?_ ?_
 ·intro i r hri G1 K K0 s1 hK hK0
  wp_walk using 1,rEqA
  refine⟨_,jU1,?_⟩
  by_cases h:c.getD r 0=s.2.2
  ·rw[lJa (by simpa using h)];exact hK _ _ (by rw[lJa (by simpa using h)]) (.refl _)
  ·rw[lJb (by simpa using h)];exact hK0 (by rw[lJb (by simpa using h)]) _ (.refl _)
 ·intro D G1 hD hD1 s1
  rw[jU0 (p:=fun r=>decide (c.getD r 0=s.2.2))] at hD1
  generalize hR:(List.range c.length).filter (fun r=>decide (c.getD r 0=s.2.2))=R at hD1
  have hRl:R.length<=c.length:=by
   rw[<-hR]
   have:=lQo (fun r=>decide (c.getD r 0=s.2.2)) (List.range c.length)
   rwa [lKr] at this
  refine⟨_,jJl hD1,?_⟩
  refine jK1 (es:=R) (enc:=fun r:Nat=>T.int r) (fun r=>encE (r,s.2.1)) (by omega) (fun G' s'=>jJl (s' _ _ hD1)) ?_ ?_
  ·intro i r hri G2 K K0 s2 hK
   wp_walk using 1,tSeq
   exact⟨by omega,hK G2 (.refl _)⟩
  ·intro q G2 hq hq2 s2
   have hq0:=s1.none hq
   have sG:=s1.trans s2
   split
   ·rename_i hm
    wp_walk using 1,jKi hq2,hq2
    refine⟨by omega,by rw[lJf];omega,?_⟩
    exact fin q _ _ hq0 (by rw[jJf,jUp,hR,lJa (by omega),lJ4,lJ0];rfl) (sG.over hq0)
   ·rename_i hm
    exact fin q _ _ hq0 (by rw[hq2,jUp,hR,lJb (by omega),lKh,lJ0];rfl) sG
def inC (c:List Nat) (e:Nat×Nat):Prop:=e.1<c.length/\e.2<c.getD e.1 0
def cn1 (c:List Nat) (s:Stp) (e:Nat×Nat):List Nat:=if e.1<c.length then c else c++[s.2.2]
structure Hd (c:List Nat) (kvs:Kvs):Prop where
 ks:∀x,x∈kvs->∃e v,x=(keyE e,encE v)/\inC c e/\inC c v
 nd:(kvs.map (·.1)).Nodup
 sy:∀e v,valT kvs (keyE e)=some (encE v)->valT kvs (keyE v)=some (encE e)
theorem kU0 {kvs:Kvs} {k:L2.TKey} {v:T} {x:L2.TKey×T} (h:x∈putT kvs k v):x∈kvs\/x=(k,v):=by
 unfold putT at h
 split at h
 ·obtain⟨y,hy,e⟩:=lJi.mp h
  by_cases z:y.1=k
  ·rw[lJa z] at e
   exact .inr (by rw[<-e,z])
  ·rw[lJb z] at e
   exact .inl (e▸hy)
 ·rcases (lJ1.mp h) with h | h
  ·exact .inl h
  ·exact .inr (lJr.mp h)
theorem kYl {kvs:Kvs} {k:L2.TKey} {v:T} (h:(kvs.map (·.1)).Nodup):((putT kvs k v).map (·.1)).Nodup:=by
 unfold putT
 split
 ·rw[lJ0]
  have:(kvs.map ((fun x:L2.TKey×T=>x.1)∘fun kv=>if kv.1=k then (kv.1,v) else kv))=kvs.map (·.1):=lQ9 fun x _=>by
   show (if x.1=k then (x.1,v) else x).1=x.1
   split<;>rfl
  rw[this];exact h
 ·rename_i hn
  (rw[lJ4,lVm])
  refine⟨h,by simp,fun a ha b hb e=>hn ?_⟩
  obtain⟨x,hx,rfl⟩:=lJi.mp ha
  rw[show b=k by simpa using hb] at e
  exact lV1.mpr ⟨x,hx,by simpa using e⟩
theorem kUs {kvs:Kvs} {k:L2.TKey} {t:T} (h:valT kvs k=some t):(k,t)∈kvs:=by
 unfold valT at h
 cases e:kvs.find? fun kv=>decide (kv.1=k) with
 | none=>rw[e] at h;cases h
 | some x=>
  rw[e] at h;cases h
  have:=List.find?_some e
  rw[<-lXb this]
  exact List.mem_of_find?_eq_some e
theorem kKr {kvs:Kvs} {k:L2.TKey} {v:T} (hn:(kvs.map (·.1)).Nodup) (h:valT kvs k=some v):putT kvs k v=kvs:=by
 have hm:=kUs h
 unfold putT
 rw[lJa (lV1.mpr ⟨_,hm,by simp⟩)]
 rw[lQ9 (g:=id)]
 ·simp
 ·intro x hx
  by_cases z:x.1=k
  ·rw[lJa z]
   obtain⟨i,hi⟩:=lKj hx
   (obtain⟨j,hj⟩:=lKj hm)
   have:=(lQy (by simpa using (lJh.mp hi).1) hn).mp (show (kvs.map (·.1))[i]? =(kvs.map (·.1))[j]? by rw[lJx,lJx,hi,hj];simp[z])
   subst this
   rw[hi] at hj
   cases hj;rfl
  ·rw[lJb z];rfl
theorem jY6 {a b:Nat×Nat} (h:encE a=encE b):a=b:=by
 have:=lKl dec h
 rwa [kZ3,kZ3] at this
theorem Hd.val {c:List Nat} {kvs:Kvs} (h:Hd c kvs) {e:Nat×Nat} {t:T} (ht:valT kvs (keyE e)=some t):∃v,t=encE v/\inC c e/\inC c v:=by
 obtain⟨e',v,q,h1,h2⟩:=h.ks _ (kUs ht)
 cases (Prod.mk.inj q).2
 have:=jYa (Prod.mk.inj q).1
 subst this
 exact⟨v,rfl,h1,h2⟩
theorem jU9 {c:List Nat} {s:Stp} {e a:Nat×Nat} (h:inC c a):inC (cn1 c s e) a:=by
 unfold cn1
 split
 ·exact h
 ·obtain⟨h1,h2⟩:=h
  refine⟨by rw[lKd];omega,?_⟩
  rw[lQ7,lQi h1,<-lQ7];exact h2
theorem kQ5 {c:List Nat} {kvs:Kvs} {r most:Nat} {s:Stp} {e:Nat×Nat} (h:Hd c kvs) (hr:r<c.length) (he:e∈nxtE c kvs r s most):s.1<c.getD r 0/\s.2.1<s.2.2/\inC (cn1 c s e) e/\(e.1<c.length\/(e.1=c.length/\c.length<most))/\(valT kvs (keyE (r,s.1))=some (encE e)\/(valT kvs (keyE (r,s.1))=none/\valT kvs (keyE e)=none)):=by
 unfold nxtE at he
 split at he
 rotate_left
 ·cases he
 rename_i hc
 have hends:e∈jUp c s most->inC (cn1 c s e) e/\(e.1<c.length\/(e.1=c.length/\c.length<most)):=by
  intro z
  rcases (lJ1.mp z) with z | z
  ·obtain⟨q,hq,rfl⟩:=lJi.mp z
   obtain⟨q1,q2⟩:=lKc.mp hq
   have q1:=lJ2.mp q1
   refine⟨jU9 ⟨q1,?_⟩,.inl q1⟩
   rw[show c.getD q 0=s.2.2 from lXb q2];exact hc.2
  ·split at z
   ·rename_i hm
    cases lJr.mp z
    refine⟨?_,.inr ⟨rfl,hm⟩⟩
    unfold cn1
    rw[lJb (lKt _)]
    refine⟨by rw[lKd,lQt];exact lV4 _,?_⟩
    rw[lQ7,lVu (lJe _)]
    simpa using hc.2
   ·cases z
 cases hv:valT kvs (keyE (r,s.1)) with
 | some t=>
  rw[hv] at he
  obtain⟨z1,z2⟩:=lKc.mp he
  obtain⟨v,rfl,_⟩:=h.val hv
  rw[kJ1] at z2
  have:e=v:=lXb z2
  subst this
  exact⟨hc.1,hc.2,(hends z1).1,(hends z1).2,.inl rfl⟩
 | none=>
  rw[hv] at he
  obtain⟨z1,z2⟩:=lKc.mp he
  exact⟨hc.1,hc.2,(hends z1).1,(hends z1).2,.inr ⟨rfl,by simpa using z2⟩⟩
theorem kUb {kvs:Kvs} {a b e:Nat×Nat}:valT (kv1 kvs a b) (keyE e)=if b=e then some (encE a) else if a=e then some (encE b) else valT kvs (keyE e):=by
 unfold kv1
 rw[jU3,jU3]
 by_cases h:b=e
 ·rw[lJa (by rw[h]),lJa h]
 ·rw[lJb (fun z=>h (jYa z)),lJb h]
  by_cases h2:a=e
  ·rw[lJa (by rw[h2]),lJa h2]
  ·rw[lJb (fun z=>h2 (jYa z)),lJb h2]
theorem Hd.old {c:List Nat} {kvs:Kvs} {a e:Nat×Nat} (h:Hd c kvs) (hv:valT kvs (keyE a)=some (encE e)):kv1 kvs a e=kvs:=by
 unfold kv1
 rw[kKr h.nd hv,kKr h.nd (h.sy _ _ hv)]
theorem Hd.next {c:List Nat} {kvs:Kvs} {r most:Nat} {s:Stp} {e:Nat×Nat} (h:Hd c kvs) (hr:r<c.length) (he:e∈nxtE c kvs r s most):Hd (cn1 c s e) (kv1 kvs (r,s.1) e):=by
 obtain⟨h1,h2,h3,h4,h5⟩:=kQ5 h hr he
 have ha:inC (cn1 c s e) (r,s.1):=jU9 ⟨hr,h1⟩
 refine⟨fun x hx=> ?_,kYl (kYl h.nd),fun a v hv=> ?_⟩
 ·rcases kU0 hx with hx | rfl
  ·rcases kU0 hx with hx | rfl
   ·obtain⟨a,v,q,q1,q2⟩:=h.ks x hx
    exact⟨a,v,q,jU9 q1,jU9 q2⟩
   ·exact⟨_,_,rfl,ha,h3⟩
  ·exact⟨_,_,rfl,h3,ha⟩
 ·rcases h5 with h5 | ⟨h5,h6⟩
  ·rw[h.old h5] at hv ⊢; exact h.sy _ _ hv
  ·rw[kUb] at hv ⊢
   by_cases q1:e=a
   ·rw[lJa q1] at hv
    have:=jY6 (lKb hv)
    subst this;subst q1
    by_cases q2:e=(r,s.1)
    ·rw[lJa q2,q2]
    ·rw[lJb q2,lJa rfl]
   ·rw[lJb q1] at hv
    by_cases q2:(r,s.1)=a
    ·rw[lJa q2] at hv
     have:=jY6 (lKb hv)
     subst this;subst q2
     rw[lJa rfl]
    ·rw[lJb q2] at hv
     have hb:=h.sy _ _ hv
     rw[lJb (fun z=>by rw[<-z,h6] at hb;cases hb),lJb (fun z=>by rw[<-z,h5] at hb;cases hb)]
     exact hb
theorem vis_sub {F:List Nat} {es:List (Nat×Nat)}:(∃E,vis F es=F++E)/\(∀e,e∈es->e.1∈vis F es)/\(∀x,x∈vis F es->x∈F\/∃e,e∈es/\e.1=x)/\(F.Nodup->(vis F es).Nodup):=by
 induction es generalizing F with
 | nil=>exact⟨⟨[],by simp[vis]⟩,by simp,fun x h=> .inl h,fun h=>h⟩
 | cons e es ih=>
  have hv:vis F (e::es)=vis (if F.contains e.1=true then F else F++[e.1]) es:=rfl
  rw[hv]
  by_cases h:F.contains e.1=true
  ·rw[lJa h]
   obtain⟨⟨E,i1⟩,i2,i3,i4⟩:=ih (F:=F)
   refine⟨⟨E,i1⟩,fun d hd=> ?_,fun x hx=> ?_,i4⟩
   ·rcases (lJj.mp hd) with rfl | hde
    ·rw[i1];exact lK2 _ (by simpa using h)
    ·exact i2 d hde
   ·rcases i3 x hx with h | ⟨d,hd,e⟩
    ·exact .inl h
    ·exact .inr ⟨d,lJ3 _ hd,e⟩
  ·rw[lJb h]
   obtain⟨⟨E,i1⟩,i2,i3,i4⟩:=ih (F:=F++[e.1])
   refine⟨⟨e.1::E,by rw[i1];simp⟩,fun d hd=> ?_,fun x hx=> ?_,fun hn=>i4 ?_⟩
   ·rcases (lJj.mp hd) with rfl | hde
    ·rw[i1];exact lK2 _ (by simp)
    ·exact i2 d hde
   ·rcases i3 x hx with h | ⟨d,hd,e'⟩
    ·rcases (lJ1.mp h) with h | hs
     ·exact .inl h
     ·exact .inr ⟨e,lJ7 ..,(lJr.mp hs).symm⟩
    ·exact .inr ⟨d,lJ3 _ hd,e'⟩
   ·rw[lVm]
    exact⟨hn,by simp,fun a ha b hb=>by rw[lJr] at hb;subst hb;rintro rfl;exact h (by simpa using ha)⟩
structure Bfs (W:Web) (k:Nat) (F:List Nat):Prop where
 nd:F.Nodup
 lt:∀x,x∈F->x<W.length
 near:∀(i x:Nat) (e:Nat×Nat),i<k->F[i]? =some x->e∈row W x->e.1∈F
theorem qU3 {W:Web} {x:Nat} {e:Nat×Nat} (h:e∈row W x):∃i,en W x i=some e:=by
 unfold row at h
 cases hW:W[x]? with
 | none=>rw[hW] at h;simp at h
 | some es=>
  rw[hW] at h
  obtain⟨i,hi⟩:=lKj (show e∈es from h)
  exact⟨i,jX3 hW hi⟩
theorem Bfs.step {W:Web} (f:Fine W) {k r:Nat} {F:List Nat} (h:Bfs W k F) (hr:F[k]? =some r):Bfs W (k+1) (vis F (row W r)):=by
 obtain⟨⟨E,e1⟩,e2,e3,e4⟩:=vis_sub (F:=F) (es:=row W r)
 refine⟨e4 h.nd,fun x hx=> ?_,fun i x e hi hx he=> ?_⟩
 ·rcases e3 x hx with hx | ⟨e,he,rfl⟩
  ·exact h.lt x hx
  ·obtain⟨i,hi⟩:=qU3 he
   exact f.rng _ _ e.1 e.2 hi
 ·have hkl:k<F.length:=(lJh.mp hr).1
  have hx':F[i]? =some x:=by rw[e1,lQi (by omega)] at hx;exact hx
  rcases lQz (lV0 hi) with h1 | rfl
  ·rw[e1];exact lK2 _ (h.near i x e h1 hx' he)
  ·rw[hr] at hx';cases hx';exact e2 e he
theorem Bfs.run {W:Web} (f:Fine W):∀(n k:Nat) (F:List Nat),Bfs W k F->W.length<=n+k->k<=F.length->(∃E,bfsN W n k F=F++E)/\Bfs W (bfsN W n k F).length (bfsN W n k F)
 | 0,k,F,h,hl,hk=>by
  have hF:=jQs h.nd h.lt
  have:k=F.length:=by omega
  subst this
  exact⟨⟨[],by simp[bfsN]⟩,h⟩
 | n+1,k,F,h,hl,hk=>by
  rcases lKs k F.length with hlt | hge
  ·have hr:F[k]? =some F[k]:=lJl hlt
   rw[jZa hr]
   obtain⟨⟨E,e1⟩,e2,e3,e4⟩:=vis_sub (F:=F) (es:=row W F[k])
   obtain⟨⟨E',h1⟩,h2⟩:=Bfs.run f n (k+1) _ (h.step f hr) (by omega) (by rw[e1,lKd];omega)
   exact⟨⟨E++E',by rw[h1,e1,lVl]⟩,h2⟩
  ·have:k=F.length:=by omega
   subst this
   rw[jZb (lJe _)]
   exact⟨⟨[],by simp⟩,h⟩
theorem bfs_ok {W:Web} (f:Fine W) {r:Nat} (hr:r<W.length):(∃E,bfs W r=r::E)/\Bfs W (bfs W r).length (bfs W r):=
 Bfs.run f W.length 0 [r] ⟨by simp,by simpa using hr,fun i x e hi=>absurd hi (lQd _)⟩ (by omega) (by simp)
structure Order (W:Web) (r:Nat) (F:List Nat):Prop where
 nd:F.Nodup
 lt:∀x,x∈F->x<W.length
 all:∀x,x<W.length->x∈F
 first:F[0]? =some r
theorem qJj {W:Web} (f:Fine W) (sym:Sym W) (c:Conn W) {r:Nat} (hr:r<W.length):Order W r (bfs W r):=by
 obtain⟨⟨E,e1⟩,h⟩:=bfs_ok f hr
 have cl:∀x i s j,x∈bfs W r->en W x i=some (s,j)->s∈bfs W r:=by
  intro x i s j hx he
  obtain⟨k,hk⟩:=lKj hx
  have hkl:=(lJh.mp hk).1
  refine h.near k x (s,j) hkl hk ?_
  have he':=he
  unfold en at he'
  cases hW:W[x]? with
  | none=>rw[hW] at he';cases he'
  | some es=>rw[hW] at he';rw[jQz hW];exact lJz (show es[i]? =_ from he')
 have hrF:r∈bfs W r:=by rw[e1];exact lJ7 ..
 have h0:0∈bfs W r:=c (fun x=>x∈bfs W r->0∈bfs W r) (fun h=>h) (fun x i s j hx he hs=>hx (cl s j x i hs (sym _ _ _ _ he))) r hr hrF
 exact⟨h.nd,h.lt,fun x hx=>c (fun x=>x∈bfs W r) h0 (fun x i s j h he=>cl x i s j h he) x hx,by rw[e1];rfl⟩
theorem kVk:∀(n:Nat) (F:List Nat),(∀x,x<n->x∈F)->n<=F.length
 | 0,_,_=>lJq _
 | n+1,F,h=>by
  have hn:=h n (lV4 _)
  have h1:=kVk n (F.erase n) fun x hx=>(List.mem_erase_of_ne (by omega)).mpr (h x (by omega))
  rw[List.length_erase_of_mem hn] at h1
  have:=List.length_pos_of_mem hn
  omega
theorem Order.len {W:Web} {r:Nat} {F:List Nat} (h:Order W r F):F.length=W.length:=by
 have h1:=jQs h.nd h.lt
 exact Nat.le_antisymm h1 (kVk _ _ h.all)
def nuF (nu:List Nat) (x:Nat):Nat:=(nu[x]?).getD x
def renE (nu:List Nat) (es:List (Nat×Nat)):List (Nat×Nat):=es.map fun e=>(nuF nu e.1,e.2)
structure Ren (W:Web) (nu:List Nat) (V:Web):Prop where
 len:V.length=W.length
 at':∀(r:Nat) (es:List (Nat×Nat)),W[r]? =some es->V[nuF nu r]? =some (renE nu es)
theorem jV0 {nu:List Nat} {x y:Nat} (h:nu[x]? =some y):nuF nu x=y:=by unfold nuF;rw[h];rfl
theorem kJu {nu:List Nat} {x:Nat} (h:nu.length<=x):nuF nu x=x:=by unfold nuF;rw[lKa h];rfl
theorem qUh {n:Nat} {nu:List Nat} (t:Turn n nu) {x:Nat} (h:x<n):nuF nu x<n:=by
 obtain⟨y,hy,hl⟩:=t.at h
 rw[jV0 hy];exact hl
theorem qVo {n:Nat} {nu:List Nat} (t:Turn n nu) {x y:Nat} (h:nuF nu x=nuF nu y):x=y:=by
 rcases lKs x n with hx | hx<;>rcases lKs y n with hy | hy
 ·obtain⟨a,ha,_⟩:=t.at hx
  obtain⟨b,hb,_⟩:=t.at hy
  rw[jV0 ha,jV0 hb] at h
  subst h
  exact (lQy (by rw[t.len];exact hx) t.nd).mp (ha.trans hb.symm)
 ·have:=qUh t hx;rw[h,kJu (by rw[t.len];exact hy)] at this;omega
 ·have:=qUh t hy;rw[<-h,kJu (by rw[t.len];exact hx)] at this;omega
 ·rw[kJu (by rw[t.len];exact hx),kJu (by rw[t.len];exact hy)] at h;exact h
theorem qKx {n:Nat} {nu:List Nat} (t:Turn n nu) {y:Nat} (h:y<n):∃x,x<n/\nuF nu x=y:=by
 have hm:=kYx t.nd t.lt t.len y h
 obtain⟨x,hx⟩:=lKj hm
 exact⟨x,by have:=(lJh.mp hx).1;rw[t.len] at this;exact this,jV0 hx⟩
def tf (W:Web) (r:Nat):Web:=(bfs W r).map fun s=>(row W s).map fun e=>((bfs W r).idxOf e.1,e.2)
def inv (n:Nat) (F:List Nat):List Nat:=(List.range n).map fun x=>F.idxOf x
theorem Order.idx {W:Web} {r:Nat} {F:List Nat} (o:Order W r F) {x:Nat} (h:x<W.length):F[F.idxOf x]? =some x/\F.idxOf x<W.length:=by
 have hl:=List.idxOf_lt_length_of_mem (o.all x h)
 refine⟨?_,by rw[o.len] at hl;exact hl⟩
 rw[lJl hl,List.getElem_idxOf]
theorem kZi {n x:Nat} {F:List Nat} (h:x<n):(inv n F)[x]? =some (F.idxOf x):=by simp[inv,h]
theorem Order.turn {W:Web} {r:Nat} {F:List Nat} (o:Order W r F):Turn W.length (inv W.length F):=by
 refine⟨by simp[inv],?_,fun y hy=> ?_⟩
 ·unfold inv
  rw[lXf,lQw]
  refine List.Pairwise.imp_of_mem (fun {a b} ha hb hne e=>hne ?_) (lXf.mp List.nodup_range)
  have h1:=(o.idx (lJ2.mp ha)).1
  have h2:=(o.idx (lJ2.mp hb)).1
  rw[e,h2] at h1;cases h1;rfl
 ·obtain⟨x,hx,rfl⟩:=lJi.mp hy
  exact (o.idx (lJ2.mp hx)).2
theorem tf_is {W:Web} (f:Fine W) {r:Nat} (o:Order W r (bfs W r)):Ren W (inv W.length (bfs W r)) (tf W r):=by
 refine⟨by unfold tf;rw[lJf];exact o.len,fun x es hx=> ?_⟩
 have hxl:=(lJh.mp hx).1
 rw[jV0 (kZi hxl)]
 unfold tf
 rw[lJx,(o.idx hxl).1]
 show some _=some _
 congr 1
 show (row W x).map _=_
 rw[jQz hx,renE]
 apply lQ9
 intro e he
 obtain⟨i,hi⟩:=lKj he
 rw[jV0 (kZi (f.rng x i e.1 e.2 (jX3 hx hi)))]
theorem Ren.unique {W V V':Web} {nu:List Nat} (t:Turn W.length nu) (h:Ren W nu V) (h':Ren W nu V'):V=V':=by
 apply lQ2
 intro i
 rcases lKs i W.length with hi | hi
 ·obtain⟨x,hx,rfl⟩:=qKx t hi
  have hW:W[x]? =some W[x]:=lJl hx
  rw[h.at' x _ hW,h'.at' x _ hW]
 ·rw[lKa (by rw[h.len];exact hi),lKa (by rw[h'.len];exact hi)]
def allC (c:List Nat):List (Nat×Nat):=(List.range c.length).flatMap fun r=>(List.range (c.getD r 0)).map fun d=>(r,d)
theorem allC_mem {c:List Nat} {e:Nat×Nat}:e∈allC c↔inC c e:=by
 unfold allC inC
 rw[List.mem_flatMap]
 constructor
 ·rintro⟨r,hr,h⟩
  obtain⟨d,hd,rfl⟩:=lJi.mp h
  exact⟨lJ2.mp hr,lJ2.mp hd⟩
 ·rintro⟨h1,h2⟩
  exact⟨e.1,lJ2.mpr h1,lJi.mpr ⟨e.2,lJ2.mpr h2,rfl⟩⟩
theorem kVo {c:List Nat}:(allC c).length=c.sum:=by
 unfold allC
 rw[List.length_flatMap]
 congr 1
 apply lQ2
 intro i
 rw[lJx]
 by_cases hi:i<c.length
 ·rw[lQ0 hi,lJl hi]
  simp[hi]
 ·rw[lKa (by rw[lKr];omega),lKa (by omega)];rfl
theorem Hd.full {c:List Nat} {kvs:Kvs} (h:Hd c kvs) (hs:c.sum<=kvs.length) {a:Nat×Nat} (ha:inC c a):∃v,valT kvs (keyE a)=some (encE v)/\inC c v:=by
 cases hv:valT kvs (keyE a) with
 | some t=>
  obtain⟨v,rfl,_,h2⟩:=h.val hv
  exact⟨v,rfl,h2⟩
 | none=>
  exfalso
  have hn:keyE a∉kvs.map (·.1):=fun z=>by
   obtain⟨x,hx,e⟩:=lJi.mp z
   have:(valT kvs (keyE a)).isSome=true:=by
    unfold valT
    rw[lVw,List.find?_isSome]
    exact⟨x,hx,by simpa using e⟩
   rw[hv] at this;cases this
  have nd:(keyE a::kvs.map (·.1)).Nodup:=lKp.mpr ⟨hn,h.nd⟩
  have sb:(keyE a::kvs.map (·.1)) ⊆ (allC c).map keyE:=fun k hk=>by
   rcases (lJj.mp hk) with rfl | hk
   ·exact lV5 (allC_mem.mpr ha)
   ·obtain⟨x,hx,rfl⟩:=lJi.mp hk
    obtain⟨e,v,rfl,h1,_⟩:=h.ks x hx
    exact lV5 (allC_mem.mpr h1)
  have:=nd.length_le_of_subset sb
  rw[lJf,kVo,lKe,lJf] at this
  omega
def decE:Option T->Nat×Nat
 | some (.tup [.int a,.int b])=>(a.toNat,b.toNat)
 | _=>(0,0)
theorem jYc {e:Nat×Nat}:decE (some (encE e))=e:=by
 show (((e.1:Nat):Int).toNat,((e.2:Nat):Int).toNat)=e
 simp
def webC (c:List Nat) (k:Kvs):Web:=(List.range c.length).map fun i=>(List.range (c.getD i 0)).map fun j=>decE (valT k (keyE (i,j)))
theorem jKo {c:List Nat} {k:Kvs}:(webC c k).length=c.length:=by simp[webC]
theorem jVo {c:List Nat} {k:Kvs} {i:Nat} (hi:i<c.length):(webC c k)[i]? =some ((List.range (c.getD i 0)).map fun j=>decE (valT k (keyE (i,j)))):=by
 unfold webC
 rw[lJx,lQ0 hi];rfl
structure Fu (c:List Nat) (k:Kvs):Prop where
 hd:Hd c k
 fu:c.sum<=k.length
 c1:1<=c.length
 c5:c.length<=5
 cs:∀x,x∈c->x<=11
 cn:∀S:Nat->Prop,S 0->(∀r i s j,inC c (r,i)->valT k (keyE (r,i))=some (encE (s,j))->S r->S s)->∀x,x<c.length->S x
theorem Fu.cx {c:List Nat} {k:Kvs} (h:Fu c k) {x:Nat} (hx:x<c.length):c.getD x 0<=11:=by
 rw[lQ7,lJl hx];exact h.cs _ (lQx hx)
theorem Fu.en {c:List Nat} {k:Kvs} (h:Fu c k) {i j:Nat} {v:Nat×Nat}:en (webC c k) i j=some v↔inC c (i,j)/\valT k (keyE (i,j))=some (encE v):=by
 constructor
 ·intro e
  unfold W.en at e
  by_cases hi:i<c.length
  ·rw[jVo hi] at e
   rw[show ((some ((List.range (c.getD i 0)).map fun j=>decE (valT k (keyE (i,j))))).bind fun es=>es[j]?)=((List.range (c.getD i 0)).map fun j=>decE (valT k (keyE (i,j))))[j]? from rfl,lJx] at e
   by_cases hj:j<c.getD i 0
   ·rw[lQ0 hj] at e
    obtain⟨w,hw,_⟩:=h.hd.full h.fu (show inC c (i,j) from⟨hi,hj⟩)
    rw[Option.map_some,hw,jYc] at e
    cases e
    exact⟨⟨hi,hj⟩,hw⟩
   ·rw[lKa (by rw[lKr];omega)] at e;cases e
  ·rw[lKa (by rw[jKo];omega)] at e;cases e
 ·rintro⟨⟨hi,hj⟩,hv⟩
  unfold W.en
  rw[jVo hi]
  rw[show ((some ((List.range (c.getD i 0)).map fun j=>decE (valT k (keyE (i,j))))).bind fun es=>es[j]?)=((List.range (c.getD i 0)).map fun j=>decE (valT k (keyE (i,j))))[j]? from rfl,lJx,lQ0 hj,Option.map_some,hv,jYc]
theorem Fu.sk {c:List Nat} {k:Kvs} (h:Fu c k):T.tup ((List.range c.length).map (skR c k))=encW (webC c k):=by
 unfold encW webC
 rw[lJ0]
 congr 1
 apply lQ9
 intro i hi
 have hi:=lJ2.mp hi
 show skR c k i=encR ((List.range (c.getD i 0)).map fun j=>decE (valT k (keyE (i,j))))
 unfold skR encR
 rw[lJ0]
 congr 1
 apply lQ9
 intro j hj
 obtain⟨w,hw,_⟩:=h.hd.full h.fu (show inC c (i,j) from⟨hi,lJ2.mp hj⟩)
 show (valT k (keyE (i,j))).getD .non=encE (decE (valT k (keyE (i,j))))
 rw[hw,jYc];rfl
theorem Fu.rng {c:List Nat} {k:Kvs} (h:Fu c k) {i j:Nat} {v:Nat×Nat} (hv:inC c (i,j)) (he:valT k (keyE (i,j))=some (encE v)):inC c v:=by
 obtain⟨w,hw,q⟩:=h.hd.full h.fu hv
 rw[he] at hw
 cases jY6 (lKb hw)
 exact q
theorem Fu.fine {c:List Nat} {k:Kvs} (h:Fu c k):Fine (webC c k):=by
 have:=h.c5
 refine⟨by rw[jKo];omega,fun r es hr=> ?_,fun r i s j e=> ?_⟩
 ·have hl:r<c.length:=by have:=(lJh.mp hr).1;rwa [jKo] at this
  rw[jVo hl] at hr;cases hr
  have:=h.cx hl
  rw[lJf,lKr];omega
 ·obtain⟨h1,h2⟩:=h.en.mp e
  rw[jKo];exact (h.rng h1 h2).1
theorem Fu.sym {c:List Nat} {k:Kvs} (h:Fu c k):Sym (webC c k):=fun r i s j e=>by
 obtain⟨h1,h2⟩:=h.en.mp e
 exact h.en.mpr ⟨h.rng h1 h2,h.hd.sy _ _ h2⟩
theorem Fu.conn {c:List Nat} {k:Kvs} (h:Fu c k):Conn (webC c k):=fun S h0 cl r hr=>by
 rw[jKo] at hr
 exact h.cn S h0 (fun r i s j h1 h2 hs=>cl r i s j hs (h.en.mpr ⟨h1,h2⟩)) r hr
def tw (p:List Nat×Kvs):Web:=tf (webC p.1 p.2) 0
def skW (p:List Nat×Kvs):T:=encW (webC p.1 p.2)
theorem Fu.order {c:List Nat} {k:Kvs} (h:Fu c k):Order (webC c k) 0 (bfs (webC c k) 0):=qJj h.fine h.sym h.conn (by rw[jKo];exact h.c1)
theorem Fu.twl {c:List Nat} {k:Kvs} (h:Fu c k):(tw (c,k)).length=c.length:=by
 unfold tw tf
 rw[lJf,h.order.len,jKo]
theorem kZk (c:List Nat):jJj c=(c.map fun n:Nat=>(n:Int)).map T.int:=by unfold jJj;rw[lJ0];rfl
theorem qJ6:∀c:List Nat,(c.map fun n:Nat=>(n:Int)).sum=(c.sum:Nat)
 | []=>rfl
 | a::c=>by rw[lJn,List.sum_cons,List.sum_cons,qJ6 c];omega
theorem Hd.small {c:List Nat} {kvs:Kvs} (h:Hd c kvs) (hl:c.length<=5) (hc:∀x,x∈c->x<=11):∀x,x∈kvs->jZ2 x.1:=fun x hx=>by
 obtain⟨e,v,rfl,h1,_⟩:=h.ks x hx
 refine⟨e.1,e.2,by have:=h1.1;omega,?_,rfl⟩
 have h2:=h1.2
 rw[lQ7,lJl h1.1] at h2
 have:=hc _ (lQx h1.1)
 have h3:e.2<c[e.1]'h1.1:=h2
 omega
structure Pl (most:Nat) (c:List Nat) (kvs:Kvs) (r:Nat) (ss:List Stp):Prop where
 hd:Hd c kvs
 rm:r<c.length
 lc:c.length<=most
 m4:most<=4
 cs:∀x,x∈c->x<=11
 st:∀s,s∈ss->s.2.2<=11
 kl:kvs.length+2*ss.length<=100
 cn:∀S:Nat->Prop,S 0->(∀r i s j,inC c (r,i)->valT kvs (keyE (r,i))=some (encE (s,j))->S r->S s)->∀x,x<c.length->S x
theorem qJy {c:List Nat} {kvs:Kvs} {r most:Nat} {s:Stp} {e a:Nat×Nat} {t:T} (h:Hd c kvs) (hr:r<c.length) (he:e∈nxtE c kvs r s most) (hv:valT kvs (keyE a)=some t):valT (kv1 kvs (r,s.1) e) (keyE a)=some t:=by
 obtain⟨h1,h2,h3,h4,h5⟩:=kQ5 h hr he
 rcases h5 with h5 | ⟨h5,h6⟩
 ·rw[h.old h5];exact hv
 ·rw[kUb]
  by_cases q1:e=a
  ·rw[<-q1,h6] at hv;cases hv
  ·rw[lJb q1]
   by_cases q2:(r,s.1)=a
   ·rw[<-q2,h5] at hv;cases hv
   ·rw[lJb q2];exact hv
theorem qJz {kvs:Kvs} {a e:Nat×Nat}:∃v:Nat×Nat,valT (kv1 kvs a e) (keyE a)=some (encE v)/\(v=e\/(e=a/\v=a)):=by
 rw[kUb]
 by_cases q:e=a
 ·rw[lJa q];exact⟨a,rfl,.inr ⟨q,rfl⟩⟩
 ·rw[lJb q,lJa rfl];exact⟨e,rfl,.inl rfl⟩
theorem Pl.next {most r:Nat} {c:List Nat} {kvs:Kvs} {s:Stp} {ss:List Stp} {e:Nat×Nat} (h:Pl most c kvs r (s::ss)) (he:e∈nxtE c kvs r s most):Pl most (cn1 c s e) (kv1 kvs (r,s.1) e) e.1 ss:=by
 obtain⟨h1,h2,h3,h4,h5⟩:=kQ5 h.hd h.rm he
 have hl:=h.lc
 refine⟨h.hd.next h.rm he,h3.1,?_,h.m4,fun x hx=> ?_,fun x hx=>h.st x (lJ3 _ hx),?_,fun S h0 cl x hx=> ?_⟩
 ·unfold cn1
  split
  ·exact hl
  ·rw[lKd,lQt];omega
 ·unfold cn1 at hx
  split at hx
  ·exact h.cs x hx
  ·rcases (lJ1.mp hx) with hx | hx
   ·exact h.cs x hx
   ·rw[lJr.mp hx];exact h.st s (lJ7 ..)
 ·have:=qVv (kvs:=kvs) (a:=(r,s.1)) (b:=e)
  have:=h.kl
  rw[lKe] at this
  omega
 ·have old:∀y,y<c.length->S y:=h.cn S h0 fun r' i s' j q1 q2 q3=>cl r' i s' j (jU9 q1) (qJy h.hd h.rm he q2) q3
  by_cases hxc:x<c.length
  ·exact old x hxc
  ·have hx2:x=c.length/\e.1=c.length:=by
    unfold cn1 at hx
    split at hx
    ·exact absurd hx hxc
    ·rw[lKd,lQt] at hx
     rcases h4 with q | ⟨q,_⟩
     ·rename_i z;exact absurd q z
     ·exact⟨by omega,q⟩
   obtain⟨v,hv,hve⟩:=qJz (kvs:=kvs) (a:=(r,s.1)) (e:=e)
   rcases hve with rfl | ⟨q,_⟩
   ·rw[hx2.1,<-hx2.2]
    exact cl r s.1 v.1 v.2 (jU9 ⟨h.rm,h1⟩) hv (old r h.rm)
   ·have:=h.rm
    rw[q] at hx2
    exact absurd hx2.2 (lJw this)
noncomputable def sols (most:Nat):List Stp->List Nat->Kvs->Nat->List (List Nat×Kvs)
 | [],c,k,_=>if c.sum=k.length then [(c,k)] else []
 | s::ss,c,k,r=>if c.sum<=k.length+2*(ss.length+1) then (nxtE c k r s most).flatMap fun e=>sols most ss (cn1 c s e) (kv1 k (r,s.1) e) e.1 else []
theorem kJe {most:Nat} {p:List Nat×Kvs}:∀ {ss:List Stp} {c:List Nat} {k:Kvs} {r:Nat},Pl most c k r ss->p∈sols most ss c k r->Fu p.1 p.2
 | [],c,k,r,pl,hp=>by
  unfold sols at hp
  split at hp
  ·rename_i h
   cases lJr.mp hp
   have:=pl.rm;have:=pl.lc;have:=pl.m4
   exact⟨pl.hd,Nat.le_of_eq h,by omega,by omega,pl.cs,pl.cn⟩
  ·cases hp
 | s::ss,c,k,r,pl,hp=>by
  unfold sols at hp
  split at hp
  ·obtain⟨e,he,h⟩:=List.mem_flatMap.mp hp
   exact kJe (pl.next he) h
  ·cases hp
noncomputable def jVc (n:Nat):Sp3:=fun xs G Q=>∃(c:List Nat) (p:Addr) (kvs:Kvs) (r most en:Nat) (ss:List Stp),xs=[.tup (jJj c),.ref p,.int r,.tup (ss.map jJ0),.int most,.int en]/\G p=some (.dct kvs)/\Pl most c kvs r ss/\ss.length<=n/\1<=en/\en<=21/\∀q G',G q=none->G' q=some (.lst (((sols most ss c kvs r).take en).map skW))->Sub G G'->Q (.ref q) G'
section
variable (jXa:Sp3)
def jZg:List Str:=["counts","leads","room","steps","most","enough","untied","step","start","webs","end","further"]
noncomputable def jK0:TS3:=
 (tSeq (tAsg (tOp rSub (tCB qKk (jJc (tVar 0) tNil)) (tCB jQx (jJc (tVar 1) tNil))) (jJh 6))
 (tSeq (tIfS (jJt (tOp rEqA (tCB jQx (jJc (tVar 3) tNil)) (tC (.int 0)))) (tRet (tIf (jJt (tOp rEqA (tVar 6) (tC (.int 0)))) (tLst (jJc (jJx jVf (jJc (tVar 0) (jJc (tVar 1) tNil))) tNil)) (tLst tNil))) jKa)
 (tSeq (tIfS (jJt (tOp rGt (tVar 6) (tOp jUn (tC (.int 2)) (tCB jQx (jJc (tVar 3) tNil))))) (tRet (tLst tNil)) jKa)
 (tSeq (tAsg (tOp rIxF (tVar 3) (tC (.int 0))) (jJh 7))
 (tSeq (tAsg (tTup (jJc (tVar 2) (jJc (tOp rIxF (tVar 7) (tC (.int 0))) tNil))) (jJh 8))
 (tSeq (tAsg (tLst tNil) (jJh 9))
 (tSeq (tFor (iSeq (jJx jVg (jJc (tVar 0) (jJc (tVar 1) (jJc (tVar 8) (jJc (tVar 7) (jJc (tVar 4) tNil))))))) (jJh 10) (tIfS (jJt (tOp rLt (tCB jQx (jJc (tVar 9) tNil)) (tVar 5))) (tSeq (tAsg (tIf (jJt (tOp rLt (tOp rIxF (tVar 10) (tC (.int 0))) (tCB jQx (jJc (tVar 0) tNil)))) (tVar 0) (tOp jQp (tVar 0) (tTup (jJc (tOp rIxF (tVar 7) (tC (.int 2))) tNil)))) (jJh 11))
 (jQc (tBM "list" kQ0 (tVar 9) (jJc (jJx jXa (jJc (tVar 11) (jJc (jJx kJa (jJc (tVar 1) (jJc (tVar 8) (jJc (tVar 10) tNil)))) (jJc (tOp rIxF (tVar 10) (tC (.int 0))) (jJc (tSl rSlF (tVar 3) (jVq (tC (.int 1))) jQ9) (jJc (tVar 4) (jJc (tOp rSub (tVar 5) (tCB jQx (jJc (tVar 9) tNil))) tNil))))))) tNil)))) jKa))
 (tRet (tVar 9)))))))))
end
theorem kY5 {G:Gp} {p:Addr} {kvs:Kvs} (h:G p=some (.dct kvs)):lenG G (.ref p)=some kvs.length:=by simp only[lenG,h]
theorem jVv (sp:Sp3):∀xs G Q,jVc 0 xs G Q->jK0 sp {nx:=fun _ G'=>Q .non G',rt:=Q} (jKl jZg xs) G:=by
 intro xs G Q h_;apply xe7 h_;clear h_;intro c p kvs r most en ss h_;apply ae6 h_;clear h_;intro hp pl hss en1 en2 kk
 have:ss=[]:=lQm.mp (by omega)
 subst this
 show jK0 _ _ [some (.tup (jJj c)),some (.ref p),some (.int r),some (.tup []),some (.int most),some (.int en),none,none,none,none,none,none] G
 have hs:=sz
 wp_walk using 1,jK0,qKk,jQx,rEqA,kY5 hp
 refine⟨_,kZk c,_,rfl,_,jY5,?_⟩
 rw[lJa (by simp),qJ6]
 refine⟨_,jY5,?_⟩
 have hsv:sols most [] c kvs r=if c.sum=kvs.length then [(c,kvs)] else []:=rfl
 by_cases h:c.sum=kvs.length
 ·rw[lJa (by simp only[lQh];omega)]
  have hm:(c,kvs)∈sols most [] c kvs r:=by rw[hsv,lJa h];exact lJr.mpr rfl
  have fu:=kJe pl hm
  refine⟨c,p,kvs,rfl,hp,by have:=pl.lc;have:=pl.m4;omega,fun x hx=>by have:=pl.cs x hx;omega,fun G' s'=>⟨by omega,fun q hq=> ?_⟩⟩
  refine kk q _ (s'.none hq) ?_ (s'.trans (.new hq))
  rw[jJf,hsv,lJa h,lK3 (by rw[lQt];exact en1),List.map_singleton,skW,fu.sk]
 ·rw[lJb (by simp only[lQh];omega)]
  exact⟨by omega,fun q hq=>kk q _ hq (by rw[jJf,hsv,lJb h,List.take_nil];rfl) (.new hq)⟩
theorem jKe (n:Nat):∀xs G Q,jVc (n+1) xs G Q->jK0 (jVc n) {nx:=fun _ G'=>Q .non G',rt:=Q} (jKl jZg xs) G:=by
 intro xs G Q h_;apply xe7 h_;clear h_;intro c p kvs r most en ss h_;apply ae6 h_;clear h_;intro hp pl hss en1 en2 kk
 cases ss with
 | nil=>exact jVv _ _ _ _ ⟨c,p,kvs,r,most,en,[],rfl,hp,pl,lJq _,en1,en2,kk⟩
 | cons s ss=>
  show jK0 _ _ [some (.tup (jJj c)),some (.ref p),some (.int r),some (.tup ((s::ss).map jJ0)),some (.int most),some (.int en),none,none,none,none,none,none] G
  have hs:=sz
  have hlc:=pl.lc
  have hm4:=pl.m4
  have hsl:(((s::ss).map jJ0).length:Nat)=ss.length+1:=by simp
  have hil:(jJj c).length=c.length:=by simp[jJj]
  wp_walk using 1,jK0,qKk,jQx,rEqA,kY5 hp,jKq,iSeq
  refine⟨_,kZk c,_,rfl,_,jY5,?_⟩
  rw[qJ6,lJb (by simp only[lJf,lKe,lQh];omega)]
  refine⟨_,rfl,.inl ⟨by decide,by decide⟩,?_⟩
  rw[lJf,lKe]
  have hsv:sols most (s::ss) c kvs r=if c.sum<=kvs.length+2*(ss.length+1) then (nxtE c kvs r s most).flatMap fun e=>sols most ss (cn1 c s e) (kv1 kvs (r,s.1) e) e.1 else []:=rfl
  by_cases hpr:c.sum<=kvs.length+2*(ss.length+1)
  rotate_left
  ·rw[lJa (by omega)]
   exact⟨by omega,fun q hq=>kk q _ hq (by rw[jJf,hsv,lJb hpr,List.take_nil];rfl) (.new hq)⟩
  rw[lJb (by omega)]
  rw[lJa hpr] at hsv
  rw[hsv] at kk
  refine⟨jJ0 s,by rw[show (0:Int)=((0:Nat):Int) from rfl,atN];rfl,.int s.1,rfl,by omega,by omega,fun w hw=> ?_⟩
  have hpw:=jJg hp hw
  have hen:(nxtE c kvs r s most).length<=200:=by
   have h1:=kK9 (c:=c) (s:=s) (most:=most)
   unfold nxtE
   split
   ·split
    ·exact lKi (lQo _ _) (by omega)
    ·exact lKi (lQo _ _) (by omega)
   ·exact lJq _
  refine⟨c,p,kvs,r,most,s,rfl,by rw[jJk hpw];exact hp,pl.rm,by omega,fun e t h=>(pl.hd.val h).imp fun v z=>z.1,fun q G1 hq hq1 s1=>⟨_,jJl hq1,?_⟩⟩
  have hp1:=s1 _ _ (show gup G w (.lst []) p=_ by rw[jJk hpw];exact hp)
  have hw1:=s1 _ _ (jJf (G:=G) (a:=w) (o:= .lst []))
  have sG:Sub G G1:=(Sub.new hw).trans s1
  generalize hf:(fun e=>sols most ss (cn1 c s e) (kv1 kvs (r,s.1) e) e.1)=f at kk
  let J1:Nat->St3->Gp->Prop:=fun i τ G'=>∃(v10 v11:Option T) (ts:List (List Nat×Kvs)),τ=[some (.tup (jJj c)),some (.ref p),some (.int r),some (.tup ((s::ss).map jJ0)),some (.int most),some (.int en),some (.int ((c.sum:Nat)-(kvs.length:Nat))),some (jJ0 s),some (.tup [.int r,.int s.1]),some (.ref w),v10,v11]/\G' w=some (.lst (ts.map skW))/\ts=(((nxtE c kvs r s most).take i).flatMap f).take en/\G' p=some (.dct kvs)/\G' q=some (.lst ((nxtE c kvs r s most).map encE))/\Sub G G'
  refine⟨J1,?_,?_,?_,?_⟩
  ·exact xi3 _ _ [] rfl ⟨hw1,by simp,hp1,hq1,sG⟩
  ·intro i τ G' hi h_;apply xe3 h_;clear h_;intro v10 v11 ts h_;apply ae5 h_;clear h_;intro j1 j2 j3 j4 j5
   exact jJl j4
  ·intro i y τ G2 hy h_;apply xe3 h_;clear h_;intro v10 v11 ts h_;apply ae5 h_;clear h_;intro j1 j2 j3 j4 j5
   obtain⟨e,he,rfl⟩:=jKt hy
   have hem:=lJz he
   have hp':=pl.next hem
   have htl:ts.length<=en:=by rw[j2];exact List.length_take_le _ _
   have hml:(ts.map skW).length=ts.length:=lJf ..
   have tk:((nxtE c kvs r s most).take (i+1)).flatMap f=((nxtE c kvs r s most).take i).flatMap f++f e:=by
    rw[lQv,he,lVn];simp
   have cut1:cutT ((s::ss).map jJ0) (some 1) none=ss.map jJ0:=by
    rw[show (1:Int)=((1:Nat):Int) from rfl]
    unfold cutT
    rw[HT.sIx_none,HT.sIx_nat,lK3 (by simp),lJf,lKe,Nat.min_eq_left (by omega)];rfl
   wp_walk using 1,jQx,kQ0,tSl,rSlF,slR,jQ9,jVq,show lenG G2 (.ref w)=some ts.length by simp only[lenG,j1,hml],jKi j1
   by_cases h0:ts.length<en
   rotate_left
   ·rw[lJb (by omega)]
    refine xi3 _ _ ts rfl ⟨j1,?_,j3,j4,j5⟩
    have hge:en<=(((nxtE c kvs r s most).take i).flatMap f).length:=by
     rw[j2,lKw] at h0;omega
    rw[tk,List.take_append_of_le_length hge];exact j2
   have hts:ts=((nxtE c kvs r s most).take i).flatMap f:=by
    rw[j2]
    refine lK3 ?_
    rw[j2,lKw] at h0;omega
   rw[lJa (by omega)]
   refine⟨.int e.1,rfl,_,rfl,_,rfl,?_⟩
   rw[show (jJj c).length=c.length from hil]
   have go:∀u:T,u= .tup (jJj (cn1 c s e))->kJa [.ref p,.tup [.int r,.int s.1],encE e] G2 fun x G1=>∃t,ixR G1 (encE e) (.int 0)=some t/\∃x_1,lenG G1 (.ref w)=some x_1/\jVc n [u,x,t,.tup (cutT ((s::ss).map jJ0) (some 1) none),.int most,.int (en-(x_1:Nat))] G1 fun x G1=>∃x_2,x= .ref x_2/\∃x,G1 w=some (.lst x)/\∃x_3,G1 x_2=some (.lst x_3)/\x.length+x_3.length<=sizeLine/\J1 (i+1) [some (.tup (jJj c)),some (.ref p),some (.int r),some (.tup ((s::ss).map jJ0)),some (.int most),some (.int en),some (.int ((c.sum:Nat)-(kvs.length:Nat))),some (jJ0 s),some (.tup [.int r,.int s.1]),some (.ref w),some (encE e),some u] (gup G1 w (.lst (x++x_3))):=by
    rintro u rfl
    refine⟨p,kvs,(r,s.1),e,rfl,j3,pl.hd.small (by omega) pl.cs,by have:=pl.kl;omega,fun a G3 ha ha3 s3=> ?_⟩
    have hw3:=s3 _ _ j1
    refine⟨.int e.1,rfl,ts.length,by simp only[lenG,hw3,hml],?_⟩
    rw[cut1,show ((en:Nat):Int)-((ts.length:Nat):Int)=((en-ts.length:Nat):Int) by omega]
    refine⟨_,a,_,e.1,most,en-ts.length,ss,rfl,ha3,hp',by have:=hss;rw[lKe] at this;omega,by omega,by omega,fun b G4 hb hb4 s4=> ?_⟩
    have hw4:=s4 _ _ hw3
    have hbw:w≠b:=jJg hw3 hb
    have hsz:(((sols most ss (cn1 c s e) (kv1 kvs (r,s.1) e) e.1).take (en-ts.length)).map skW).length<=21:=by
     rw[lJf]
     exact lKi (List.length_take_le _ _) (by omega)
    refine⟨b,rfl,_,hw4,_,hb4,by rw[hml];omega,?_⟩
    have hpw2:p≠w:=hpw
    have hqw:q≠w:=fun z=>by rw[z,jJf] at hq;cases hq
    refine xi3 _ _ (ts++(sols most ss (cn1 c s e) (kv1 kvs (r,s.1) e) e.1).take (en-ts.length)) rfl ⟨by rw[jJf,lJ4],?_,by rw[jJk hpw2];exact s4 _ _ (s3 _ _ j3),by rw[jJk hqw];exact s4 _ _ (s3 _ _ j4),fun z o hz=> ?_⟩
    ·rw[tk,List.take_append,<-hts,lK3 htl,<-hf]
    ·rw[jJk (fun z'=>by rw[z',hw] at hz;cases hz)]
     exact s4 _ _ (s3 _ _ (j5 _ _ hz))
   split
   ·rename_i hlt
    exact go _ (by unfold cn1;rw[lJa (by omega)])
   ·rename_i hlt
    refine⟨.int s.2.2,rfl,by omega,jV7 (by rw[hil];simp;omega) ⟨by rw[jKi j1];trivial,?_⟩⟩
    exact go _ (by unfold cn1;rw[lJb (by omega)];simp[jJj])
  ·intro τ G2 h_;apply xe3 h_;clear h_;intro v10 v11 ts h_;apply ae5 h_;clear h_;intro j1 j2 j3 j4 j5
   rw[lJf,lQ6] at j2
   wp_walk using 1,tSeq
   refine kk w G2 hw ?_ j5
   rw[j1,j2]
abbrev jXa:Sp3:=jVc 8
def sol (S:jUi) (most:Nat):List (List Nat×Kvs):=sols most S.2 [S.1] [] 0
theorem kJr {S:jUi} {most:Nat} (h:SB S) (h1:1<=most) (h4:most<=4):Pl most [S.1] [] 0 S.2:=
 ⟨⟨fun x hx=>(by cases hx),List.nodup_nil,fun e v h=>(by cases h)⟩,lV4 0,h1,h4,fun x hx=>by rw[lJr.mp hx];exact h.c,h.s,by have:=h.n;rw[lQk];omega,fun S h0 _ x hx=>by
  rw[lQt] at hx
  rw[show x=0 by omega];exact h0⟩
theorem qUb {S:jUi} {most:Nat} (h:SB S) (h1:1<=most) (h4:most<=4) {p:List Nat×Kvs} (hp:p∈sol S most):Fu p.1 p.2:=kJe (kJr h h1 h4) hp
noncomputable def jK6:Sp3:=fun xs G Q=>∃(S:jUi) (most en:Nat),xs=[jUq S,.int most,.int en]/\SB S/\1<=most/\most<=4/\1<=en/\en<=21/\∀q G',G q=none->G' q=some (.lst (((sol S most).take en).map skW))->Sub G G'->Q (.ref q) G'
def jZf:List Str:=["story","most","enough"]
noncomputable def jK8:TS3:=
 (tRet (jJx jXa (jJc (tTup (jJc (tOp rIxF (tVar 0) (tC (.int 0))) tNil)) (jJc jQk (jJc (tC (.int 0)) (jJc (tOp rIxF (tVar 0) (tC (.int 1))) (jJc (tVar 1) (jJc (tVar 2) tNil))))))))
theorem jVu:RdOk jK6 jK8 jZf:=by
 intro xs G Q h_;apply xe3 h_;clear h_;intro S most en h_;apply ae6 h_;clear h_;intro sb h1 h4 h5 h6 kk
 show jK8 _ [some (.tup [.int S.1,.tup (S.2.map jJ0)]),some (.int most),some (.int en)] G
 have hs:=sz
 wp_walk using 1,jK8,jQk
 refine⟨by omega,.inl fun p hp=> ?_⟩
 exact⟨[S.1],p,[],0,most,en,S.2,rfl,jJf,kJr sb h1 h4,sb.n,h5,h6,fun q G' hq hq' s=>kk q G' (jQt hq).2 hq' ((Sub.new hp).trans s)⟩
theorem qQ8 {W:Web} (f:Fine W) {F:List Nat} {x:Nat} {es:List (Nat×Nat)} (hx:W[x]? =some es) (hF:∀y,y∈F->y<W.length) (j:Nat):∀y,y∈vis F (es.take j)->y<W.length:=by
 intro y hy
 rcases (vis_sub (F:=F) (es:=es.take j)).2.2.1 y hy with h | ⟨e,he,rfl⟩
 ·exact hF y h
 ·obtain⟨i,hi⟩:=lKj (lV6 he)
  exact f.rng x i e.1 e.2 (jX3 hx hi)
noncomputable def jK7:Sp3:=fun xs G Q=>∃(W:Web) (r0:Nat),xs=[encW W,.int r0]/\Fine W/\r0<W.length/\∀d G' kvs,G d=none->G' d=some (.dck kvs)->kvs.map Prod.fst=(bfs W r0).map keyN->Sub G G'->Q (.ref d) G'
def jZh:List Str:=["web","room","comings","level","further","here","door","end"]
noncomputable def jK9:TS3:=
 (tSeq (tAsg (kX1 (tVar 1) (tC .non)) (jJh 2))
 (tSeq (tAsg (tLst (jJc (tVar 1) tNil)) (jJh 3))
 (tSeq (jYi (tTru rTru (tVar 3)) (tSeq (tAsg (tLst tNil) (jJh 4))
 (tSeq (tFor (iSeq (tVar 3)) (jJh 5) (tFor (iEnT (jJc (tOp rIxF (tVar 0) (tVar 5)) tNil)) (gTup 2 (jKd (jJh 6) (jKd (jJh 7) gNil))) (tIfS (jJt (tOp jKx (tOp rIxF (tVar 7) (tC (.int 0))) (tVar 2))) (tSeq (tAsg (tTup (jJc (tVar 5) (jJc (tVar 6) tNil))) (gSub (tVar 2) (tOp rIxF (tVar 7) (tC (.int 0))) jQ1))
 (jQc (tBM "list" jJ8 (tVar 4) (jJc (tOp rIxF (tVar 7) (tC (.int 0))) tNil)))) jKa)))
 (tAsg (tVar 4) (jJh 3)))))
 (tRet (tVar 2)))))
theorem jVw:RdOk jK7 jK9 jZh:=by
 intro xs G Q h_;apply xe2 h_;clear h_;intro W r0 h_;apply ae3 h_;clear h_;intro fine hr0 kk
 show jK9 _ [some (.tup (W.map encR)),some (.int r0),none,none,none,none,none,none] G
 have hs:=sz
 have hl:=fine.len
 wp_walk using 1,jK9,jYi,jKq,kX1,iSeq,iEnT
 intro d hd
 refine⟨keyN r0,rfl,by omega,fun l hl0=> ?_⟩
 have hdl:d≠l:=jJg (jJf (G:=G) (a:=d) (o:= .dck [(keyN r0,T.non)])) hl0
 refine⟨fun m τ G'=>∃(a:Nat) (l:Addr) (v4 v5 v6 v7:Option T) (F:List Nat) (kvs:List (L2.Key×T)),τ=[some (.tup (W.map encR)),some (.int r0),some (.ref d),some (.ref l),v4,v5,v6,v7]/\d≠l/\G l=none/\G' d=some (.dck kvs)/\kvs.map Prod.fst=F.map keyN/\G' l=some (.lst (jJj (F.drop a)))/\a<=F.length/\Bfs W a F/\bfs W r0=bfsN W (W.length-a) a F/\Sub G G'/\m=W.length-a,?_,?_⟩
 ·refine⟨_,0,l,none,none,none,none,[r0],[(keyN r0,T.non)],rfl,hdl,?_,?_,rfl,jJf,lJq _,⟨by simp,by simpa using hr0,fun i x e hi=>absurd hi (lQd _)⟩,rfl,(Sub.new hd).trans (.new hl0),rfl⟩
  ·rw[jJk hdl.symm] at hl0;exact hl0
  ·rw[jJk hdl];exact jJf
 intro m τ G1 h_;apply xe8 h_;clear h_;intro a l v4 v5 v6 v7 F kvs h_;apply ae10 h_;clear h_;intro hdl hl0 h1 hk h2 haF hB hb hs1 e9_
 subst e9_
 have hFl:=jQs hB.nd hB.lt
 wp_walk using 1,h2
 split
 ·rename_i hne
  have haF':a<F.length:=by
   rcases lKs a F.length with z | z
   ·exact z
   ·rw[List.drop_of_length_le z] at hne;simp[jJj] at hne
  refine⟨fun τ' G'=>∃(l':Addr) (v4 v5 v6 v7:Option T) (F':List Nat) (kvs':List (L2.Key×T)),τ'=[some (.tup (W.map encR)),some (.int r0),some (.ref d),some (.ref l'),v4,v5,v6,v7]/\d≠l'/\G l'=none/\G' d=some (.dck kvs')/\kvs'.map Prod.fst=F'.map keyN/\G' l'=some (.lst (jJj (F'.drop F.length)))/\F.length<=F'.length/\Bfs W F.length F'/\bfs W r0=bfsN W (W.length-F.length) F.length F'/\Sub G G',?_,by omega,fun p hp=> ?_⟩
  ·intro τ' G' h_;apply xe7 h_;clear h_;intro l' v4 v5 v6 v7 F' kvs' h_;apply ae9 h_;clear h_;intro i1 i2 i3 i4 i5 i6 i7 i8 i9
   exact⟨W.length-F.length,by omega,F.length,l',v4,v5,v6,v7,rfl,i1,i2,F',kvs',i3,i4,i5,i6,i7,i8,i9,rfl⟩
  ·have hpd:d≠p:=jJg h1 hp
   have hpl:l≠p:=jJg h2 hp
   have hp0:=qJ8 hs1 hp
   refine⟨jJj (F.drop a),jJl (by rw[jJk hpl];exact h2),?_⟩
   refine⟨fun i τ G'=>∃(v5 v6 v7:Option T) (F':List Nat) (kvs':List (L2.Key×T)),τ=[some (.tup (W.map encR)),some (.int r0),some (.ref d),some (.ref l),some (.ref p),v5,v6,v7]/\G' d=some (.dck kvs')/\kvs'.map Prod.fst=F'.map keyN/\G' l=some (.lst (jJj (F.drop a)))/\G' p=some (.lst (jJj (F'.drop F.length)))/\(∃E,F'=F++E)/\Bfs W (a+i) F'/\bfs W r0=bfsN W (W.length-(a+i)) (a+i) F'/\Sub G G',?_,?_,?_,?_⟩
   ·exact⟨v5,v6,v7,F,kvs,rfl,by rw[jJk hpd];exact h1,hk,by rw[jJk hpl];exact h2,by rw[List.drop_length];exact jJf,⟨[],by simp⟩,hB,hb,hs1.trans (.new hp)⟩
   ·intro i τ G' hi h_;apply xe5 h_;clear h_;intro v5 v6 v7 F' kvs' h_;apply ae8 h_;clear h_;intro j1 jk j2 j3 jE jB jb js
    exact jJl j2
   ·intro i y τ G2 hy h_;apply xe5 h_;clear h_;intro v5 v6 v7 F' kvs' h_;apply ae8 h_;clear h_;intro j1 jk j2 j3 q4_ jB jb js
    obtain⟨E,jE⟩:=q4_
    obtain⟨x,hx,rfl⟩:=jKt hy
    rw[List.getElem?_drop] at hx
    have hai:a+i<F.length:=(lJh.mp hx).1
    have hx':F'[a+i]? =some x:=by rw[jE,lQi hai];exact hx
    have hxW:=jB.lt x (lJz hx')
    have hW:W[x]? =some W[x]:=lJl hxW
    generalize W[x]=es at hW
    wp_walk using 1,iEnT,jXt hW,encR,jKq
    refine⟨fun j τ G'=>∃(v6 v7:Option T) (F2:List Nat) (kvs2:List (L2.Key×T)),τ=[some (.tup (W.map encR)),some (.int r0),some (.ref d),some (.ref l),some (.ref p),some (.int x),v6,v7]/\G' d=some (.dck kvs2)/\kvs2.map Prod.fst=F2.map keyN/\G' l=some (.lst (jJj (F.drop a)))/\G' p=some (.lst (jJj (F2.drop F.length)))/\F2=vis F' (es.take j)/\Sub G G',?_,?_,?_,?_⟩
    ·exact⟨v6,v7,F',kvs',rfl,j1,jk,j2,j3,rfl,js⟩
    ·intros;trivial
    ·intro j y τ G3 hy h_;apply xe4 h_;clear h_;intro v6 v7 F2 kvs2 h_;apply ae6 h_;clear h_;intro q1 qk q2 q3 q4 q5
     obtain⟨z,hz,rfl⟩:=jYy hy
     obtain⟨e,he,rfl⟩:=jKt hz
     have hF2n:F2.Nodup:=by rw[q4];exact vis_sub.2.2.2 jB.nd
     have hF2l:∀y,y∈F2->y<W.length:=by rw[q4];exact qQ8 fine hW jB.lt j
     have hF2:=jQs hF2n hF2l
     have hkl:kvs2.length=F2.length:=by have:=lKl List.length qk;simpa using this
     have hFF:F.length<=F2.length:=by
      obtain⟨⟨E',e1⟩,_⟩:=vis_sub (F:=F') (es:=es.take j)
      rw[q4,e1,jE];simp only[lKd];omega
     wp_walk using 1,encE,jKx,qV5 q1 qk
     by_cases hm:e.1∈F2
     ·rw[lJb (by simp[hm])]
      exact⟨F2,kvs2,q1,qk,q2,q3,by rw[jZ3 he,<-q4,lJa (by simpa using hm)],q5⟩
     ·rw[lJa (by simp[hm])]
      wp_walk using 1,qKc q1 (show kvs2.length<sizeLine by omega)
      have hgp:gup G3 d (.dck (putT kvs2 (keyN e.1) (.tup [.int x,.int j]))) p=some (.lst (jJj (F2.drop F.length))):=by rw[jJk hpd.symm];exact q3
      refine⟨by omega,by rw[jKi hgp];trivial,_,hgp,by simp[jJj];omega,F2++[e.1],kvs2++[(keyN e.1,.tup [.int x,.int j])],?_,?_,?_,?_,?_,?_⟩
      ·rw[jJk hpd,jJf,qKn (by rw[qk,kU9];exact hm)]
      ·rw[lJ4,lJ4,qk];rfl
      ·rw[jJk hpl,jJk hdl.symm];exact q2
      ·rw[List.drop_append_of_le_length hFF];simp[jJj]
      ·rw[jZ3 he,<-q4,lJb (by simpa using hm)]
      ·exact (q5.over hd).over hp0
    ·intro τ G3 h_;apply xe4 h_;clear h_;intro v6 v7 F2 kvs2 h_;apply ae6 h_;clear h_;intro q1 qk q2 q3 q4 q5
     rw[jKn,lJf,lQ6] at q4
     obtain⟨⟨E',e1⟩,_⟩:=vis_sub (F:=F') (es:=es)
     refine⟨_,_,_,rfl,F2,kvs2,q1,qk,q2,q3,⟨E++E',by rw[q4,e1,jE,lVl]⟩,?_,?_,q5⟩
     ·have:=jB.step fine hx'
      rw[jQz hW,<-q4] at this
      exact this
     ·rw[jb,show W.length-(a+i)=W.length-(a+(i+1))+1 by omega,jZa hx',jQz hW,<-q4];rfl
   ·intro τ G2 h_;apply xe5 h_;clear h_;intro v5 v6 v7 F' kvs' h_;apply ae8 h_;clear h_;intro j1 jk j2 j3 q4_ jB jb js
    obtain⟨E,jE⟩:=q4_
    have hlen:(jJj (F.drop a)).length=F.length-a:=by simp[jJj]
    rw[hlen,show a+(F.length-a)=F.length by omega] at jB jb
    wp_walk using 1,tSeq
    exact⟨hpd,hp0,F',kvs',j1,jk,j3,by rw[jE,lKd];omega,jB,jb,js⟩
 ·rename_i hne
  have he:F.length<=a:=by
   have:jJj (F.drop a)=[]:=by simpa using hne
   have:=lKl List.length this
   simp[jJj] at this;omega
  rw[jZb he] at hb
  exact kk d G1 kvs hd h1 (by rw[hk,hb]) hs1
noncomputable def jXe:Sp3:=fun xs G Q=>∃(es:List (Nat×Nat)) (nu:List Nat),xs=[encR es,.tup (jJj nu)]/\(∀e,e∈es->e.1<nu.length)/\es.length<=1000/\∀G',Sub G G'->Q (encR (renE nu es)) G'
def qJt:List Str:=["ends","numbers","end"]
noncomputable def jXk:TS3:=
 (tRet (tCB jJz (jJc (jKu [false,false,true] (iSeq (tVar 0)) (jJh 2) jQw (tTup (jJc (tOp rIxF (tVar 1) (tOp rIxF (tVar 2) (tC (.int 0)))) (jJc (tOp rIxF (tVar 2) (tC (.int 1))) tNil)))) tNil)))
theorem kKp:RdOk jXe jXk qJt:=by
 intro xs G Q h_;apply xe2 h_;clear h_;intro es nu h_;apply ae3 h_;clear h_;intro hlt hl kk
 show jXk _ [some (.tup (es.map encE)),some (.tup (jJj nu)),none] G
 have hs:=sz
 wp_walk using 1,jXk,iSeq
 refine jK1 (fun e=>encE (nuF nu e.1,e.2)) (by omega) (fun _ _=>trivial) ?_ ?_
 ·intro i e he G' K K0 s hk
  have hx:=hlt e (lJz he)
  have hy:nu[e.1]? =some nu[e.1]:=lJl hx
  wp_walk using 1,encE,qJk hy
  rw[encE,jV0 hy] at hk
  exact⟨by omega,hk G' (.refl _)⟩
 ·intro D G' hD h1 h2
  refine⟨_,jJl h1,?_⟩
  have:=kk G' h2
  rw[encR,renE,lJ0] at this
  exact this
def jUa:Sp3:=fun xs G Q=>∃(W:Web) (nu:List Nat),xs=[encW W,.tup (jJj nu)]/\Fine W/\Turn W.length nu/\∀V G',Ren W nu V->Sub G G'->Q (encW V) G'
def kQm:List Str:=["web","numbers","rooms","room","ends"]
noncomputable def jUe:TS3:=
 (tSeq (tAsg (tCB kKq (jJc (tVar 0) tNil)) (jJh 2))
 (tSeq (tFor (iEnT (jJc (tVar 0) tNil)) (gTup 2 (jKd (jJh 3) (jKd (jJh 4) gNil))) (tAsg (jJx jXe (jJc (tVar 4) (jJc (tVar 1) tNil))) (gSub (tVar 2) (tOp rIxF (tVar 1) (tVar 3)) jQ1)))
 (tRet (tCB jJz (jJc (tVar 2) tNil)))))
theorem jYr:RdOk jUa jUe kQm:=by
 intro xs G Q h_;apply xe2 h_;clear h_;intro W nu h_;apply ae3 h_;clear h_;intro fine t kk
 show jUe _ [some (.tup (W.map encR)),some (.tup (jJj nu)),none,none,none] G
 have hs:=sz
 have hl:=fine.len
 wp_walk using 1,jUe,kKq,kJq,jKq,iEnT
 intro p hp
 refine⟨fun k τ G'=>∃(v3 v4:Option T) (V:Web),τ=[some (.tup (W.map encR)),some (.tup (jJj nu)),some (.ref p),v3,v4]/\G' p=some (.lst (V.map encR))/\V.length=W.length/\(∀(r:Nat) (es:List (Nat×Nat)),r<k->W[r]? =some es->V[nuF nu r]? =some (renE nu es))/\Sub G G',?_,?_,?_,?_⟩
 ·exact⟨none,none,W,rfl,jJf,rfl,fun r es h=>absurd h (lQd _),.new hp⟩
 ·intros;trivial
 ·intro k y τ G1 hy h_;apply xe3 h_;clear h_;intro v3 v4 V h_;apply ae4 h_;clear h_;intro h1 h2 h3 h4
  obtain⟨z,hz,rfl⟩:=jYy hy
  obtain⟨es,he,rfl⟩:=jKt hz
  have hk:k<W.length:=(lJh.mp he).1
  obtain⟨x,hx,hxl⟩:=t.at hk
  wp_walk using 1,tSeq
  refine⟨es,nu,rfl,fun e hm=> ?_,fine.row k es he,fun G2 s2=> ?_⟩
  ·obtain⟨i,hi⟩:=lKj hm
   rw[t.len];exact fine.rng k i e.1 e.2 (jX3 he hi)
  ·have hp2:=s2 _ _ h1
   wp_walk using 1,qJk hx,kUu hp2
   have hxV:x<(V.map encR).length:=by rw[lJf,h2];exact hxl
   rw[kZe hxV]
   refine⟨_,rfl,V.set x (renE nu es),(by show gup _ _ _ _=_;rw[jJf,List.map_set]),by rw[lVj];exact h2,fun r es' hr he'=> ?_,(h4.trans s2).over hp⟩
   rcases lQz (lV0 hr) with h | rfl
   ·rw[lK9 (fun e=> ?_)]
    ·exact h3 r es' h he'
    ·have:=qVo t ((jV0 hx).trans e)
     omega
   ·rw[he] at he';cases he'
    rw[jV0 hx,lK7 (by rw[h2];exact hxl)]
 ·intro τ G1 h_;apply xe3 h_;clear h_;intro v3 v4 V h_;apply ae4 h_;clear h_;intro h1 h2 h3 h4
  wp_walk using 1,tSeq
  refine⟨_,jJl h1,?_⟩
  rw[jKn,lJf] at h3
  exact kk V G1 ⟨h2,fun r es he=>h3 r es (lJh.mp he).1 he⟩ h4
theorem qKf {n:Nat}:rngT 0 n=jJj (List.range n):=by
 unfold rngT jJj
 apply lQ9
 intro x _
 show T.int (0+(x:Int))=_
 rw[Int.zero_add]
theorem kY9 {F:List Nat} {kvs:List (L2.Key×T)} (h:kvs.map Prod.fst=F.map keyN):(kvs.map fun kv=>kT kv.1)=jJj F:=by
 have:(kvs.map fun kv=>kT kv.1)=(kvs.map Prod.fst).map kT:=by rw[lJ0];rfl
 rw[this,h,lJ0];rfl
def jUs:Sp3:=fun xs G Q=>∃(W:Web) (r:Nat),xs=[encW W,.int r]/\Fine W/\Order W r (bfs W r)/\r<W.length/\∀G',Sub G G'->Q (encW (tf W r)) G'
def kUm:List Str:=["web","room","numbers","number","come_to"]
noncomputable def jUw:TS3:=
 (tSeq (tAsg (jQh (jJc (tCB rLen (jJc (tVar 0) tNil)) tNil)) (jJh 2))
 (tSeq (tFor (kUc (jJc (tCB kYh (jJc (jJx jK7 (jJc (tVar 0) (jJc (tVar 1) tNil))) tNil)) tNil)) (gTup 2 (jKd (jJh 3) (jKd (jJh 4) gNil))) (tAsg (tVar 3) (gSub (tVar 2) (tVar 4) jQ1)))
 (tRet (jJx jUa (jJc (tVar 0) (jJc (tCB jJz (jJc (tVar 2) tNil)) tNil))))))
theorem jZj:RdOk jUs jUw kUm:=by
 intro xs G Q h_;apply xe2 h_;clear h_;intro W r h_;apply ae4 h_;clear h_;intro fine o hr kk
 show jUw _ [some (.tup (W.map encR)),some (.int r),none,none,none] G
 have hs:=sz
 have hW2:=fine.len
 have ol:=o.len
 wp_walk using 1,jUw,jQh,jKq,kUc,kYh,List.length_map
 refine⟨by omega,by omega,fun q hq=> ?_⟩
 refine⟨W,r,rfl,fine,hr,fun d G1 kvs hd hd1 hk s1=> ?_⟩
 have hq1:=s1 _ _ (jJf (G:=G) (a:=q) (o:= .lst (rngT 0 ((W.length:Nat):Int).toNat)))
 rw[show ((W.length:Nat):Int).toNat=W.length by omega,qKf] at hq1
 refine⟨d,rfl,kvs,hd1,fun u hu=> ?_⟩
 rw[kY9 hk]
 have hqu:q≠u:=jJg hq1 hu
 refine⟨jJj (bfs W r),by simp only[jK4,jJf];rfl,?_⟩
 refine⟨fun i τ G'=>∃(v3 v4:Option T) (N:List Nat),τ=[some (.tup (W.map encR)),some (.int r),some (.ref q),v3,v4]/\G' q=some (.lst (jJj N))/\G' u=some (.lst (jJj (bfs W r)))/\N.length=W.length/\(∀i' x,i'<i->(bfs W r)[i']? =some x->N[x]? =some i')/\Sub G G',?_,?_,?_,?_⟩
 ·exact⟨none,none,List.range W.length,rfl,by rw[jJk hqu];exact hq1,jJf,by simp,fun i' x h=>absurd h (lQd _),((Sub.new hq).trans s1).trans (.new hu)⟩
 ·intro i τ G' hi h_;apply xe3 h_;clear h_;intro v3 v4 N h_;apply ae5 h_;clear h_;intro h1 h2 h3 h4 h5
  simp only[jK4,h2];rfl
 ·intro i y τ G2 hy h_;apply xe3 h_;clear h_;intro v3 v4 N h_;apply ae5 h_;clear h_;intro h1 h2 h3 h4 h5
  obtain⟨z,hz,rfl⟩:=jYy hy
  obtain⟨x,hx,rfl⟩:=jKt hz
  have hxl:=o.lt x (lJz hx)
  wp_walk using 1,kUu h1
  rw[kZe (show x<(jJj N).length by simp[jJj,h3,hxl])]
  refine⟨_,rfl,N.set x i,(by show gup _ _ _ _=_;rw[jJf];simp[jJj]),(by show gup _ _ _ _=_;rw[jJk hqu.symm];exact h2),by rw[lVj];exact h3,fun i' x' hi' hx'=> ?_,h5.over hq⟩
  rcases lQz (lV0 hi') with h | rfl
  ·rw[lK9 (fun e=> ?_)]
   ·exact h4 i' x' h hx'
   ·subst e
    have:=(lQy (lJh.mp hx).1 o.nd).mp (hx.trans hx'.symm)
    omega
  ·rw[hx] at hx';cases hx'
   rw[lK7 (by rw[h3];exact hxl)]
 ·intro τ G2 h_;apply xe3 h_;clear h_;intro v3 v4 N h_;apply ae5 h_;clear h_;intro h1 h2 h3 h4 h5
  wp_walk using 1,tSeq
  refine⟨_,jJl h1,?_⟩
  have hN:N=inv W.length (bfs W r):=by
   apply lQ2
   intro x
   rcases lKs x W.length with hx | hx
   ·obtain⟨e1,e2⟩:=o.idx hx
    rw[kZi hx,h4 _ x (by rw[jKn];simp[jJj];rw[ol];exact e2) e1]
   ·rw[lKa (by omega),lKa (by simp[inv];exact hx)]
  refine⟨W,N,rfl,fine,by rw[hN];exact o.turn,fun V G3 ren s3=> ?_⟩
  rw[hN] at ren
  rw[Ren.unique o.turn ren (tf_is fine o)]
  exact kk G3 (h5.trans s3)
def keyR (es:List (Nat×Nat)):List L2.K1:=es.map fun p=> .inr [.inl (p.1:Int),.inl (p.2:Int)]
def keyW (V:Web):L2.TKey:=V.map fun es=> .inr (keyR es)
theorem kJ8 {α K:Type} {f:T->Option K} {enc:α->T} {g:α->K} (h:∀a,f (enc a)=some (g a)):∀l:List α,allK f (l.map enc)=some (l.map g)
 | []=>rfl
 | a::l=>by
  rw[lJn,lJn]
  unfold allK
  rw[h a,kJ8 h l]
theorem qVy (V:Web):jQ4 (V.map encR)=some (keyW V):=kJ8 (fun es=>by
 show (allK key1 _).map Sum.inr=_
 rw[kJ8 (g:=fun p:Nat×Nat=>(.inr [.inl (p.1:Int),.inl (p.2:Int)]:L2.K1)) fun p=>rfl];rfl) V
theorem jX9 {α K:Type} [DecidableEq K] {lt:K->K->Option Bool} {f:α->K} (h:∀a b,(lt (f a) (f b)).isSome=true):∀a b:List α,(L3.lexLt lt (a.map f) (b.map f)).isSome=true
 | [],[]=>rfl
 | [],_::_=>rfl
 | _::_,[]=>rfl
 | x::a,y::b=>by
  rw[lJn,lJn]
  unfold L3.lexLt
  split
  ·exact jX9 h a b
  ·exact h x y
theorem qVc (p q:Nat×Nat):(L3.lexLt ltI [.inl (p.1:Int),.inl (p.2:Int)] [.inl (q.1:Int),.inl (q.2:Int)]).isSome=true:=
 jX9 (lt:=ltI) (f:=fun i:Nat=>(.inl (i:Int):L2.Key)) (fun i j=>rfl) [p.1,p.2] [q.1,q.2]
theorem row_lt (es fs:List (Nat×Nat)):(L3.lexLt (ltS ltI) (keyR es) (keyR fs)).isSome=true:=
 jX9 (lt:=ltS ltI) (f:=fun p:Nat×Nat=>(.inr [.inl (p.1:Int),.inl (p.2:Int)]:L2.K1)) (fun p q=>qVc p q) es fs
theorem web_lt (V V':Web):(ltK (keyW V) (keyW V')).isSome=true:=
 jX9 (lt:=ltS (ltS ltI)) (f:=fun es=>(.inr (keyR es):L2.K2)) (fun es fs=>row_lt es fs) V V'
abbrev pF:Addr:=196
abbrev pR:Addr:=280
def tabs:List (Addr×Addr):=[(198,pF),(284,pR)]
def TBs (G:Gp):Prop:=G pF=some (.tb 95 59 ((("fitting":Str)++".<locals>.")++"<lambda>"))/\G pR=some (.tb 254 72 ((("_law_right":Str)++".<locals>.")++"<lambda>"))
theorem TBs.sub {G G':Gp} (h:TBs G) (s:Sub G G'):TBs G':=⟨s _ _ h.1,s _ _ h.2⟩
noncomputable def G0:Gp:=fun b=>if b=pF then some (.tb 95 59 ((("fitting":Str)++".<locals>.")++"<lambda>")) else if b=pR then some (.tb 254 72 ((("_law_right":Str)++".<locals>.")++"<lambda>")) else none
theorem tbs0:TBs G0:=⟨lJa rfl,(lJb (by decide)).trans (lJa rfl)⟩
theorem g0_rel {K:PySem.W.Frag} {H:L2.Hp} (h:∀b,b∈tabs.map (·.2)->H b=some (.tbl #[])):GRel K H G0:=by
 intro a o e
 unfold G0 at e
 split at e
 ·rename_i z;subst z;cases e
  exact⟨#[],h pF (by decide),.inl rfl⟩
 ·split at e
  ·rename_i z;subst z;cases e
   exact⟨#[],h pR (by decide),.inl rfl⟩
  ·cases e
theorem kt {K:PySem.W.Frag} (a:K.lookup pF=none) (b:K.lookup pR=none):∀c,c∈tabs.map (·.2)->K.lookup c=none:=fun c hc=>by
 rcases lJj.mp (show c∈[pF,pR] from hc) with rfl | hc
 ·exact a
 ·rw[lJr.mp hc];exact b
def kW (V:Web):Int×L2.TKey:=((V.length:Nat),keyW V)
def tk (V:Web):List T×L2.TKey:=(V.map encR,keyW V)
theorem qK6 (V:Web):kn (tk V)=kW V:=by unfold kn tk kW;rw[lJf]
theorem kU5 (V V':Web):(ltP (kW V) (kW V')).isSome=true:=by
 rw[qUj]
 split
 ·split
  ·rfl
  ·exact web_lt V V'
 ·rfl
def Up (Ws:List Web):Prop:=Ws.Pairwise fun x y=>ltP (kW y) (kW x)≠some true
theorem kKg {G1:Gp} {Pt:Addr} {ln cl:Nat} {q:Str} {Q:VK3} {x:T} {Ws:List Web} (hP:G1 Pt=some (.tb ln cl q)) (hl:jK4 G1 x=some (Ws.map encW)) (hz:Ws.length<64)
  (k:∀(p:Addr) (Vs:List Web),G1 p=none->Vs.Perm Ws->Up Vs->Q (.ref p) (gup G1 p (.lst (Vs.map encW)))):kVp Pt ln cl q Q x G1:=by
 refine⟨Ws.map tk,hP,?_,by rw[lJf];exact hz,fun e he=> ?_,fun e he e' he'=> ?_,fun p kys hp pe so=> ?_⟩
 ·rw[hl,lJ0];rfl
 ·obtain⟨V,_,rfl⟩:=lJi.mp he
  exact qVy V
 ·obtain⟨V,_,rfl⟩:=lJi.mp he
  obtain⟨V',_,rfl⟩:=lJi.mp he'
  rw[qK6,qK6];exact kU5 V V'
 ·obtain⟨Vs,pV,rfl⟩:=jVj pe Ws rfl
  have:=k p Vs hp pV (by
   rw[lQw] at so
   exact so.imp fun z=>by rw[qK6,qK6] at z;exact z)
  rw[lJ0];exact this
noncomputable def jU5:SpX:=fun xs G Q R=>∃(S:jUi) (most:Nat),xs=[jUq S,.int most]/\SB S/\1<=most/\most<=4/\TBs G/\(20<(sol S most).length->∀G',Sub G G'->R "TooMany" G')/\
 ((sol S most).length<=20->∀q G' Ws,G q=none->G' q=some (.lst (Ws.map encW))->Ws.Perm ((sol S most).map tw)->Up Ws->Sub G G'->Q (.ref q) G')
theorem kKy:qQ4 jU5:=fun xs G Q Q' R R' hq hr ⟨S,most,h1,h2,h3,h4,h5,h6,h7⟩=>⟨S,most,h1,h2,h3,h4,h5,fun a G' s=>hr _ _ (h6 a G' s),fun a q G' Ws b c d e s=>hq _ _ (h7 a q G' Ws b c d e s)⟩
def qJs:List Str:=["story","most","webs","web"]
noncomputable def jXj (R:XK3):TS3:=
 (tSeq (tAsg (jJx jK6 (jJc (tVar 0) (jJc (tVar 1) (jJc (tOp jKm (tC (.int 20)) (tC (.int 1))) tNil)))) (jJh 2))
 (tSeq (tIfS (jJt (tOp rGt (tCB rLen (jJc (tVar 2) tNil)) (tC (.int 20)))) (kQr R "TooMany") jKa)
 (tRet (kKe pF 95 59 ((("fitting":Str)++".<locals>.")++"<lambda>") (jKu [false,false,false,true] (iSeq (tVar 2)) (jJh 3) jQw (jJx jUs (jJc (tVar 3) (jJc (tC (.int 0)) tNil))))))))
theorem kKo:∀xs G Q R,jU5 xs G Q R->jXj R {nx:=fun _ G'=>Q .non G',rt:=Q} (jKl qJs xs) G:=by
 intro xs G Q R h_;apply xe2 h_;clear h_;intro S most h_;apply ae6 h_;clear h_;intro sb m1 m4 tb kr kq
 show jXj _ _ [some (jUq S),some (.int most),none,none] G
 have hs:=sz
 wp_walk using 1,jXj,kKe,iSeq,kQr
 refine⟨S,most,21,rfl,sb,m1,m4,by decide,by decide,fun q G1 hq hq1 s1=> ?_⟩
 have hl:(((sol S most).take 21).map skW).length=min 21 (sol S most).length:=by rw[lJf,lKw]
 refine⟨_,jJl hq1,?_⟩
 rw[hl]
 by_cases hm:20<(sol S most).length
 ·rw[lJa (by omega)]
  exact kr hm G1 s1
 ·rw[lJb (by omega)]
  rw[lK3 (by omega)] at hq1
  refine⟨_,jJl hq1,?_⟩
  refine jK1 (es:=sol S most) (enc:=skW) (fun p=>encW (tw p)) (by omega) (fun G' s'=>jJl (s' _ _ hq1)) ?_ ?_
  ·intro i p hp G2 K K0 s2 hK
   have fu:=qUb sb m1 m4 (lJz hp)
   wp_walk using 1,tSeq
   refine⟨webC p.1 p.2,0,rfl,fu.fine,fu.order,by rw[jKo];exact fu.c1,fun G3 s3=>hK G3 s3⟩
  ·intro D G2 hD hD2 s2
   refine kKg (Ws:=(sol S most).map tw) (s2 _ _ (s1 _ _ tb.1)) (by rw[show jK4 G2 (.ref D)=asL (G2 D) from rfl,hD2,lJ0];rfl) (by rw[lJf];omega) fun p Vs hp pV so=> ?_
   exact kq (by omega) p _ Vs ((s1.trans s2).none hp) jJf pV so ((s1.trans s2).trans (.new hp))
theorem Fu.row {c:List Nat} {k:Kvs} (h:Fu c k) {x:Nat} (hx:x<c.length):∃es,(webC c k)[x]? =some es/\es=((List.range (c.getD x 0)).map fun j=>decE (valT k (keyE (x,j))))/\es.length=c.getD x 0/\∀(j:Nat) v,es[j]? =some v->inC c (x,j)/\valT k (keyE (x,j))=some (encE v):=
 ⟨_,jVo hx,rfl,by rw[lJf,lKr],fun j v hv=>h.en.mp (jX3 (jVo hx) hv)⟩
noncomputable def jYm:Sp3:=fun xs G Q=>∃(c:List Nat) (d e:Addr) (kvs:Kvs),xs=[.ref d,.ref e]/\G d=some (.lst (jJj c))/\G e=some (.dct kvs)/\Fu c kvs/\∀G',Sub G G'->Q (encW (tw (c,kvs))) G'
def qQ1:List Str:=["_law_doors","_law_ends","_law_order","_law_at","_law_door","_law_room","_law_web_here","_law_led","_law_other","_law_came"]
noncomputable def jYt:TS3:=
 (tSeq (tAsg (tLst (jJc (tC (.int 0)) tNil)) (jJh 2))
 (tSeq (tAsg (tC (.int 0)) (jJh 3))
 (tSeq (jYi (jJt (tOp rLt (tVar 3) (tCB rLen (jJc (tVar 2) tNil)))) (tSeq (tFor (jKp (jJc (tOp rIxF (tVar 0) (tOp rIxF (tVar 2) (tVar 3))) tNil)) (jJh 4) (tSeq (tAsg (tOp rIxF (tOp rIxF (tVar 1) (tTup (jJc (tOp rIxF (tVar 2) (tVar 3)) (jJc (tVar 4) tNil)))) (tC (.int 0))) (jJh 5))
 (tIfS (jJt (tOp jKx (tVar 5) (tVar 2))) (jQc (tBM "list" jJ8 (tVar 2) (jJc (tVar 5) tNil))) jKa)))
 (tAsg (tOp jKm (tVar 3) (tC (.int 1))) (jJh 3))))
 (tSeq (tAsg (tLst tNil) (jJh 6))
 (tSeq (tFor (iSeq (tVar 2)) (jJh 5) (tSeq (tAsg (jKu [false,false,false,false,true,false,false,false,false,false] (jKp (jJc (tOp rIxF (tVar 0) (tVar 5)) tNil)) (jJh 4) jQw (tOp rIxF (tVar 1) (tTup (jJc (tVar 5) (jJc (tVar 4) tNil))))) (jJh 7))
 (jQc (tBM "list" jJ8 (tVar 6) (jJc (tCB jJz (jJc (jKu [false,false,false,false,false,false,false,false,true,true] (iSeq (tVar 7)) (gTup 2 (jKd (jJh 8) (jKd (jJh 9) gNil))) jQw (tTup (jJc (tBM "list" kYi (tVar 2) (jJc (tVar 8) tNil)) (jJc (tVar 9) tNil)))) tNil)) tNil)))))
 (tRet (tCB jJz (jJc (tVar 6) tNil))))))))
theorem kQv:RdOk jYm jYt qQ1:=by
 intro xs G Q h_;apply xe4 h_;clear h_;intro c d e kvs h_;apply ae4 h_;clear h_;intro hd he fu kk
 show jYt _ [some (.ref d),some (.ref e),none,none,none,none,none,none,none,none] G
 have hs:=sz
 have hc1:=fu.c1
 have hc5:=fu.c5
 have fine:=fu.fine
 have wl:(webC c kvs).length=c.length:=jKo
 have hcx:∀x,x<c.length->c.getD x 0<=11:=fun x hx=>fu.cx hx
 have hrow:=fun x (hx:x<c.length)=>fu.row hx
 have ord:=fu.order
 unfold tw at kk
 dsimp only at kk
 generalize webC c kvs=W at kk fine wl hrow ord
 wp_walk using 1,jYt,jYi,jKq,jKp
 refine⟨by omega,fun o ho=> ?_⟩
 have hdo:=jJg hd ho
 have heo:=jJg he ho
 have hdo2:=hdo.symm
 let Wv:Nat->St3->Gp->Prop:=fun m τ G'=>∃(n:Nat) (F:List Nat) (v4 v5:Option T),τ=[some (.ref d),some (.ref e),some (.ref o),some (.int n),v4,v5,none,none,none,none]/\m=6-n/\n<=F.length/\Bfs W n F/\bfs W 0=bfsN W (W.length-n) n F/\G' o=some (.lst (jJj F))/\Sub G G'
 refine⟨Wv,⟨6,0,[0],_,_,rfl,rfl,lJq _,⟨by simp,fun x hx=>by rw[lJr.mp hx];omega,fun i x e hi=>absurd hi (lQd _)⟩,rfl,jJf,.new ho⟩,?_⟩
 intro m τ G1 h_;apply xe4 h_;clear h_;intro n F v4 v5 h_;apply ae6 h_;clear h_;intro e0_ hn bf hb ho1 s1
 subst e0_
 have hFl:=jQs bf.nd bf.lt
 have hil:(jJj F).length=F.length:=by simp[jJj]
 wp_walk using 1,jJl ho1,hil
 by_cases hlt:n<F.length
 ·rw[lJa (by omega)]
  have hx:F[n]? =some F[n]:=lJl hlt
  have hxc:F[n]<c.length:=by rw[<-wl];exact bf.lt _ (lQx hlt)
  generalize F[n]=x at hx hxc
  obtain⟨es,hW,_,hel,hes⟩:=hrow x hxc
  have ixo:∀(G':Gp) (F':List Nat),G' o=some (.lst (jJj F'))->F'[n]? =some x->ixR G' (.ref o) (.int n)=some (.int x):=fun G' F' h1 h2=>by rw[jJ9 h1,atN];simp[jJj,h2]
  have hd1:=s1 _ _ hd
  let Nx:St3->Gp->Prop:=fun τ' G'=>∃(F:List Nat) (v4 v5:Option T),τ'=[some (.ref d),some (.ref e),some (.ref o),some (.int ((n+1:Nat):Int)),v4,v5,none,none,none,none]/\n+1<=F.length/\Bfs W (n+1) F/\bfs W 0=bfsN W (W.length-(n+1)) (n+1) F/\G' o=some (.lst (jJj F))/\Sub G G'
  refine⟨Nx,?_,?_⟩
  ·intro τ' G' h_;apply xe3 h_;clear h_;intro F' u4 u5 h_;apply ae5 h_;clear h_;intro h1 h2 h3 h4 h5
   exact⟨6-(n+1),by omega,n+1,F',u4,u5,rfl,rfl,h1,h2,h3,h4,h5⟩
  refine⟨.int x,ixo G1 F ho1 hx,.int (c.getD x 0:Nat),(jJ9 hd1).trans (at_c hxc),_,rfl,by have:=hcx x hxc;omega,by have:=hcx x hxc;omega,?_⟩
  rw[show (((c.getD x 0:Nat):Int)).toNat=c.getD x 0 by omega]
  let J1:Nat->St3->Gp->Prop:=fun j τ G'=>∃(F':List Nat) (v4 v5:Option T),τ=[some (.ref d),some (.ref e),some (.ref o),some (.int n),v4,v5,none,none,none,none]/\F'=vis F (es.take j)/\G' o=some (.lst (jJj F'))/\Sub G G'
  refine⟨J1,?_,?_,?_,?_⟩
  ·exact xi3 F _ _ rfl ⟨rfl,ho1,s1⟩
  ·intros;trivial
  ·intro j y τ G2 hy h_;apply xe3 h_;clear h_;intro F' u4 u5 h_;apply ae3 h_;clear h_;intro h2 h3 h4
   obtain⟨hj,rfl⟩:=jQq hy
   have hv:es[j]? =some (es[j]'(by omega)):=lJl _
   generalize es[j]'(by omega)=v at hv
   obtain⟨hin,hval⟩:=hes j v hv
   have hix:ixR G2 (.ref e) (.tup [.int x,.int j])=some (encE v):=jXr (h4 _ _ he) (ks:=keyE (x,j)) rfl hval
   have hF2n:F'.Nodup:=by rw[h2];exact vis_sub.2.2.2 bf.nd
   have hF2l:∀y,y∈F'->y<W.length:=by rw[h2];exact qQ8 fine hW bf.lt j
   have hFl':=jQs hF2n hF2l
   have h1:F'[n]? =some x:=by
    obtain⟨⟨E',e1⟩,_⟩:=vis_sub (F:=F) (es:=es.take j)
    rw[h2,e1,lQi hlt];exact hx
   wp_walk using 1,jKx,ixo G2 F' h3 h1,hix,encE,jKi h3,h3
   refine⟨by omega,_,qQg h3,?_⟩
   have st:=jZ3 (F:=F) hv
   rw[<-h2] at st
   cases hc:F'.contains v.1 with
   | true=>
    rw[hc,lJa rfl] at st
    rw[lJb (by simp)]
    exact xi3 F' _ _ rfl ⟨st.symm,h3,h4⟩
   | false=>
    rw[hc,lJb (by decide)] at st
    rw[lJa (by simp)]
    exact⟨by simp[jJj];omega,xi3 (F'++[v.1]) _ _ rfl ⟨st.symm,by rw[jJf];simp[jJj],h4.over ho⟩⟩
  ·intro τ G2 h_;apply xe3 h_;clear h_;intro F' u4 u5 h_;apply ae3 h_;clear h_;intro h2 h3 h4
   rw[jKv,<-hel,lQ6] at h2
   wp_walk using 1,tSeq
   have bs:=bf.step fine hx
   rw[jQz hW,<-h2] at bs
   obtain⟨⟨E',e1⟩,_⟩:=vis_sub (F:=F) (es:=es)
   refine⟨F',_,_,rfl,by rw[h2,e1,lKd];omega,bs,?_,h3,h4⟩
   rw[hb,show W.length-n=W.length-(n+1)+1 by omega,jZa hx,jQz hW,<-h2]
 ·rw[lJb (by omega)]
  rw[jZb (by omega)] at hb
  have tfF:tf W 0=F.map fun s=>(row W s).map fun e=>(F.idxOf e.1,e.2):=by unfold tf;rw[hb]
  rw[hb] at ord
  refine⟨lJq _,fun p hp=> ?_⟩
  have hop:=jJg ho1 hp
  have hpG:=s1.none hp
  wp_walk using 1,iSeq
  refine⟨_,jJl (by rw[jJk hop];exact ho1),?_⟩
  let J1:Nat->St3->Gp->Prop:=fun i τ G'=>∃(v5 v7:Option T),τ=[some (.ref d),some (.ref e),some (.ref o),some (.int n),v4,v5,some (.ref p),v7,none,none]/\G' p=some (.lst ((F.take i).map fun s=>encR ((row W s).map fun e=>(F.idxOf e.1,e.2))))/\G' o=some (.lst (jJj F))/\Sub G G'
  refine⟨J1,?_,?_,?_,?_⟩
  ·exact xi2 _ _ rfl ⟨jJf,by rw[jJk hop];exact ho1,s1.trans (.new hp)⟩
  ·intro i τ G' hi h_;apply xe2 h_;clear h_;intro u5 u7 h_;apply ae3 h_;clear h_;intro h2 h3 h4
   exact jJl h3
  ·intro i y τ G2 hy h_;apply xe2 h_;clear h_;intro u5 u7 h_;apply ae3 h_;clear h_;intro h2 h3 h4
   obtain⟨x,hx,rfl⟩:=jKt hy
   have hxm:=lJz hx
   have hxc:x<c.length:=by rw[<-wl];exact bf.lt x hxm
   have hi5:i<F.length:=(lJh.mp hx).1
   have hc11:=hcx x hxc
   obtain⟨es,hW,ees,hel,hes⟩:=hrow x hxc
   wp_walk using 1,jKp,iSeq,jJ9 (h4 _ _ hd),at_c hxc
   refine⟨by omega,by omega,?_⟩
   rw[show (((c.getD x 0:Nat):Int)).toNat=c.getD x 0 by omega,jUb]
   refine jK1 (es:=List.range (c.getD x 0)) (enc:=fun x:Nat=>T.int x) (fun j=>encE (decE (valT kvs (keyE (x,j))))) (by rw[lKr];omega) (fun _ _=>trivial) ?_ ?_
   ·intro j' j hj G3 K K0 s3 hK
    have hj':j<c.getD x 0:=lJ2.mp (lJz hj)
    have hv:es[j]? =some (es[j]'(by omega)):=lJl _
    obtain⟨hin,hval⟩:=hes j _ hv
    have hix:ixR G3 (.ref e) (.tup [.int x,.int j])=some (encE (es[j]'(by omega))):=jXr (s3 _ _ (h4 _ _ he)) (ks:=keyE (x,j)) rfl hval
    have:=hK G3 (.refl _)
    rw[hval,jYc] at this
    wp_walk using 1,hix
    exact⟨by omega,this⟩
   ·intro D G3 hD hD3 s3
    have hD3':G3 D=some (.lst (es.map encE)):=by rw[hD3,ees,lJ0];rfl
    have ty3:=jKi (s3 _ _ h2)
    wp_walk using 1,ty3,jJl hD3'
    refine jK1 (es:=es) (enc:=encE) (fun v=>encE (F.idxOf v.1,v.2)) (by omega) (fun G' s'=>jJl (s' _ _ hD3')) ?_ ?_
    ·intro j v hv G4 K K0 s4 hK
     obtain⟨hin,hval⟩:=hes j v hv
     have hvl:v.1<W.length:=by rw[wl];exact (fu.rng hin hval).1
     obtain⟨ha,hal⟩:=ord.idx hvl
     have ho4:=s4 _ _ (s3 _ _ h3)
     have:=hK G4 (.refl _)
     wp_walk using 1,kYi,jKi ho4,encE
     refine⟨_,ho4,rfl,?_,.int v.1,F.idxOf v.1,by rw[show (jJj F)[F.idxOf v.1]? =_ from lJx ..];rw[ha];rfl,by simp[eqT],fun m t hm ht=> ?_,by omega,this⟩
     ·rw[lQu]
      intro t ht
      obtain⟨z,_,rfl⟩:=lJi.mp ht
      rfl
     ·obtain⟨z,hz,rfl⟩:=jKt ht
      have hne:z≠v.1:=fun e=>by
       subst e
       have:=(lQy (lJh.mp hz).1 bf.nd).mp (hz.trans ha.symm)
       omega
      have h2:¬ (z:Int)=v.1:=by omega
      simpa[eqT] using h2
    ·intro E G4 hE hE4 s4
     have hp4:=s4 _ _ (s3 _ _ h2)
     refine⟨_,jJl hE4,?_⟩
     wp_walk using 1,hp4
     refine⟨by rw[lJf,lKw];omega,xi2 _ _ rfl ⟨?_,by rw[jJk hop];exact s4 _ _ (s3 _ _ h3),((h4.trans s3).trans s4).over hpG⟩⟩
     rw[jJf,lQv,hx,lJ4,Option.toList_some,List.map_singleton,jQz hW]
     unfold encR
     rw[lJ0];rfl
  ·intro τ G2 h_;apply xe2 h_;clear h_;intro u5 u7 h_;apply ae3 h_;clear h_;intro h2 h3 h4
   wp_walk using 1,tSeq
   refine⟨_,jJl h2,?_⟩
   have:=kk G2 h4
   rw[tfF] at this
   unfold encW at this
   rw[lJ0] at this
   rw[show (jJj F).length=F.length by simp[jJj],lQ6]
   exact this
structure It where
 d:Addr
 e:Addr
 c:List Nat
 k:Kvs
 r:Nat
 n:Nat
def It.t (i:It):T:= .tup [.ref i.d,.ref i.e,.int i.r,.int i.n]
structure It.Ok (S:jUi) (most:Nat) (G:Gp) (i:It):Prop where
 hd:G i.d=some (.lst (jJj i.c))
 he:G i.e=some (.dct i.k)
 hn:i.n<=S.2.length
 pl:Pl most i.c i.k i.r (S.2.drop i.n)
theorem It.Ok.sub {S:jUi} {most:Nat} {G G':Gp} {i:It} (h:i.Ok S most G) (s:∀a o,(a=i.d\/a=i.e)->G a=some o->G' a=some o):i.Ok S most G':=⟨s _ _ (.inl rfl) h.hd,s _ _ (.inr rfl) h.he,h.hn,h.pl⟩
def It.sol (S:jUi) (most:Nat) (i:It):List (List Nat×Kvs):=sols most (S.2.drop i.n) i.c i.k i.r
def wgt (S:jUi) (l:List It):Nat:=(l.map fun i=>6^(S.2.length-i.n)).sum
theorem kQn {S:jUi} {l m:List It}:wgt S (l++m)=wgt S l+wgt S m:=by unfold wgt;rw[lJ4,List.sum_append]
theorem kXq {S:jUi}:∀l:List It,l.length<=wgt S l
 | []=>lJq _
 | i::l=>by
  have h1:=kXq (S:=S) l
  have h2:1<=6^(S.2.length-i.n):=Nat.one_le_pow _ _ (by decide)
  unfold wgt at h1 ⊢
  rw[lJn,List.sum_cons,lKe]
  omega
theorem Hd.le {c:List Nat} {kvs:Kvs} (h:Hd c kvs):kvs.length<=c.sum:=by
 have sb:(kvs.map (·.1)) ⊆ (allC c).map keyE:=fun k hk=>by
  obtain⟨x,hx,rfl⟩:=lJi.mp hk
  obtain⟨e,v,rfl,h1,_⟩:=h.ks x hx
  exact lV5 (allC_mem.mpr h1)
 have:=h.nd.length_le_of_subset sb
 rwa [lJf,lJf,kVo] at this
theorem kVw {most r:Nat} {c:List Nat} {k:Kvs}:∀ {ss:List Stp},k.length+2*ss.length<c.sum->sols most ss c k r=[]
 | [],h=>lJb (by rw[lQk] at h;omega)
 | s::ss,h=>lJb (by rw[lKe] at h;omega)
theorem kX5 {most r:Nat} {c:List Nat} {k:Kvs} {s:Stp} {ss:List Stp} (h:nxtE c k r s most=[]):sols most (s::ss) c k r=[]:=by
 show (if _ then (nxtE c k r s most).flatMap _ else [])=[]
 rw[h]
 split<;>rfl
def nx1 (most:Nat) (ss:List Stp) (s:Stp) (c:List Nat) (k:Kvs) (r:Nat) (e:Nat×Nat):List (List Nat×Kvs):=sols most ss (cn1 c s e) (kv1 k (r,s.1) e) e.1
theorem kX6 {most r:Nat} {c:List Nat} {k:Kvs} {s:Stp} {ss:List Stp} (h:c.sum<=k.length+2*(ss.length+1)):sols most (s::ss) c k r=(nxtE c k r s most).flatMap (nx1 most ss s c k r):=lJa h
def rmM (c:List Nat) (most:Nat):Nat:=if c.length<most then c.length+1 else c.length
theorem kK8 {c:List Nat} {s:Stp} {most:Nat}:∃A:Nat->Bool,jUp c s most=((List.range (rmM c most)).filter A).map fun i=>(i,s.2.1):=by
 refine⟨fun i=>if i<c.length then decide (c.getD i 0=s.2.2) else true,?_⟩
 have e1:(List.range c.length).filter (fun i=>if i<c.length then decide (c.getD i 0=s.2.2) else true)=(List.range c.length).filter fun r=>decide (c.getD r 0=s.2.2):=List.filter_congr fun i hi=>by rw[lJa (lJ2.mp hi)]
 unfold jUp rmM
 split
 ·rw[List.range_succ,List.filter_append,e1,lJ4]
  simp
 ·rw[e1,lKh]
theorem qVl {c:List Nat} {kvs:Kvs} {r most:Nat} {s:Stp} (h1:s.1<c.getD r 0) (h2:s.2.1<s.2.2) (hv:valT kvs (keyE (r,s.1))=none):∃B:Nat->Bool,nxtE c kvs r s most=((List.range (rmM c most)).filter B).map fun i=>(i,s.2.1):=by
 obtain⟨A,e⟩:=kK8 (c:=c) (s:=s) (most:=most)
 unfold nxtE
 rw[lJa ⟨h1,h2⟩,hv]
 show ∃B:Nat->Bool,List.filter _ (jUp c s most)=_
 rw[e,List.filter_map,List.filter_filter]
 exact⟨_,rfl⟩
theorem jZy {α:Type} [DecidableEq α] {v:α}:∀ {l:List α},l.Nodup->l.filter (fun e=>decide (e=v))=if v∈l then [v] else []
 | [],_=>rfl
 | a::l,h=>by
  rw[lKp] at h
  rw[lQe,jZy h.2]
  by_cases e:a=v
  ·subst e
   rw[lJa (lJs rfl),lJb h.1,lJa (lJ7 ..)]
  ·rw[lJb (by simpa using e)]
   by_cases q:v∈l
   ·rw[lJa q,lJa (lJ3 _ q)]
   ·rw[lJb q,lJb (fun z=>(lJj.mp z).elim (fun y=>e y.symm) q)]
theorem qVm {c:List Nat} {kvs:Kvs} {r most:Nat} {s:Stp} {v:Nat×Nat} (h:Hd c kvs) (h1:s.1<c.getD r 0) (h2:s.2.1<s.2.2) (hv:valT kvs (keyE (r,s.1))=some (encE v)):nxtE c kvs r s most=if v.2=s.2.1/\c.getD v.1 0=s.2.2 then [v] else []:=by
 obtain⟨_,e,_,hvc⟩:=h.val hv
 cases jY6 e
 have mem:v∈nxtE c kvs r s most↔v.2=s.2.1/\c.getD v.1 0=s.2.2:=by
  unfold nxtE
  rw[lJa ⟨h1,h2⟩,hv]
  show v∈List.filter _ _↔_
  rw[lKc,kJ1]
  unfold jUp
  rw[lJ1,lJi]
  constructor
  ·rintro⟨⟨q,hq,rfl⟩ | z,_⟩
   ·exact⟨rfl,lXb (lKc.mp hq).2⟩
   ·split at z
    ·rw[lJr.mp z] at hvc
     exact absurd hvc.1 (lKt _)
    ·cases z
  ·rintro⟨q1,q2⟩
   exact⟨.inl ⟨v.1,lKc.mpr ⟨lJ2.mpr hvc.1,lJs q2⟩,Prod.ext rfl q1.symm⟩,lJs rfl⟩
 have hN:nxtE c kvs r s most=(jUp c s most).filter fun e=>decide (e=v):=by
  unfold nxtE
  rw[lJa ⟨h1,h2⟩,hv]
  exact List.filter_congr fun e _=>kJ1
 have nd:(jUp c s most).Nodup:=by
  obtain⟨A,e⟩:=kK8 (c:=c) (s:=s) (most:=most)
  rw[e]
  rw[lXf,lQw]
  exact (lXf.mp (List.nodup_range.filter _)).imp fun hne z=>hne (Prod.mk.inj z).1
 rw[hN] at mem ⊢
 have m2:v∈jUp c s most↔v.2=s.2.1/\c.getD v.1 0=s.2.2:=by
  rw[<-mem,lKc]
  exact⟨fun z=>⟨z,lJs rfl⟩,fun z=>z.1⟩
 rw[jZy nd]
 by_cases q:v.2=s.2.1/\c.getD v.1 0=s.2.2
 ·rw[lJa q,lJa (m2.mpr q)]
 ·rw[lJb q,lJb (fun z=>q (m2.mp z))]
theorem qVn {c:List Nat} {kvs:Kvs} {r most:Nat} {s:Stp} (h:Hd c kvs) (h1:s.1<c.getD r 0) (h2:s.2.1<s.2.2) (hv:valT kvs (keyE (r,s.1))=none) {e:Nat×Nat}:e∈nxtE c kvs r s most↔e.2=s.2.1/\((e.1<c.length/\c.getD e.1 0=s.2.2/\valT kvs (keyE e)=none)\/(e.1=c.length/\c.length<most)):=by
 unfold nxtE
 rw[lJa ⟨h1,h2⟩,hv]
 show e∈List.filter _ _↔_
 rw[lKc]
 unfold jUp
 rw[lJ1,lJi]
 constructor
 ·rintro⟨⟨q,hq,rfl⟩ | z,w⟩
  ·obtain⟨q1,q2⟩:=lKc.mp hq
   exact⟨rfl,.inl ⟨lJ2.mp q1,lXb q2,by simpa using w⟩⟩
  ·split at z
   ·rename_i hm
    rw[(lJr.mp z)]
    exact⟨rfl,.inr ⟨rfl,hm⟩⟩
   ·cases z
 ·rintro⟨q1,⟨a,b,d⟩ | ⟨a,b⟩⟩
  ·exact⟨.inl ⟨e.1,lKc.mpr ⟨lJ2.mpr a,lJs b⟩,Prod.ext rfl q1.symm⟩,by rw[d];rfl⟩
  ·refine⟨.inr ?_,?_⟩
   ·rw[lJa b]
    exact lJr.mpr (Prod.ext a q1)
   ·cases z:valT kvs (keyE e) with
    | none=>rfl
    | some t=>
     obtain⟨_,_,z1,_⟩:=h.val z
     exact absurd z1.1 (by omega)
def ew (p:List Nat×Kvs):T:=encW (tw p)
noncomputable def jUu:Sp3:=fun xs G Q=>∃(S:jUi) (most:Nat),xs=[jUq S,.int most,.int 20]/\SB S/\1<=most/\most<=4/\∀q G',G q=none->G' q=some (.lst ((((sol S most).reverse).take 21).map ew))->Sub G G'->Q (.ref q) G'
noncomputable def kUo:List Str:=["_law_story_here","_law_most","_law_limit","_law_found","_law_waiting","_law_doors","_law_ends","_law_room","_law_at","_law_door","_law_came","_law_many","_law_other","_law_back","_law_more"]
noncomputable def jUy:TS3:=
 (tSeq (tAsg (tLst tNil) (jJh 3))
 (tSeq (tAsg (tLst (jJc (tTup (jJc (tLst (jJc (tOp rIxF (tVar 0) (tC (.int 0))) tNil)) (jJc jQk (jJc (tC (.int 0)) (jJc (tC (.int 0)) tNil))))) tNil)) (jJh 4))
 (tSeq (jYi (tAnd (jJt (tOp kYg (tVar 4) (tLst tNil))) (jJt (tOp rLeF (tCB jQx (jJc (tVar 3) tNil)) (tVar 2)))) (tSeq (tAsg (tBM0 "list" qU6 (tVar 4)) (gTup 4 (jKd (jJh 5) (jKd (jJh 6) (jKd (jJh 7) (jKd (jJh 8) gNil))))))
 (tSeq (tIfS (jJt (tOp rGt (tOp rSub (tCB qU5 (jJc (tVar 5) tNil)) (tCB jQx (jJc (tVar 6) tNil))) (tOp jUn (tC (.int 2)) (tOp rSub (tCB jQx (jJc (tOp rIxF (tVar 0) (tC (.int 1))) tNil)) (tVar 8))))) jZ7 jKa)
 (tSeq (tIfS (jJt (tOp rEqA (tVar 8) (tCB jQx (jJc (tOp rIxF (tVar 0) (tC (.int 1))) tNil)))) (tSeq (jQc (tBM "list" jJ8 (tVar 3) (jJc (jJx jYm (jJc (tVar 5) (jJc (tVar 6) tNil))) tNil)))
 jZ7) jKa)
 (tSeq (tAsg (tOp rIxF (tOp rIxF (tVar 0) (tC (.int 1))) (tVar 8)) (gTup 3 (jKd (jJh 9) (jKd (jJh 10) (jKd (jJh 11) gNil)))))
 (tSeq (tIfS (tOr (jJt (tOp rGe (tVar 9) (tOp rIxF (tVar 5) (tVar 7)))) (jJt (tOp rGe (tVar 10) (tVar 11)))) jZ7 jKa)
 (tSeq (tIfS (jJt (tOp kYj (tTup (jJc (tVar 7) (jJc (tVar 9) tNil))) (tVar 6))) (tSeq (tAsg (tOp rIxF (tVar 6) (tTup (jJc (tVar 7) (jJc (tVar 9) tNil)))) (gTup 2 (jKd (jJh 12) (jKd (jJh 13) gNil))))
 (tSeq (tIfS (tAnd (jJt (tOp rEqA (tVar 13) (tVar 10))) (jJt (tOp rEqA (tOp rIxF (tVar 5) (tVar 12)) (tVar 11)))) (jQc (tBM "list" jJ8 (tVar 4) (jJc (tTup (jJc (tVar 5) (jJc (tVar 6) (jJc (tVar 12) (jJc (tOp jKm (tVar 8) (tC (.int 1))) tNil))))) tNil))) jKa)
 jZ7)) jKa)
 (tFor (jKp (jJc (tCB kQz (jJc (tOp jKm (tCB jQx (jJc (tVar 5) tNil)) (tC (.int 1))) (jJc (tVar 1) tNil))) tNil)) (jJh 12) (tIfS (tOr (jJt (tOp rEqA (tVar 12) (tCB jQx (jJc (tVar 5) tNil)))) (tAnd (jJt (tOp rEqA (tOp rIxF (tVar 5) (tVar 12)) (tVar 11))) (jJt (tOp jKx (tTup (jJc (tVar 12) (jJc (tVar 10) tNil))) (tVar 6))))) (tSeq (tAsg (tCB jZr (jJc (tVar 6) tNil)) (jJh 14))
 (tSeq (tAsg (tTup (jJc (tVar 12) (jJc (tVar 10) tNil))) (gSub (tVar 14) (tTup (jJc (tVar 7) (jJc (tVar 9) tNil))) jQ1))
 (tSeq (tAsg (tTup (jJc (tVar 7) (jJc (tVar 9) tNil))) (gSub (tVar 14) (tTup (jJc (tVar 12) (jJc (tVar 10) tNil))) jQ1))
 (jQc (tBM "list" jJ8 (tVar 4) (jJc (tTup (jJc (tOp jKm (tVar 5) (tOp jUn (tLst (jJc (tVar 11) tNil)) (tCB kUz (jJc (tOp rEqA (tVar 12) (tCB jQx (jJc (tVar 5) tNil))) tNil)))) (jJc (tVar 14) (jJc (tVar 12) (jJc (tOp jKm (tVar 8) (tC (.int 1))) tNil))))) tNil)))))) jKa)))))))))
 (tRet (tVar 3)))))
theorem jZl:RdOk jUu jUy kUo:=by
 intro xs G Q h_;apply xe2 h_;clear h_;intro S most h_;apply ae4 h_;clear h_;intro sb hm1 hm4 kk
 show jUy _ [some (.tup [.int S.1,.tup (S.2.map jJ0)]),some (.int most),some (.int 20),none,none,none,none,none,none,none,none,none,none,none,none] G
 have hs:=sz
 have hSn:=sb.n
 wp_walk using 1,jUy,jYi,jKq,jKp,jQk,kYg,jQx,qU5
 refine⟨lJq _,fun f hf=>⟨by omega,fun d hd=> .inl fun e he=>⟨by omega,by omega,fun w hw=> ?_⟩⟩⟩
 obtain⟨hdf,hd0⟩:=jQt hd
 obtain⟨hed,he1⟩:=jQt he
 obtain⟨hef,he0⟩:=jQt he1
 obtain⟨hwe,hw1⟩:=jQt hw
 obtain⟨hwd,hw2⟩:=jQt hw1
 obtain⟨hwf,hw0⟩:=jQt hw2
 let Wv:Nat->St3->Gp->Prop:=fun m τ G'=>∃(its:List It) (us:List (List Nat×Kvs)) (v5 v6 v7 v8 v9 v10 v11 v12 v13 v14:Option T),τ=[some (.tup [.int S.1,.tup (S.2.map jJ0)]),some (.int most),some (.int 20),some (.ref f),some (.ref w),v5,v6,v7,v8,v9,v10,v11,v12,v13,v14]/\m=wgt S its/\m<=1679616/\G' f=some (.lst (us.map ew))/\G' w=some (.lst (its.map It.t))/\us.length<=21/\us++(its.flatMap (It.sol S most)).reverse=(sol S most).reverse/\(∀i,i∈its->i.Ok S most G'/\i.d≠f/\i.d≠w)/\Sub G G'
 refine⟨Wv,⟨_,[⟨d,e,[S.1],[],0,0⟩],[],none,none,none,none,none,none,none,none,none,none,rfl,rfl,?_,?_,jJf,lJq _,?_,?_,?_⟩,?_⟩
 ·unfold wgt
  show 6^(S.2.length-0)+0<=1679616
  have:6^S.2.length<=6^8:=Nat.pow_le_pow_right (by decide) hSn
  rw[Nat.sub_zero];omega
 ·rw[jJk hwf.symm,jJk hef.symm,jJk hdf.symm,jJf];rfl
 ·rw[lVo];rfl
 ·intro i hi
  cases lJr.mp hi
  refine⟨⟨?_,?_,lJq _,kJr sb hm1 hm4⟩,hdf,hwd.symm⟩
  ·show gup _ w _ d=_
   rw[jJk hwd.symm,jJk hed.symm,jJf];rfl
  ·show gup _ w _ e=_
   rw[jJk hwe.symm,jJf]
 ·exact (((Sub.new hf).over hd0).over he0).over hw0
 intro m τ G1 h_;apply xe12 h_;clear h_;intro its us v5 v6 v7 v8 v9 v10 v11 v12 v13 v14 h_;apply ae8 h_;clear h_;intro hm hmm hf1 hw1' hul hsl hok s1
 wp_walk using 1,tSeq
 refine⟨lJq _,fun p hp=> ?_⟩
 have hpf:=jJg hf1 hp
 have hpw:=jJg hw1' hp
 refine⟨_,by rw[jJk hpw];exact hw1',?_⟩
 have sp:Sub G (gup G1 p (.lst [])):=s1.trans (.new hp)
 have hf2:gup G1 p (.lst []) f=some (.lst (us.map ew)):=by rw[jJk hpf];exact hf1
 have hw2':gup G1 p (.lst []) w=some (.lst (its.map It.t)):=by rw[jJk hpw];exact hw1'
 have hok2:∀i,i∈its->i.Ok S most (gup G1 p (.lst []))/\i.d≠f/\i.d≠w:=fun i hi=>by
  obtain⟨a,b⟩:=hok i hi
  refine⟨a.sub fun q o hq ho=> ?_,b⟩
  rw[jJk (jJg ho hp)];exact ho
 generalize gup G1 p (.lst [])=G2 at sp hf2 hw2' hok2 ⊢
 clear hok hw1' hf1 s1 hp hpf hpw G1
 rcases its.eq_nil_or_concat with rfl | ⟨its',it,hits⟩
 ·rw[lJb (by simp)]
  refine kk f G2 hf ?_ sp
  rw[hf2,<-hsl,List.flatMap_nil,List.reverse_nil,lKh,lK3 hul]
 rw[List.concat_eq_append] at hits
 subst hits
 rw[lJa (by simp)]
 have hml:(us.map ew).length=us.length:=lJf ..
 refine⟨us.length,by simp only[lenG,hf2,hml],decide ((us.length:Int)<=20),rfl,_,rfl,?_⟩
 by_cases hu:us.length<=20
 rotate_left
 ·rw[lJb (by simp only[lQh];omega)]
  refine kk f G2 hf ?_ sp
  rw[hf2,<-hsl,List.take_append_of_le_length (by omega),lK3 hul]
 rw[lJa (by simp only[lQh];omega)]
 let Nx:St3->Gp->Prop:=fun τ' G'=>∃m',m'<m/\Wv m' τ' G'
 refine⟨Nx,fun _ _ h=>h,?_⟩
 obtain⟨ok,itf,itw⟩:=hok2 it (by simp)
 have hwg:wgt S (its'++[it])=wgt S its'+6^(S.2.length-it.n):=by rw[kQn];unfold wgt;simp
 have nx:∀(ps:List It) (rs:List (List Nat×Kvs)) (G':Gp) (v5 v6 v7 v8 v9 v10 v11 v12 v13 v14:Option T),G' f=some (.lst ((us++rs).map ew))->G' w=some (.lst ((its'++ps).map It.t))->rs.length<=1->wgt S ps<6^(S.2.length-it.n)->rs++(ps.flatMap (It.sol S most)).reverse=(it.sol S most).reverse->(∀i,i∈ps->i.Ok S most G'/\i.d≠f/\i.d≠w)->(∀a o,a≠f->a≠w->G2 a=some o->G' a=some o)->Nx [some (.tup [.int S.1,.tup (S.2.map jJ0)]),some (.int most),some (.int 20),some (.ref f),some (.ref w),v5,v6,v7,v8,v9,v10,v11,v12,v13,v14] G':=by
  intro ps rs G' v5 v6 v7 v8 v9 v10 v11 v12 v13 v14 h1 h2 h3 h4 h5 h6 h7
  refine⟨wgt S (its'++ps),by rw[hm,hwg,kQn];omega,its'++ps,us++rs,v5,v6,v7,v8,v9,v10,v11,v12,v13,v14,rfl,rfl,by rw[hm,hwg] at hmm;rw[kQn];omega,h1,h2,by rw[lKd];omega,?_,fun i hi=> ?_,fun a o ha=> ?_⟩
  ·rw[<-hsl,lVn,lVn,List.reverse_append,List.reverse_append,lVo,<-h5,lVl,lVl]
  ·rcases (lJ1.mp hi) with hi | hi
   ·obtain⟨q,q1,q2⟩:=hok2 i (lK2 _ hi)
    refine⟨q.sub fun a o ha ho=>h7 a o ?_ ?_ ho,q1,q2⟩
    ·rcases ha with rfl | rfl
     ·exact q1
     ·intro z;rw[z,hf2] at ho;have:=q.he;rw[z,hf2] at this;cases this
    ·rcases ha with rfl | rfl
     ·exact q2
     ·intro z;have:=q.he;rw[z,hw2'] at this;cases this
   ·exact h6 i hi
  ·have ha2:=sp _ _ ha
   refine h7 a o (fun z=> ?_) (fun z=> ?_) ha2
   ·rw[z,hf] at ha;cases ha
   ·rw[z,hw0] at ha;cases ha
 rw[lJ4,lJn,List.map_nil] at hw2'
 wp_walk using 1,tBM0,qU6
 have hwf':w≠f:=hwf
 have hew:it.e≠w:=fun z=>by have:=ok.he;rw[z,hw2'] at this;cases this
 have hd3:gup G2 w (.lst (its'.map It.t)) it.d=some (.lst (jJj it.c)):=by rw[jJk itw];exact ok.hd
 have he3:gup G2 w (.lst (its'.map It.t)) it.e=some (.dct it.k):=by rw[jJk hew];exact ok.he
 have hf3:gup G2 w (.lst (its'.map It.t)) f=some (.lst (us.map ew)):=by rw[jJk hwf'.symm];exact hf2
 refine⟨by rw[jKi hw2'];trivial,its'.map It.t,it.t,hw2',[.ref it.d,.ref it.e,.int it.r,.int it.n],rfl,rfl,_,_,rfl,_,_,rfl,_,_,rfl,_,_,rfl,rfl,it.d,rfl,it.c.map (fun n:Nat=>(n:Int)),by rw[<-kZk];exact hd3,it.k.length,by simp only[lenG,he3],S.2.length,by simp[lenG],_,rfl,.inl ⟨by decide,by decide⟩,?_⟩
 have hw3:gup G2 w (.lst (its'.map It.t)) w=some (.lst (its'.map It.t)):=jJf
 have hk3:∀a o,a≠f->a≠w->G2 a=some o->gup G2 w (.lst (its'.map It.t)) a=some o:=fun a o _ h2 h=>by rw[jJk h2];exact h
 generalize gup G2 w (.lst (its'.map It.t))=G3 at hd3 he3 hf3 hw3 hk3 ⊢
 have hpos:0<6^(S.2.length-it.n):=Nat.pow_pos (by decide)
 have w0:wgt S []<6^(S.2.length-it.n):=hpos
 have skip:it.sol S most=[]->∀(v9 v10 v11 v12 v13 v14:Option T),Nx [some (.tup [.int S.1,.tup (S.2.map jJ0)]),some (.int most),some (.int 20),some (.ref f),some (.ref w),some (.ref it.d),some (.ref it.e),some (.int it.r),some (.int it.n),v9,v10,v11,v12,v13,v14] G3:=fun h v9 v10 v11 v12 v13 v14=>
  nx [] [] G3 _ _ _ _ v9 v10 v11 v12 v13 v14 (by rw[lKh];exact hf3) (by rw[lKh];exact hw3) (lJq _) w0 (by rw[h];rfl) (fun i hi=>absurd hi lJv) hk3
 have hdl:(S.2.drop it.n).length=S.2.length-it.n:=lVv ..
 have hn:=ok.hn
 rw[qJ6]
 by_cases hpr:it.k.length+2*(S.2.length-it.n)<it.c.sum
 ·rw[lJa (by omega)]
  exact skip (kVw (by rw[hdl];exact hpr)) _ _ _ _ _ _
 rw[lJb (by omega)]
 refine⟨S.2.length,by simp[lenG],_,jU1,_,rfl,?_⟩
 have hkl:=ok.pl.hd.le
 have hc4:=ok.pl.lc
 by_cases hend:it.n=S.2.length
 ·rw[lJa (lJs hend)]
  have hd0:S.2.drop it.n=[]:=by rw[hend];exact List.drop_length
  have hsum:it.c.sum=it.k.length:=by rw[hend] at hpr;omega
  have hit:it.sol S most=[(it.c,it.k)]:=by
   show sols most (S.2.drop it.n) it.c it.k it.r=_
   rw[hd0];exact lJa hsum
  have fu:Fu it.c it.k:=kJe (most:=most) (ss:=[]) (r:=it.r) (p:=(it.c,it.k)) (by rw[<-hd0];exact ok.pl) (by show _∈(if _ then _ else _);rw[lJa hsum];exact lJr.mpr rfl)
  refine⟨by rw[jKi hf3];trivial,it.c,it.d,it.e,it.k,rfl,hd3,he3,fu,fun G4 s4=>⟨us.map ew,s4 _ _ hf3,by rw[hml];omega,?_⟩⟩
  refine nx [] [(it.c,it.k)] _ _ _ _ _ _ _ _ _ _ _ (by rw[jJf,lJ4];rfl) (by rw[jJk hwf',lKh];exact s4 _ _ hw3) (lJe _) w0 ?_ (fun i hi=>absurd hi lJv) fun a o h1 h2 h=>by rw[jJk h1];exact s4 _ _ (hk3 a o h1 h2 h)
  rw[hit];rfl
 rw[lJb (by simpa using hend)]
 have hlt:it.n<S.2.length:=by omega
 have hst:S.2[it.n]? =some S.2[it.n]:=lJl hlt
 have hdrop:S.2.drop it.n=S.2[it.n]::S.2.drop (it.n+1):=List.drop_eq_getElem_cons hlt
 generalize S.2[it.n]=st at hst hdrop
 have hat:L2.atI (S.2.map jJ0) (it.n:Int)=some (.tup [.int st.1,.int st.2.1,.int st.2.2]):=by rw[atN,lJx,hst];rfl
 have hitok:it.sol S most=sols most (st::S.2.drop (it.n+1)) it.c it.k it.r:=by unfold It.sol;rw[hdrop]
 have pl:=ok.pl
 rw[hdrop] at pl
 have hrm:=ok.pl.rm
 have hir:ixR G3 (.ref it.d) (.int it.r)=some (.int (it.c.getD it.r 0:Nat)):=(jJ9 hd3).trans (at_c hrm)
 wp_walk using 1,hat,hir,jZ7
 have hdl2:(S.2.drop (it.n+1)).length+1=S.2.length-it.n:=by rw[lVv];omega
 have hcons:=kX6 (most:=most) (r:=it.r) (c:=it.c) (k:=it.k) (s:=st) (ss:=S.2.drop (it.n+1)) (by omega)
 have hnone:¬ (st.1<it.c.getD it.r 0/\st.2.1<st.2.2)->it.sol S most=[]:=fun h=>by
  rw[hitok];exact kX5 (by unfold nxtE;rw[lJb h])
 by_cases h1:st.1<it.c.getD it.r 0
 rotate_left
 ·rw[lJa (by omega)];exact skip (hnone fun z=>h1 z.1) _ _ _ _ _ _
 rw[lJb (by omega)]
 by_cases h2:st.2.1<st.2.2
 rotate_left
 ·rw[lJa (by omega)];exact skip (hnone fun z=>h2 z.2) _ _ _ _ _ _
 rw[lJb (by omega)]
 have hitl:its'.length<=1679616:=by
  have:=kXq (S:=S) its'
  rw[hm,hwg] at hmm;omega
 have hw6:6*6^(S.2.length-(it.n+1))=6^(S.2.length-it.n):=by
  rw[show S.2.length-it.n=(S.2.length-(it.n+1))+1 by omega,Nat.pow_succ];omega
 have hp6:0<6^(S.2.length-(it.n+1)):=Nat.pow_pos (by decide)
 refine⟨by omega,_,kJx (e:=(it.r,st.1)) he3,_,rfl,?_⟩
 cases hv:valT it.k (keyE (it.r,st.1)) with
 | some t=>
  obtain⟨v,rfl,_,hvc⟩:=pl.hd.val hv
  have hany:=hitok.trans hcons
  rw[qVm (most:=most) pl.hd h1 h2 hv] at hany
  rw[lJa (by simp)]
  refine⟨by omega,encE v,jXr he3 (ks:=keyE (it.r,st.1)) rfl hv,[.int v.1,.int v.2],rfl,rfl,_,_,rfl,_,_,rfl,rfl,_,jU1,_,rfl,?_⟩
  by_cases q1:v.2=st.2.1
  rotate_left
  ·rw[lJb (by simpa using q1)]
   exact skip (by rw[hany,lJb fun z=>q1 z.1];rfl) _ _ _ _ _ _
  rw[lJa (by simpa using q1)]
  refine⟨_,(jJ9 hd3).trans (at_c hvc.1),_,jU1,_,rfl,?_⟩
  by_cases q2:it.c.getD v.1 0=st.2.2
  rotate_left
  ·rw[lJb (by simpa using q2)]
   exact skip (by rw[hany,lJb fun z=>q2 z.2];rfl) _ _ _ _ _ _
  rw[lJa (by simpa using q2)]
  refine⟨by rw[jKi hw3];trivial,by omega,_,hw3,by rw[lJf];omega,?_⟩
  have hmem:v∈nxtE it.c it.k it.r st most:=by
   unfold nxtE jUp
   rw[lJa ⟨h1,h2⟩,hv]
   refine lKc.mpr ⟨lK2 _ (lJi.mpr ⟨v.1,lKc.mpr ⟨lJ2.mpr hvc.1,lJs q2⟩,Prod.ext rfl q1.symm⟩),by rw[kJ1];exact lJs rfl⟩
  have pn:=pl.next hmem
  have ecn:cn1 it.c st v=it.c:=by unfold cn1;rw[lJa hvc.1]
  have ekv:=pl.hd.old hv
  rw[ecn,ekv] at pn
  refine nx [⟨it.d,it.e,it.c,it.k,v.1,it.n+1⟩] [] _ _ _ _ _ _ _ _ _ _ _ (by rw[jJk hwf'.symm,lKh];exact hf3) ?_ (lJq _) ?_ ?_ ?_ fun a o a1 a2 h=>by rw[jJk a2];exact hk3 a o a1 a2 h
  ·rw[jJf,lJ4];rfl
  ·unfold wgt
   show 6^(S.2.length-(it.n+1))+0<_
   omega
  ·rw[hany,lJa ⟨q1,q2⟩,lVo,lVo]
   unfold nx1 It.sol
   rw[ecn,ekv];rfl
  ·intro i hi
   cases lJr.mp hi
   exact⟨⟨by show gup _ w _ it.d=_;rw[jJk itw];exact hd3,by show gup _ w _ it.e=_;rw[jJk hew];exact he3,hlt,pn⟩,itf,itw⟩
 | none=>
  rw[lJb (by simp)]
  refine⟨it.c.length,by simp[lenG,hd3,jJj],_,_,rfl,?_⟩
  generalize hB:(tSeq (tAsg (tCB jZr (jJc (tVar 6) tNil)) (jJh 14)) (tSeq (tAsg (tTup (jJc (tVar 12) (jJc (tVar 10) tNil))) (gSub (tVar 14) (tTup (jJc (tVar 7) (jJc (tVar 9) tNil))) jQ1)) (tSeq (tAsg (tTup (jJc (tVar 7) (jJc (tVar 9) tNil))) (gSub (tVar 14) (tTup (jJc (tVar 12) (jJc (tVar 10) tNil))) jQ1)) (jQc (tBM "list" jJ8 (tVar 4) (jJc (tTup (jJc (tOp jKm (tVar 5) (tOp jUn (tLst (jJc (tVar 11) tNil)) (tCB kUz (jJc (tOp rEqA (tVar 12) (tCB jQx (jJc (tVar 5) tNil))) tNil)))) (jJc (tVar 14) (jJc (tVar 12) (jJc (tOp jKm (tVar 8) (tC (.int 1))) tNil))))) tNil))))))=B
  obtain⟨M,hM,hM4,hM1,hM2⟩:∃M:Nat,(if (most:Int)<(it.c.length:Nat)+1 then (most:Int) else (it.c.length:Nat)+1)=(M:Int)/\M<=4/\(it.c.length<most->M=it.c.length+1)/\(it.c.length=most->M=it.c.length):=by
   split
   ·exact⟨most,rfl,hm4,by omega,by omega⟩
   ·exact⟨it.c.length+1,by omega,by omega,by omega,by omega⟩
  refine⟨(M:Int),by rw[hM],by omega,by omega,?_⟩
  rw[show ((M:Nat):Int).toNat=M by omega]
  have mem:=fun e=>qVn (most:=most) pl.hd h1 h2 hv (e:=e)
  obtain⟨Bf,hBf⟩:=qVl (most:=most) h1 h2 hv
  have hMr:rmM it.c most=M:=by
   unfold rmM
   have:=ok.pl.lc
   split
   ·exact (hM1 (by assumption)).symm
   ·exact (hM2 (by omega)).symm
  rw[hMr] at hBf
  have memB:∀i,i<M->((i,st.2.1)∈nxtE it.c it.k it.r st most↔Bf i=true):=fun i hi=>by
   rw[hBf,lJi]
   constructor
   ·rintro⟨x,hx,e⟩
    rw[<-(Prod.mk.inj e).1];exact (lKc.mp hx).2
   ·intro z
    exact⟨i,lKc.mpr ⟨lJ2.mpr hi,z⟩,rfl⟩
  generalize hg:nx1 most (S.2.drop (it.n+1)) st it.c it.k it.r=g at hcons
  let J1:Nat->St3->Gp->Prop:=fun i τ G'=>∃(ps:List It) (u12 u14:Option T),τ=[some (.tup [.int S.1,.tup (S.2.map jJ0)]),some (.int most),some (.int 20),some (.ref f),some (.ref w),some (.ref it.d),some (.ref it.e),some (.int it.r),some (.int it.n),some (.int st.1),some (.int st.2.1),some (.int st.2.2),u12,v13,u14]/\ps.length<=i/\(∀q,q∈ps->q.n=it.n+1)/\ps.flatMap (It.sol S most)=(((List.range i).filter Bf).map fun i=>(i,st.2.1)).flatMap g/\G' f=some (.lst (us.map ew))/\G' w=some (.lst ((its'++ps).map It.t))/\(∀q,q∈ps->q.Ok S most G'/\q.d≠f/\q.d≠w)/\G' it.d=some (.lst (jJj it.c))/\G' it.e=some (.dct it.k)/\∀a o,a≠f->a≠w->G2 a=some o->G' a=some o
  refine⟨J1,?_,?_,?_,?_⟩
  ·exact xi3 [] _ _ rfl ⟨lJq _,fun q hq=>absurd hq lJv,by simp,hf3,by rw[lKh];exact hw3,fun q hq=>absurd hq lJv,hd3,he3,hk3⟩
  ·intros;trivial
  ·intro i y τ G4 hy h_;apply xe3 h_;clear h_;intro ps u12 u14 h_;apply ae9 h_;clear h_;intro j1 j2 j3 j4 j5 j6 j7 j8 j9
   obtain⟨hi,rfl⟩:=jQq hy
   have split1:(((List.range (i+1)).filter Bf).map fun i=>(i,st.2.1)).flatMap g=(((List.range i).filter Bf).map fun i=>(i,st.2.1)).flatMap g++if Bf i=true then g (i,st.2.1) else []:=by
    rw[List.range_succ,List.filter_append,lJ4,lVn]
    congr 1
    by_cases z:Bf i=true
    ·rw[lJa z,lQe,lJa z]
     show g (i,st.2.1)++[]=_
     rw[lKh]
    ·rw[lJb z,lQe,lJb z];rfl
   have no:(i,st.2.1)∉nxtE it.c it.k it.r st most->J1 (i+1) [some (.tup [.int S.1,.tup (S.2.map jJ0)]),some (.int most),some (.int 20),some (.ref f),some (.ref w),some (.ref it.d),some (.ref it.e),some (.int it.r),some (.int it.n),some (.int st.1),some (.int st.2.1),some (.int st.2.2),some (.int i),v13,u14] G4:=fun hn=>by
    refine xi3 ps _ _ rfl ⟨by omega,j2,?_,j4,j5,j6,j7,j8,j9⟩
    rw[split1,<-j3,lJb (fun z=>hn ((memB i hi).mpr z)),lKh]
   have yes:(i,st.2.1)∈nxtE it.c it.k it.r st most->B {nx:=J1 (i+1),rt:=Q,bk:=Nx,ct:=J1 (i+1)} [some (.tup [.int S.1,.tup (S.2.map jJ0)]),some (.int most),some (.int 20),some (.ref f),some (.ref w),some (.ref it.d),some (.ref it.e),some (.int it.r),some (.int it.n),some (.int st.1),some (.int st.2.1),some (.int st.2.2),some (.int i),v13,u14] G4:=fun hmem=>by
    rw[<-hB]
    wp_walk using 1,jZr,rEqA,jQx,show lenG G4 (.ref it.d)=some it.c.length by simp[lenG,j7,jJj]
    have hkl2:it.k.length<=100:=by have:=pl.kl;omega
    have hpl2:=jU6 it.k (keyE (it.r,st.1)) (encE (i,st.2.1))
    refine⟨it.k,j8,pl.hd.small (by omega) pl.cs,fun q hq=>⟨by omega,by omega,_,jVs jJf (ks:=keyE (it.r,st.1)) rfl (by omega),by omega,by omega,_,jVs jJf (ks:=keyE (i,st.2.1)) rfl (by show (putT it.k (keyE (it.r,st.1)) (encE (i,st.2.1))).length<_;omega),?_⟩⟩
    have hk5:∀a o,G4 a=some o->gup (gup (gup G4 q (.dct it.k)) q (.dct (putT it.k (keyE (it.r,st.1)) (.tup [.int i,.int st.2.1])))) q (.dct (putT (putT it.k (keyE (it.r,st.1)) (.tup [.int i,.int st.2.1])) (keyE (i,st.2.1)) (.tup [.int it.r,.int st.1]))) a=some o:=fun a o h=>by
     have:=jJg h hq
     rw[jJk this,jJk this,jJk this];exact h
    have hq5:gup (gup (gup G4 q (.dct it.k)) q (.dct (putT it.k (keyE (it.r,st.1)) (.tup [.int i,.int st.2.1])))) q (.dct (putT (putT it.k (keyE (it.r,st.1)) (.tup [.int i,.int st.2.1])) (keyE (i,st.2.1)) (.tup [.int it.r,.int st.1]))) q=some (.dct (kv1 it.k (it.r,st.1) (i,st.2.1))):=jJf
    generalize gup (gup (gup G4 q (.dct it.k)) q (.dct (putT it.k (keyE (it.r,st.1)) (.tup [.int i,.int st.2.1])))) q (.dct (putT (putT it.k (keyE (it.r,st.1)) (.tup [.int i,.int st.2.1])) (keyE (i,st.2.1)) (.tup [.int it.r,.int st.1])))=G5 at hk5 hq5 ⊢
    refine⟨by rw[jKi (hk5 _ _ j5)];trivial,by omega,fun p hp=> ?_⟩
    have hdp:=jJg (hk5 _ _ j7) hp
    refine⟨it.c.length,by simp[lenG,jJk hdp,hk5 _ _ j7,jJj],_,jU1,?_⟩
    have fin:∀(ys:List T) (G6:Gp) (b:Addr),jJj it.c++ys=jJj (cn1 it.c st (i,st.2.1))->(∀a o,G5 a=some o->G6 a=some o)->G6 b=some (.lst ys)->ys.length<=1->∃r,addR G6 (.ref it.d) (.ref b)=some r/\fin3 r G6 fun x G1=>4<=sizeLine/\∃x_1,G1 w=some (.lst x_1)/\x_1.length<sizeLine/\J1 (i+1) [some (.tup [.int S.1,.tup (S.2.map jJ0)]),some (.int most),some (.int 20),some (.ref f),some (.ref w),some (.ref it.d),some (.ref it.e),some (.int it.r),some (.int it.n),some (.int st.1),some (.int st.2.1),some (.int st.2.2),some (.int i),v13,some (.ref q)] (gup G1 w (.lst (x_1++[.tup [x,.ref q,.int i,.int ((it.n:Nat)+1)]]))):=by
     intro ys G6 b hys hk6 hb hyl
     have hd6:=hk6 _ _ (hk5 _ _ j7)
     refine⟨_,qQy hd6 hb (by simp[jJj];omega),?_⟩
     rw[kJ0,hys]
     intro u hu
     have hk7:∀a o,G4 a=some o->gup G6 u (.lst (jJj (cn1 it.c st (i,st.2.1)))) a=some o:=fun a o h=>by
      have h6:=hk6 _ _ (hk5 _ _ h)
      rw[jJk (jJg h6 hu)];exact h6
     have hu4:G4 u=none:=by
      cases z:G4 u with
      | none=>rfl
      | some o=>have:=hk6 _ _ (hk5 _ _ z);rw[hu] at this;cases this
     have hqu:q≠u:=jJg (hk6 _ _ hq5) hu
     have huf:u≠f:=fun z=>by rw[z,j4] at hu4;cases hu4
     have huw:u≠w:=fun z=>by rw[z,j5] at hu4;cases hu4
     have hqw:q≠w:=fun z=>by rw[z,j5] at hq;cases hq
     refine⟨by omega,_,hk7 _ _ j5,by simp;omega,?_⟩
     have pn:=pl.next hmem
     have hk8:∀a o,a≠w->G4 a=some o->gup (gup G6 u (.lst (jJj (cn1 it.c st (i,st.2.1))))) w (.lst ((its'++ps).map It.t++[.tup [.ref u,.ref q,.int i,.int ((it.n:Nat)+1)]])) a=some o:=fun a o ha h=>by rw[jJk ha];exact hk7 a o h
     refine xi3 (ps++[⟨u,q,cn1 it.c st (i,st.2.1),kv1 it.k (it.r,st.1) (i,st.2.1),i,it.n+1⟩]) _ _ rfl ⟨by rw[lKd,lQt];omega,fun z hz=> ?_,?_,hk8 _ _ hwf'.symm j4,?_,fun z hz=> ?_,hk8 _ _ itw j7,hk8 _ _ hew j8,fun a o a1 a2 h=>hk8 a o a2 (j9 a o a1 a2 h)⟩
     ·rcases (lJ1.mp hz) with hz | hz
      ·exact j2 z hz
      ·cases lJr.mp hz;rfl
     ·rw[split1,<-j3,lVn,lJa ((memB i hi).mp hmem),lVo,<-hg];rfl
     ·rw[jJf,<-lVl,lJ4 (l₁:=its'++ps)];rfl
     ·rcases (lJ1.mp hz) with hz | hz
      ·obtain⟨z1,z2,z3⟩:=j6 z hz
       refine⟨z1.sub fun a o ha h=>hk8 a o ?_ h,z2,z3⟩
       rcases ha with rfl | rfl
       ·exact z3
       ·intro zz;rw[zz,j5] at h;have:=z1.he;rw[zz,j5] at this;cases this
      ·cases lJr.mp hz
       refine⟨⟨?_,?_,hlt,pn⟩,huf,huw⟩
       ·show gup _ w _ u=_
        rw[jJk huw,jJf]
       ·show gup _ w _ q=_
        rw[jJk hqw,jJk hqu];exact hk6 _ _ hq5
    have two:∀a o b ys,gup G5 p (.lst [.int st.2.2]) b=none->G5 a=some o->gup (gup G5 p (.lst [.int st.2.2])) b (.lst ys) a=some o:=fun a o b ys hb h=>by
     have h6:gup G5 p (.lst [.int st.2.2]) a=some o:=by rw[jJk (jJg h hp)];exact h
     rw[jJk (jJg h6 hb)];exact h6
    by_cases hl:i=it.c.length
    ·rw[lJs hl]
     refine⟨.newL [.int st.2.2],by simp[mulR,jJf,hs],?_⟩
     rw[kJ0]
     intro b hb
     exact fin [.int st.2.2] _ b (by unfold cn1;rw[lJb (by show ¬ i<_;omega)];simp[jJj]) (fun a o h=>two a o b _ hb h) jJf (lJe _)
    ·rw[lJu hl]
     refine⟨.newL [],by simp[mulR,jJf,hs],?_⟩
     rw[kJ0]
     intro b hb
     exact fin [] _ b (by unfold cn1;rw[lJa (by show i<_;omega),lKh]) (fun a o h=>two a o b _ hb h) jJf (lJq _)
   have hlc:lenG G4 (.ref it.d)=some it.c.length:=by simp[lenG,j7,jJj]
   wp_walk using 1,rEqA,jKx,jQx,hlc
   refine⟨_,jU1,?_⟩
   by_cases q0:i=it.c.length
   ·rw[lJa (lJs q0)]
    exact yes ((mem _).mpr ⟨rfl,.inr ⟨q0,by omega⟩⟩)
   rw[lJb (by simpa using q0)]
   have hil:i<it.c.length:=by omega
   refine⟨_,(jJ9 j7).trans (at_c hil),_,jU1,?_⟩
   by_cases q1:it.c.getD i 0=st.2.2
   rotate_left
   ·rw[lJb (by simpa using q1)]
    refine no fun z=> ?_
    rcases ((mem _).mp z).2 with ⟨_,b,_⟩ | ⟨a,_⟩
    ·exact q1 b
    ·exact q0 a
   rw[lJa (by simpa using q1)]
   refine⟨by omega,_,kJx (e:=(i,st.2.1)) j8,?_⟩
   cases hz:valT it.k (keyE (i,st.2.1)) with
   | none=>
    rw[lJa (by simp)]
    exact yes ((mem _).mpr ⟨rfl,.inl ⟨hil,q1,hz⟩⟩)
   | some t=>
    rw[lJb (by simp)]
    refine no fun z=> ?_
    rcases ((mem _).mp z).2 with ⟨_,_,b⟩ | ⟨a,_⟩
    ·rw[hz] at b;cases b
    ·exact q0 a
  ·intro τ G4 h_;apply xe3 h_;clear h_;intro ps u12 u14 h_;apply ae9 h_;clear h_;intro j1 j2 j3 j4 j5 j6 j7 j8 j9
   rw[jKv] at j1 j3
   refine nx ps [] G4 _ _ _ _ _ _ _ _ _ _ (by rw[lKh];exact j4) j5 (lJq _) ?_ ?_ j6 j9
   ·have:wgt S ps<=ps.length*6^(S.2.length-(it.n+1)):=by
     clear j3 j5 j6
     induction ps with
     | nil=>exact lJq _
     | cons q ps ih=>
      have h1:=ih (by rw[lKe] at j1;omega) (fun q hq=>j2 q (lJ3 _ hq))
      unfold wgt at h1 ⊢
      rw[lJn,List.sum_cons,lKe,Nat.succ_mul,j2 q (lJ7 ..)]
      omega
    have:ps.length*6^(S.2.length-(it.n+1))<=4*6^(S.2.length-(it.n+1)):=Nat.mul_le_mul_right _ (by omega)
    omega
   ·rw[j3,hitok,hcons,hBf];rfl
def PlN:Nat->T->Prop
 | 0,t=>(∃i,t= .int i)\/∃b,t= .bl b
 | n+1,t=>((∃i,t= .int i)\/∃b,t= .bl b)\/∃ts,t= .tup ts/\ts.length<=2000/\∀u,u∈ts->PlN n u
noncomputable def AL:Nat->Gp->T->T->Prop
 | 0,_,x,y=>x=y/\PlN 0 x
 | n+1,G,x,y=>(x=y/\PlN (n+1) x)\/∃(p q:Addr) (ts:List T),x= .ref p/\y= .ref q/\G p=some (.lst ts)/\G q=some (.lst ts)/\ts.length<=2000/\∀u,u∈ts->PlN n u
def jYl (n:Nat):Sp3:=fun xs G Q=>∃x y,xs=[x,y]/\AL n G x y/\∀G',Sub G G'->Q (.bl true) G'
section
variable (jYn:Sp3)
def jV8:List Str:=["_law_found","_law_due","_law_one","_law_other"]
noncomputable def jK2:TS3:=
 (tSeq (tIfS (jJt (tCB rIsi (jJc (tVar 1) (jJc (tTup (jJc (tC (.ty "list")) (jJc (tC (.ty "tuple")) tNil))) tNil)))) (tSeq (tIfS (tOr (tNot (jJt (tCB rIsi (jJc (tVar 0) (jJc (tTup (jJc (tC (.ty "list")) (jJc (tC (.ty "tuple")) tNil))) tNil))))) (jJt (tOp rNeA (tCB rIsi (jJc (tVar 0) (jJc (tC (.ty "list")) tNil))) (tCB rIsi (jJc (tVar 1) (jJc (tC (.ty "list")) tNil)))))) (tRet (tC (.bl false))) jKa)
 (tRet (jZi (tOp rEqA (tCB rLen (jJc (tVar 0) tNil)) (tCB rLen (jJc (tVar 1) tNil))) (tCB rAll (jJc (jKu [false,false,true,true] (qQi (jJc (tVar 0) (jJc (tVar 1) tNil))) (gTup 2 (jKd (jJh 2) (jKd (jJh 3) gNil))) jQw (jJx jYn (jJc (tVar 2) (jJc (tVar 3) tNil)))) tNil))))) jKa)
 (tSeq (tIfS (jJt (tOp rIsN (tVar 1) (tC .non))) (tRet (tOp rIsN (tVar 0) (tC .non))) jKa)
 (tRet (jZi (tCB rIsi (jJc (tVar 0) (jJc (tC (.ty "int")) tNil))) (jZi (tOp rEqA (tCB rIsi (jJc (tVar 0) (jJc (tC (.ty "bool")) tNil))) (tCB rIsi (jJc (tVar 1) (jJc (tC (.ty "bool")) tNil)))) (tOp rEqA (tVar 0) (tVar 1)))))))
end
theorem isi_ib {G:Gp} {i:Int}:isiT G (.int i) (.ty "bool")=some false:=rfl
theorem isi_il {G:Gp} {i:Int}:isiT G (.int i) (.tup [.ty "list",.ty "tuple"])=some false:=rfl
theorem isi_ii {G:Gp} {i:Int}:isiT G (.int i) (.ty "int")=some true:=rfl
theorem isi_bb {G:Gp} {i:Bool}:isiT G (.bl i) (.ty "bool")=some true:=rfl
theorem isi_bl {G:Gp} {i:Bool}:isiT G (.bl i) (.tup [.ty "list",.ty "tuple"])=some false:=rfl
theorem isi_bi {G:Gp} {i:Bool}:isiT G (.bl i) (.ty "int")=some true:=rfl
theorem qV4 {G:Gp} {ts:List T}:isiT G (.tup ts) (.tup [.ty "list",.ty "tuple"])=some true:=rfl
theorem isi_tl {G:Gp} {ts:List T}:isiT G (.tup ts) (.ty "list")=some false:=rfl
theorem kVh {G:Gp} {a:Bool}:eqG G (.bl a) (.bl a)=some true:=by
 rw[show eqG G (.bl a) (.bl a)=some (eqT (.bl a) (.bl a)) from rfl]
 simp[eqT]
theorem kJ2 {G:Gp} {a:Int}:eqG G (.int a) (.int a)=some true:=by
 rw[show eqG G (.int a) (.int a)=some (eqT (.int a) (.int a)) from rfl]
 simp[eqT]
theorem kZh {G:Gp} {p:Addr} {ts:List T} (h:G p=some (.lst ts)):isiT G (.ref p) (.tup [.ty "list",.ty "tuple"])=some true:=by simp only[isiT,jYh,h];rfl
theorem qUk {G:Gp} {p:Addr} {ts:List T} (h:G p=some (.lst ts)):isiT G (.ref p) (.ty "list")=some true:=by simp only[isiT,jYh,h];rfl
theorem jXw (sp:Sp3):∀xs G Q,jYl 0 xs G Q->jK2 sp {nx:=fun _ G'=>Q .non G',rt:=Q} (jKl jV8 xs) G:=by
 intro xs G Q h_;apply xe2 h_;clear h_;intro t t' h_;apply ae2 h_;clear h_;intro ht kk
 obtain⟨rfl,ht⟩:=ht
 show jK2 _ _ [some t,some t,none,none] G
 have hs:=sz
 rcases ht with ⟨i,rfl⟩ | ⟨i,rfl⟩
 ·wp_walk using 1,jK2,rIsi,rEqA,kJ2,kVh,isi_ib,isi_il,isi_ii
  exact⟨by omega,kk G (.refl _)⟩
 ·wp_walk using 1,jK2,rIsi,rEqA,kJ2,kVh,isi_bb,isi_bl,isi_bi
  exact⟨by omega,kk G (.refl _)⟩
theorem kUp {ts:List T}:zipT ts ts=ts.map fun t=>T.tup [t,t]:=by
 unfold zipT
 induction ts with
 | nil=>rfl
 | cons a as ih=>rw[lVy,lJn,ih];rfl
theorem al_in {n:Nat} {G:Gp} {u:T} (h:PlN n u):AL n G u u:=by
 cases n with
 | zero=>exact⟨rfl,h⟩
 | succ n=>exact .inl ⟨rfl,h⟩
theorem jUd (n:Nat):∀xs G Q,jYl (n+1) xs G Q->jK2 (jYl n) {nx:=fun _ G'=>Q .non G',rt:=Q} (jKl jV8 xs) G:=by
 intro xs G Q h_;apply xe2 h_;clear h_;intro x y h_;apply ae2 h_;clear h_;intro ht kk
 rcases ht with ⟨rfl,h | ⟨ts,rfl,hl,hts⟩⟩ | ⟨p,q,ts,rfl,rfl,hp,hq,hl,hts⟩
 ·exact jXw _ _ _ _ ⟨x,x,rfl,⟨rfl,h⟩,kk⟩
 ·rw[show jKl jV8 [.tup ts,.tup ts]=[some (.tup ts),some (.tup ts),none,none] from rfl]
  have hs:=sz
  wp_walk using 1,jK2,rIsi,rEqA,rNeA,qQi,qV4,isi_tl,kVh,kJ2
  refine⟨by omega,by omega,ts,ts,.inl ⟨rfl,rfl,?_⟩⟩
  rw[kUp]
  refine jK1 (fun _=>T.bl true) (by omega) (fun _ _=>trivial) ?_ ?_
  ·intro i t ht G' K K0 s hk
   wp_walk using 1,tSeq
   exact⟨t,t,rfl,al_in (hts t (lJz ht)),fun G4 s4=>hk G4 s4⟩
  ·intro D G' hD h1 h2
   refine⟨D,_,_,rfl,h1,jZd (f:=fun _=>true),?_⟩
   rw[lQu.mpr (fun _ _=>rfl)]
   exact kk G' h2
 ·rw[show jKl jV8 [.ref p,.ref q]=[some (.ref p),some (.ref q),none,none] from rfl]
  have hs:=sz
  have lp:∀G' a,Sub G G'->G a=some (.lst ts)->jK4 G' (.ref a)=some ts:=fun G' a s h=>by rw[show jK4 G' (.ref a)=asL (G' a) from rfl,s _ _ h];rfl
  wp_walk using 1,jK2,rIsi,rEqA,rNeA,qQi,kZh hp,kZh hq,qUk hp,qUk hq,kVh,kJ2,jJl hp,jJl hq
  refine⟨by omega,by omega,ts,ts,.inr ⟨lp G p (.refl _) hp,lp G q (.refl _) hq,?_⟩⟩
  rw[kUp]
  refine jK1 (fun _=>T.bl true) (by omega) (fun G' s=>⟨lp G' p s hp,lp G' q s hq⟩) ?_ ?_
  ·intro i t ht G' K K0 s hk
   wp_walk using 1,tSeq
   exact⟨t,t,rfl,al_in (hts t (lJz ht)),fun G4 s4=>hk G4 s4⟩
  ·intro D G' hD h1 h2
   refine⟨D,_,_,rfl,h1,jZd (f:=fun _=>true),?_⟩
   rw[lQu.mpr (fun _ _=>rfl)]
   exact kk G' h2
theorem pl_int {n:Nat} {i:Int}:PlN n (.int i):=by
 cases n with
 | zero=>exact .inl ⟨i,rfl⟩
 | succ n=>exact .inl (.inl ⟨i,rfl⟩)
abbrev jYn:Sp3:=jYl 4
theorem pl_web {W:Web} (f:Fine W):PlN 3 (encW W):=by
 refine .inr ⟨_,rfl,by have:=f.len;rw[lJf];omega,fun u hu=> ?_⟩
 obtain⟨es,hes,rfl⟩:=lJi.mp hu
 obtain⟨r,hr⟩:=lKj hes
 refine .inr ⟨_,rfl,by have:=f.row r es hr;rw[lJf];omega,fun u hu=> ?_⟩
 obtain⟨e,_,rfl⟩:=lJi.mp hu
 refine .inr ⟨_,rfl,by simp,fun u hu=> ?_⟩
 simp only[lJv,lJj,lKm] at hu
 rcases hu with rfl | rfl<;>exact pl_int
theorem kVm {G:Gp} {p q:Addr} {xs ys:List T} {Q:VK3} (h1:G p=some (.lst xs)) (h2:G q=some (.lst ys)) (hz:xs.length+ys.length<=sizeLine) (k:∀r,G r=none->Q (.ref r) (gup G r (.lst (xs++ys)))):∃r,addR G (.ref p) (.ref q)=some r/\fin3 r G Q:=
 ⟨.newL (xs++ys),by simp only[addR,h1,h2];rw[lJa hz],k⟩
def jUt:Sp3:=fun xs G Q=>∃a:Addr,xs=[.ref a,.int 3]/\G a=some (.exc "TooMany")/\∀G',Sub G G'->Q (.bl true) G'
def kUn:List Str:=["_law_error","_law_place","_law_fits_some"]
noncomputable def jUx:TS3:=
 (tSeq (tAsg (tLst (jJc (jYj [("TooMany",false)] (tVar 0)) (jJc (jYj [("TooMany",false)] (tVar 0)) (jJc (jYj [("TooMany",false)] (tVar 0)) tNil)))) (jJh 2))
 (tSeq (tAsg (tOp jKm (tVar 2) (tLst (jJc (jYj [("TooMany",true)] (tVar 0)) (jJc (jYj [("TooMany",false)] (tVar 0)) (jJc (jYj [("TooMany",false)] (tVar 0)) tNil))))) (jJh 2))
 (tSeq (tAsg (tOp jKm (tVar 2) (tLst (jJc (jYj [("TooMany",false)] (tVar 0)) (jJc (jYj [("TooMany",false)] (tVar 0)) tNil)))) (jJh 2))
 (tRet (jZi (jYj [("TooMany",true)] (tVar 0)) (jZi (tOp rEqA (tBM "list" qUe (tVar 2) (jJc (tC (.bl true)) tNil)) (tC (.int 1))) (tOp rIxF (tVar 2) (tVar 1))))))))
theorem jZk:RdOk jUt jUx kUn:=by
 intro xs G Q h_;apply xe1 h_;clear h_;intro a h_;apply ae2 h_;clear h_;intro ha kk
 show jUx _ [some (.ref a),some (.int 3),none] G
 have hs:=sz
 have mt:(("TooMany":Str),true)∈[(("TooMany":Str),true)]:=lJr.mpr rfl
 have mf:(("TooMany":Str),false)∈[(("TooMany":Str),false)]:=lJr.mpr rfl
 wp_walk using 1,jUx,jYj,rEqA,ha
 refine⟨_,rfl,false,mf,_,rfl,false,mf,_,rfl,false,mf,by omega,fun p hp=> ?_⟩
 have hap:a≠p:=jJg ha hp
 simp only[jJk hap,ha]
 refine⟨_,rfl,true,mt,_,rfl,false,mf,_,rfl,false,mf,by omega,fun q hq=> ?_⟩
 have hpq:p≠q:=jJg jJf hq
 have ha1:gup G p (GO.lst [T.bl false,T.bl false,T.bl false]) a=some (.exc "TooMany"):=by rw[jJk hap];exact ha
 have ha2:gup (gup G p (GO.lst [T.bl false,T.bl false,T.bl false])) q (GO.lst [T.bl true,T.bl false,T.bl false]) a=some (.exc "TooMany"):=by rw[jJk (jJg ha1 hq)];exact ha1
 have s2:Sub G (gup (gup G p (GO.lst [T.bl false,T.bl false,T.bl false])) q (GO.lst [T.bl true,T.bl false,T.bl false])):=(Sub.new hp).trans (.new hq)
 refine kVm (xs:=[.bl false,.bl false,.bl false]) (ys:=[.bl true,.bl false,.bl false]) (by rw[jJk hpq];exact jJf) jJf (by decide) fun r hr=> ?_
 generalize gup (gup G p (GO.lst [T.bl false,T.bl false,T.bl false])) q (GO.lst [T.bl true,T.bl false,T.bl false])=G2 at ha2 s2 hr ⊢
 have ha3:∀L,gup G2 r L a=some (.exc "TooMany"):=fun L=>by rw[jJk (jJg ha2 hr)];exact ha2
 refine⟨_,ha3 _,false,mf,_,ha3 _,false,mf,by omega,fun u hu=> ?_⟩
 have hru:r≠u:=jJg jJf hu
 have ha4:∀L,gup (gup G2 r (.lst ([.bl false,.bl false,.bl false]++[.bl true,.bl false,.bl false]))) u L a=some (.exc "TooMany"):=fun L=>by rw[jJk (jJg (ha3 _) hu)];exact ha3 _
 refine kVm (xs:=[.bl false,.bl false,.bl false,.bl true,.bl false,.bl false]) (ys:=[.bl false,.bl false]) (by rw[jJk hru];exact jJf) jJf (by decide) fun v hv=> ?_
 have s5:=((s2.trans (.new hr)).trans (.new hu)).trans (Sub.new (o:= .lst ([.bl false,.bl false,.bl false,.bl true,.bl false,.bl false]++[.bl false,.bl false])) hv)
 refine⟨_,by rw[jJk (jJg (ha4 _) hv)];exact ha4 _,true,mt,?_⟩
 generalize gup (gup G2 r (.lst ([.bl false,.bl false,.bl false]++[.bl true,.bl false,.bl false]))) u (.lst [.bl false,.bl false])=G5 at *
 rw[lJa rfl,kXs]
 refine⟨trivial,v,_,_,rfl,rfl,jJf,rfl,rfl,?_⟩
 refine⟨true,rfl,?_⟩
 rw[lJa rfl]
 refine⟨.bl true,(jJ9 jJf).trans rfl,kk _ s5⟩
theorem kQ9 {α β:Type} {f:α->β} (h:∀x y,f x=f y->x=y):∀ {a b:List α},a.map f=b.map f->a=b
 | [],[],_=>rfl
 | [],_::_,e=>by cases e
 | _::_,[],e=>by cases e
 | x::a,y::b,e=>by
  rw[lJn,lJn,lVz] at e
  rw[h x y e.1,kQ9 h e.2]
theorem kW_inj {V V':Web} (h:kW V=kW V'):V=V':=by
 have hk:keyW V=keyW V':=(Prod.mk.inj h).2
 have:=kXd (qVy V) (by rw[hk];exact qVy V')
 have ee:∀ {e e':Nat×Nat},encE e=encE e'->e=e':=fun z=>jY6 z
 have er:∀ {r r':List (Nat×Nat)},encR r=encR r'->r=r':=fun z=>kQ9 (fun _ _=>ee) (T.tup.inj z)
 exact kQ9 (fun _ _=>er) this
theorem up_one {Vs Ws:List Web} (h1:Up Vs) (h2:Up Ws) (p:Vs.Perm Ws):Vs=Ws:=by
 refine List.Perm.eq_of_pairwise (le:=fun x y=>ltP (kW y) (kW x)≠some true) (fun a b _ _ hab hba=> ?_) h1 h2 p
 refine Decidable.byContradiction fun ne=> ?_
 obtain⟨c,hc⟩:=lKq.mp (kU5 a b)
 have nk:pk (kW b)≠pk (kW a):=fun z=>ne (kW_inj (kYn z)).symm
 cases c with
 | true=>exact hba hc
 | false=>exact hab (kordP.neg (fun z=>nk z.symm) hc)
def jKz:Sp3:=fun xs G Q=>∃(S:jUi) (most:Nat),xs=[jUq S,.int most]/\SB S/\1<=most/\most<=4/\TBs G/\∀G',Sub G G'->Q (.bl true) G'
def qJp:List Str:=["_law_story_here","_law_most","_law_due","_law_turn","_law_caught","_law_found","_law_error"]
noncomputable def jXg:TS3:=
 (tSeq (tAsg (kKe pR 254 72 ((("_law_right":Str)++".<locals>.")++"<lambda>") (jJx jUu (jJc (tVar 0) (jJc (tVar 1) (jJc (tC (.int 20)) tNil))))) (jJh 2))
 (tSeq (tFor (jKp (jJc (tC (.int 2)) tNil)) (jJh 3) (tSeq (tAsg (tC .non) (jJh 4))
 (tSeq (tAsg (tC .non) (jJh 5))
 (tSeq (tTry 6 ["TooMany"] (qJ3 (qJ5 jU5 (jJc (tVar 0) (jJc (tVar 1) tNil))) 5) (tAsg (tVar 6) (jJh 4)))
 (tIfS (jJt (tOp rGt (tCB rLen (jJc (tVar 2) tNil)) (tC (.int 20)))) (tIfS (tOr (jJt (tOp rIsN (tVar 4) (tC .non))) (tNot (jJt (jJx jUt (jJc (tVar 4) (jJc (tC (.int 3)) tNil)))))) (tRet (tC (.bl false))) jKa) (tIfS (tOr (jJt (tOp rNotN (tVar 4) (tC .non))) (tNot (jJt (jJx jYn (jJc (tVar 5) (jJc (tVar 2) tNil)))))) (tRet (tC (.bl false))) (jQc (tBM "list" jJ8 (tVar 5) (jJc (tTup (jJc (tTup tNil) tNil)) tNil)))))))))
 (tRet (tC (.bl true)))))
theorem kKl:RdOk jKz jXg qJp:=by
 intro xs G Q h_;apply xe2 h_;clear h_;intro S most h_;apply ae5 h_;clear h_;intro sb m1 m4 tb kk
 show jXg _ [some (jUq S),some (.int most),none,none,none,none,none] G
 have hs:=sz
 wp_walk using 1,jXg,kKe,jKq,jKp,tTry,qJ3,qJ5
 refine⟨S,most,rfl,sb,m1,m4,fun q G1 hq hq1 s1=> ?_⟩
 have hWl:((((sol S most).reverse).take 21).map tw).length=min 21 (sol S most).length:=by rw[lJf,lKw,List.length_reverse]
 refine kKg (Ws:=(((sol S most).reverse).take 21).map tw) (s1 _ _ tb.2) (by rw[show jK4 G1 (.ref q)=asL (G1 q) from rfl,hq1,lJ0];rfl) (by omega) fun p Vs hp pV so=> ?_
 have hVl:Vs.length=min 21 (sol S most).length:=by rw[pV.length_eq,hWl]
 have hp1:gup G1 p (.lst (Vs.map encW)) p=some (.lst (Vs.map encW)):=jJf
 have s2:Sub G (gup G1 p (.lst (Vs.map encW))):=s1.trans (.new hp)
 have fnV:∀V,V∈Vs->Fine V:=fun V hV=>by
  obtain⟨x,hx,rfl⟩:=lJi.mp (pV.mem_iff.mp hV)
  have fu:=qUb sb m1 m4 (List.mem_reverse.mp (lV6 hx))
  have hl:=fu.twl
  refine⟨by rw[hl];have:=fu.c5;omega,fun r es hr=> ?_,fun r i s j he=> ?_⟩
  ·unfold tw tf at hr
   rw[lJx] at hr
   obtain⟨y,hy,rfl⟩:=lQl.mp hr
   rw[lJf]
   have hyl:y<x.1.length:=by have:=fu.order.lt y (lJz hy);rwa [jKo] at this
   obtain⟨es,hW,_,hel,_⟩:=fu.row hyl
   rw[jQz hW,hel]
   have:=fu.cx hyl;omega
  ·have rn:=tf_is fu.fine fu.order
   unfold tw tf at he
   unfold en at he
   rw[lJx] at he
   cases hy:(bfs (webC x.1 x.2) 0)[r]? with
   | none=>rw[hy] at he;cases he
   | some y=>
    rw[hy] at he
    have he':((row (webC x.1 x.2) y).map fun e=>((bfs (webC x.1 x.2) 0).idxOf e.1,e.2))[i]? =some (s,j):=he
    rw[lJx] at he'
    obtain⟨e,hee,e2⟩:=lQl.mp he'
    cases e2
    have hyl:y<x.1.length:=by have:=fu.order.lt y (lJz hy);rwa [jKo] at this
    obtain⟨es,hW,_,hel,hes⟩:=fu.row hyl
    rw[jQz hW] at hee
    obtain⟨hin,hval⟩:=hes i e hee
    have:=(fu.order.idx (by rw[jKo];exact (fu.rng hin hval).1)).2
    rw[hl];rwa [jKo] at this
 generalize gup G1 p (.lst (Vs.map encW))=G2 at hp1 s2 ⊢
 wp_walk using 1,tSeq
 refine⟨by decide,by decide,?_⟩
 let J1:Nat->St3->Gp->Prop:=fun i τ G'=>∃(v3 v4 v5 v6:Option T),τ=[some (jUq S),some (.int most),some (.ref p),v3,v4,v5,v6]/\G' p=some (.lst (Vs.map encW))/\Sub G G'
 refine⟨J1,?_,?_,?_,?_⟩
 ·exact xi4 _ _ _ _ rfl ⟨hp1,s2⟩
 ·intros;trivial
 ·intro i y τ G3 hy h_;apply xe4 h_;clear h_;intro v3 v4 v5 v6 h_;apply ae2 h_;clear h_;intro h1 h2
  wp_walk using 1,tTry,qJ3,qJ5
  refine⟨S,most,rfl,sb,m1,m4,tb.sub h2,fun hm G4 s4=> ?_,fun hm u G4 Ws hu hu4 pW sW s4=> ?_⟩
  ·wp_walk using 1,tSeq
   refine⟨lJr.mpr rfl,fun a ha=> ?_⟩
   have h5:gup G4 a (.exc "TooMany") p=some (.lst (Vs.map encW)):=by rw[jJk (jJg (s4 _ _ h1) ha)];exact s4 _ _ h1
   have s5:Sub G (gup G4 a (.exc "TooMany")):=(h2.trans s4).trans (.new ha)
   refine⟨_,jJl h5,?_⟩
   rw[lJf,hVl,lJa (by omega)]
   refine⟨a,rfl,jJf,fun G6 s6=>⟨true,rfl,?_⟩⟩
   rw[lJb (by decide)]
   exact xi4 _ _ _ _ rfl ⟨s6 _ _ h5,s5.trans s6⟩
  ·have h5:=s4 _ _ h1
   have eV:Ws=Vs:=up_one sW so (pW.trans (by
    refine List.Perm.trans ?_ pV.symm
    rw[lK3 (by rw[List.length_reverse];omega)]
    exact ((List.reverse_perm _).map tw).symm))
   subst eV
   wp_walk using 1,tSeq
   refine⟨_,jJl h5,?_⟩
   rw[lJf,hVl,lJb (by omega)]
   refine⟨.ref u,.ref p,rfl,.inr ⟨u,p,_,rfl,rfl,hu4,h5,by rw[lJf];omega,fun t ht=> ?_⟩,fun G6 s6=> ?_⟩
   ·obtain⟨V,hV,rfl⟩:=lJi.mp ht
    exact pl_web (fnV V hV)
   ·have hup:p≠u:=fun z=>by rw[z,hu] at h1;cases h1
    wp_walk using 1,tSeq
    have h6:=s6 _ _ hu4
    have h7:=s6 _ _ h5
    rw[jKi h6]
    refine⟨trivial,by omega,by omega,_,h6,by rw[lJf];omega,?_⟩
    exact xi4 _ _ _ _ rfl ⟨by rw[jJk hup];exact h7,((h2.trans s4).trans s6).over (h2.none hu)⟩
 ·intro τ G3 h_;apply xe4 h_;clear h_;intro v3 v4 v5 v6 h_;apply ae2 h_;clear h_;intro h1 h2
  wp_walk using 1,tSeq
  exact kk G3 h2
theorem qQv {mask:List Bool} {g:TG3} {tif:TT3} {te:TE3} {τ:St3} {xs:List T} {stay:Gp->Prop} {G:Gp} {Q:VK3} {b:Addr} {n0 k:Nat} (Pr:T->Prop) (hb:BoxAt G b n0) (hz:xs.length<=sizeLine) (hst:∀G',stay G')
  (h:∀(i:Nat) x,xs[i]? =some x->∀G' (K:T->Gp->Prop) (K0:Gp->Prop),BoxAt G' b (n0+k*i)->Keep b G G'->(∀t G4,Pr t->BoxAt G4 b (n0+k*(i+1))->Keep b G' G4->K t G4)->g x (msk mask τ) G' fun τ2 G2=>tif τ2 G2 fun b G3=>if b=true then te τ2 G3 K else K0 G3)
  (hq:∀D ts G',G D=none->G' D=some (.lst ts)->ts.length=xs.length->(∀t,t∈ts->Pr t)->BoxAt G' b (n0+k*xs.length)->Keep b G G'->Q (.ref D) G'):jU2 mask g tif te τ xs stay G Q:=by
 intro D hD
 obtain⟨bo,hbo⟩:=hb.some
 have hbD:=jJg hbo hD
 refine⟨fun i acc G'=>acc.length=i/\(∀t,t∈acc->Pr t)/\BoxAt G' b (n0+k*i)/\Keep b G G'/\G' D=some (.lst acc),?_,?_,?_,?_⟩
 ·exact⟨rfl,fun t z=>by simp at z,(hb.gup hbD).mono (by omega),.new hD,jJf⟩
 ·rintro i acc G' hi ⟨j1,j2,j3,j4,j5⟩
  exact⟨hst G',j5⟩
 ·rintro i x acc G3 hx ⟨j1,j2,j3,j4,j5⟩
  have hi:i<xs.length:=(lJh.mp hx).1
  refine h i x hx G3 _ _ j3 j4 fun t G4 hp b4 kp=> ?_
  refine⟨kp _ _ hbD.symm j5,by omega,by simp[j1],?_,b4.gup hbD,(j4.trans kp).over hD,jJf⟩
  intro u hu
  rcases (lJ1.mp hu) with hu | hu
  ·exact j2 u hu
  ·rw[lJr.mp hu];exact hp
 ·rintro acc G3 ⟨j1,j2,j3,j4,j5⟩
  exact hq D acc G3 hD j5 j1 j2 (j1▸j3) j4
def jXc:Sp3:=fun xs G Q=>∃(b:Addr) (n:Nat),xs=[.ref b]/\BoxAt G b n/\n+1000<2^40/\∀S G',SB S->BoxAt G' b (n+300)->Keep b G G'->Q (jUq S) G'
def qJq:List Str:=["_law_box_here","_law_way_here","_law_pairs","_law_many","_law_doors","_law_path","_law_size","_law_web_here","_law_room","_law_k"]
noncomputable def jXh:TS3:=
 (tSeq (tAsg (jJx jJm (jJc (tVar 0) (jJc (tC (.int 6)) tNil))) (jJh 1))
 (tSeq (tIfS (jJt (tOp rEqA (tVar 1) (tC (.int 0)))) (tSeq (tAsg (tOp jKm (tC (.int 1)) (jJx jJm (jJc (tVar 0) (jJc (tC (.int 3)) tNil)))) (jJh 2))
 (tSeq (tAsg (tOp rIxF (tLst (jJc (jJx jJm (jJc (tVar 0) (jJc (tC (.int 9)) tNil))) (jJc (tC (.int 8)) (jJc (tC (.int 8)) tNil)))) (jJx jJm (jJc (tVar 0) (jJc (tC (.int 3)) tNil)))) (jJh 3))
 (tRet (tTup (jJc (tOp jUn (tC (.int 2)) (tVar 2)) (jJc (tCB jJz (jJc (jKu [false,false,false,false,false,false,false,false,false,true] (jKp (jJc (tVar 3) tNil)) (jJh 9) jQw (tTup (jJc (tOp jUn (tC (.int 2)) (tOp rMod (tVar 9) (tVar 2))) (jJc (tOp jKm (tOp jUn (tC (.int 2)) (tOp rMod (tVar 9) (tVar 2))) (tC (.int 1))) (jJc (tOp jUn (tC (.int 2)) (tVar 2)) tNil))))) tNil)) tNil)))))) jKa)
 (tSeq (tIfS (jJt (tOp rEqA (tVar 1) (tC (.int 1)))) (tSeq (tAsg (tOp jKm (tC (.int 1)) (jJx jJm (jJc (tVar 0) (jJc (tC (.int 3)) tNil)))) (jJh 4))
 (tSeq (tAsg (jKu [false,false,false,false,false,false,false,false,false,true] (jKp (jJc (jJx jJm (jJc (tVar 0) (jJc (tC (.int 7)) tNil))) tNil)) (jJh 9) jQw (tTup (jJc (jJx jJm (jJc (tVar 0) (jJc (tVar 4) tNil))) (jJc (jJx jJm (jJc (tVar 0) (jJc (tVar 4) tNil))) (jJc (tVar 4) tNil))))) (jJh 5))
 (tRet (tTup (jJc (tVar 4) (jJc (tCB jJz (jJc (tVar 5) tNil)) tNil)))))) jKa)
 (tSeq (tAsg (tOp jKm (tC (.int 1)) (jJx jJm (jJc (tVar 0) (jJc (tC (.int 4)) tNil)))) (jJh 6))
 (tSeq (tAsg (jJx kJb (jJc (tVar 0) (jJc (tVar 6) (jJc (jJx jJm (jJc (tVar 0) (jJc (tC (.int 3)) tNil))) tNil)))) (jJh 7))
 (tSeq (tAsg (jJx jJm (jJc (tVar 0) (jJc (tVar 6) tNil))) (jJh 8))
 (tRet (jJx jXb (jJc (tVar 7) (jJc (tVar 8) (jJc (jJx kJc (jJc (tVar 0) (jJc (tVar 7) (jJc (tVar 8) (jJc (tOp rIxF (tLst (jJc (tC (.int 2)) (jJc (tC (.int 4)) (jJc (tC (.int 6)) (jJc (tC (.int 8)) tNil))))) (jJx jJm (jJc (tVar 0) (jJc (tC (.int 4)) tNil)))) tNil))))) tNil)))))))))))
theorem kKm:RdOk jXc jXh qJq:=by
 intro xs G Q h_;apply xe2 h_;clear h_;intro b n h_;apply ae3 h_;clear h_;intro bx hn kk
 show jXh _ [some (.ref b),none,none,none,none,none,none,none,none,none] G
 have hs:=sz
 wp_walk using 1,jXh,rEqA,jKp
 refine⟨b,6,n,rfl,bx,by omega,by decide,by decide,fun w G1 w0 w1 b1 k1=>⟨_,jY5,?_⟩⟩
 split
 ·refine⟨b,3,n+1,rfl,b1,by omega,by decide,by decide,fun p G2 p0 p1 b2 k2=> ?_⟩
  wp_walk using 1,tSeq
  refine⟨b,9,n+2,rfl,b2,by omega,by decide,by decide,fun a G3 a0 a1 b3 k3=> ?_⟩
  refine⟨by omega,fun l hl=> ?_⟩
  obtain⟨bo3,hbo3⟩:=b3.some
  have hbl:=jJg hbo3 hl
  refine⟨b,3,n+3,rfl,b3.gup hbl,by omega,by decide,by decide,fun c G4 c0 c1 b4 k4=> ?_⟩
  have hl4:=k4 _ _ hbl.symm jJf
  obtain⟨k,hk,hk8⟩:∃k:Nat,ixR G4 (.ref l) (.int c)=some (.int (k:Nat))/\k<=8:=by
   rw[jJ9 hl4]
   rcases (by omega:c=0\/c=1\/c=2) with rfl | rfl | rfl
   ·obtain⟨a,rfl⟩:=lK4 a0
    exact⟨a,rfl,by omega⟩
   ·exact⟨8,rfl,by decide⟩
   ·exact⟨8,rfl,by decide⟩
  obtain⟨p,rfl⟩:=lK4 p0
  refine⟨_,hk,.inl ⟨by decide,by decide⟩,_,rfl,by omega,by omega,?_⟩
  rw[show (((k:Nat):Int)).toNat=k by omega,jUb]
  refine jK1 (es:=List.range k) (enc:=fun x:Nat=>T.int x) (fun x=>jJ0 (2*(x%(1+p)),2*(x%(1+p))+1,2*(1+p))) (by rw[lKr];omega) (fun _ _=>trivial) ?_ ?_
  ·intro i x hx G5 K K0 s5 hK
   have e1:((x:Nat):Int)%(1+(p:Nat))=((x%(1+p):Nat):Int):=by
    rw[show (1:Int)+(p:Nat)=((1+p:Nat):Int) by omega];omega
   have:=hK G5 (.refl _)
   have e2:jJ0 (2*(x%(1+p)),2*(x%(1+p))+1,2*(1+p))=T.tup [.int (2*((x%(1+p):Nat):Int)),.int (2*((x%(1+p):Nat):Int)+1),.int (2*(1+(p:Nat)))]:=by
    unfold jJ0;simp
   rw[e2] at this
   wp_walk using 1,jUn,mulC,kU3,kUe
   simp only[e1]
   exact⟨by omega,.inl ⟨by decide,by decide⟩,by omega,.inl ⟨by decide,by decide⟩,.inl ⟨by decide,by decide⟩,by omega,this⟩
  ·intro D G5 hD hD5 s5
   refine⟨_,jJl hD5,by omega,?_⟩
   have:=kk (2*(1+p),(List.range k).map fun x=>(2*(x%(1+p)),2*(x%(1+p))+1,2*(1+p))) G5 ⟨by show 2*(1+p)<=11;omega,by simp;omega,fun x hx=>by obtain⟨y,_,rfl⟩:=lJi.mp hx;show 2*(1+p)<=11;omega⟩ ((b4.sub s5).mono (by omega)) (((((k1.trans k2).trans k3).trans (.new hl)).trans k4).trans (.sub s5))
   rw[jUq,lJ0] at this
   rw[show (2:Int)*(1+(p:Nat))=((2*(1+p):Nat):Int) by omega]
   exact this
 ·refine⟨_,jY5,?_⟩
  split
  ·refine⟨b,3,n+1,rfl,b1,by omega,by decide,by decide,fun p G2 p0 p1 b2 k2=> ?_⟩
   wp_walk using 1,tSeq
   refine⟨b,7,n+2,rfl,b2,by omega,by decide,by decide,fun a G3 a0 a1 b3 k3=> ?_⟩
   refine⟨a,rfl,by omega,by omega,?_⟩
   obtain⟨p,rfl⟩:=lK4 p0
   obtain⟨a,rfl⟩:=lK4 a0
   rw[show (((a:Nat):Int)).toNat=a by omega]
   refine qQv (k:=2) (fun t=>∃s:Stp,t=jJ0 s/\s.2.2<=11) b3 (by rw[jKv];omega) (fun _=>trivial) ?_ ?_
   ·intro i x hx G4 K K0 b4 k4 hK
    obtain⟨hi,rfl⟩:=jQq hx
    wp_walk using 1,tSeq
    refine⟨b,_,_,rfl,b4,by omega,by omega,by omega,fun c G5 c0 c1 b5 k5=> ?_⟩
    obtain⟨c,rfl⟩:=lK4 c0
    refine⟨b,_,_,rfl,b5,by omega,by omega,by omega,fun e G6 e0 e1 b6 k6=>⟨by omega,?_⟩⟩
    obtain⟨e,rfl⟩:=lK4 e0
    refine hK _ G6 ⟨(c,e,1+p),by unfold jJ0;simp,by show 1+p<=11;omega⟩ (b6.mono (by omega)) (k5.trans k6)
   ·intro D ts G4 hD hD4 hlen hts b4 k4
    rw[jKv] at hlen b4
    obtain⟨ss,rfl,hss⟩:=kJs (enc:=jJ0) ts (fun _ s=>s.2.2<=11) fun i t ht=>by
     obtain⟨s,h1,h2⟩:=hts t (lJz ht)
     exact⟨s,h1,h2⟩
    rw[lJf] at hlen
    refine⟨_,jJl hD4,by omega,?_⟩
    have:=kk (1+p,ss) G4 ⟨by show 1+p<=11;omega,by show ss.length<=8;omega,fun x hx=>by obtain⟨i,hi⟩:=lKj hx;exact hss i x hi⟩ (b4.mono (by omega)) (((k1.trans k2).trans k3).trans k4)
    rw[jUq] at this
    rw[show (1:Int)+(p:Nat)=((1+p:Nat):Int) by omega]
    exact this
  ·refine⟨b,4,n+1,rfl,b1,by omega,by decide,by decide,fun a G2 a0 a1 b2 k2=> ?_⟩
   wp_walk using 1,tSeq
   refine⟨b,3,n+2,rfl,b2,by omega,by decide,by decide,fun mo G3 m0 m1 b3 k3=> ?_⟩
   obtain⟨m,rfl⟩:=lK4 m0
   obtain⟨a,rfl⟩:=lK4 a0
   refine⟨b,1+a,m,n+3,by simp,b3,by omega,by omega,by omega,by omega,fun W G4 fW sym rows hW b4 k4=> ?_⟩
   refine⟨b,_,_,rfl,b4,by omega,by omega,by omega,fun r G5 r0 r1 b5 k5=> ?_⟩
   obtain⟨r,rfl⟩:=lK4 r0
   refine⟨by omega,fun l hl=> ?_⟩
   obtain⟨bo5,hbo5⟩:=b5.some
   have hbl:=jJg hbo5 hl
   refine⟨b,4,_,rfl,b5.gup hbl,by omega,by decide,by decide,fun c G6 c0 c1 b6 k6=> ?_⟩
   have hl6:=k6 _ _ hbl.symm jJf
   obtain⟨k,hk,hk8⟩:∃k:Nat,ixR G6 (.ref l) (.int c)=some (.int (k:Nat))/\k<=8:=by
    rw[jJ9 hl6]
    rcases (by omega:c=0\/c=1\/c=2\/c=3) with rfl | rfl | rfl | rfl
    ·exact⟨2,rfl,by decide⟩
    ·exact⟨4,rfl,by decide⟩
    ·exact⟨6,rfl,by decide⟩
    ·exact⟨8,rfl,by decide⟩
   refine⟨_,hk,b,W,r,k,_,rfl,b6,by omega,fW,by omega,by omega,fun ds es G7 hgo hdl b7 k7=> ?_⟩
   refine⟨W,r,ds,es,rfl,fW,by omega,by omega,hgo,fun G8 s8=> ?_⟩
   have hrow:∀x,dg W x<=10:=fun x=>by
    unfold dg
    cases z:W[x]? with
    | none=>exact lJq _
    | some es=>have:=rows x es z;show es.length<=10;omega
   refine kk _ G8 ⟨by show dg W r<=11;have:=hrow r;omega,by have:=jYk (W:=W) (ds:=ds) (es:=es);show (jUr W ds es).length<=8;omega,fun x hx=> ?_⟩ ((b7.sub s8).mono (by omega)) (((((((k1.trans k2).trans k3).trans k4).trans k5).trans (.new hl)).trans k6).trans (k7.trans (.sub s8)))
   obtain⟨y,_,rfl⟩:=lJi.mp hx
   show dg W y.2.1<=11
   have:=hrow y.2.1
   omega
theorem TBs.keep {b:Addr} {n:Nat} {G G':Gp} (h:TBs G) (bx:BoxAt G b n) (k:Keep b G G'):TBs G':=by
 obtain⟨x,y,z,e,_⟩:=bx
 refine⟨k _ _ (fun q=> ?_) h.1,k _ _ (fun q=> ?_) h.2⟩
 ·rw[<-q,h.1] at e;cases e
 ·rw[<-q,h.2] at e;cases e
def stC (c:Nat):Stp:=if c=97 then (0,1,4) else if c=98 then (2,3,4) else (3,2,4)
def stW (w:Str):jUi:=(4,w.cps.toList.map stC)
theorem sb_w {w:Str} (h:w.cps.toList.length<=8):SB (stW w):=⟨by show 4<=11;decide,by show (w.cps.toList.map stC).length<=8;rw[lJf];exact h,fun x hx=>by
 obtain⟨c,_,rfl⟩:=lJi.mp hx
 unfold stC
 split
 ·show 4<=11;decide
 ·split
  ·show 4<=11;decide
  ·show 4<=11;decide⟩
noncomputable def wds:List (L2.Key×T):=putT (putT (putT [] (.inr (PySem.Str.ofString "a")) (.tup [.int 0,.int 1,.int 4])) (.inr (PySem.Str.ofString "b")) (.tup [.int 2,.int 3,.int 4])) (.inr (PySem.Str.ofString "c")) (.tup [.int 3,.int 2,.int 4])
theorem wds_at {c:Nat} (h:c=97\/c=98\/c=99):valT wds (.inr ⟨#[c]⟩)=some (jJ0 (stC c)):=by
 rcases h with rfl | rfl | rfl<;>rfl
theorem kVx {G:Gp} {d:Addr} {w:Str} {τ:St3} {Q:VK3} (hd:G d=some (.dck wds)) (hw:∀c,c∈w.cps.toList->c=97\/c=98\/c=99) (hl:w.cps.toList.length<=8)
  (hτ:∃a b c e,τ=[a,b,c,some (.ref d),e,none])
  (k:∀D G',G D=none->G' D=some (.lst ((stW w).2.map jJ0))->Sub G G'->Q (.ref D) G'):
  jU2 [false,false,false,false,false,true] (jJh 5) jQw (tOp rIxF (tVar 3) (tVar 5)) τ (kQt w) (fun _=>True) G Q:=by
 obtain⟨a,b,c,e,rfl⟩:=hτ
 have hs:=sz
 refine jK1 (es:=w.cps.toList) (enc:=fun c=> .str ⟨#[c]⟩) (fun c=>jJ0 (stC c)) (by omega) (fun _ _=>trivial) ?_ ?_
 ·intro i c hc G2 K K0 s2 hK
  have hv:=wds_at (hw c (lJz hc))
  have hix:ixR G2 (.ref d) (.str ⟨#[c]⟩)=some (jJ0 (stC c)):=by
   unfold ixR
   simp only[seqT,s2 _ _ hd,asL,dAt]
   exact hv
  wp_walk using 1,hix
  exact hK G2 (.refl _)
 ·intro D G2 hD hD2 s2
  refine k D G2 hD ?_ s2
  rw[hD2];unfold stW;rw[lJ0];rfl
def kX3:Sp3:=fun xs G Q=>∃ns:List Int,xs=[.scr (jQf ns)]/\ns.length<=63/\TBs G/\∀G',Q (.bl true) G'
def N_law:List Str:=["_law_script","_law_box_here","_law_story_here","_law_ways","_law_word","_law_sign"]
noncomputable def kUy:TS3:=
 (tSeq (tFor (iSeq (jJx jXd (jJc (tVar 0) (jJc (tC (.int 5)) tNil)))) (jJh 1) (tSeq (tAsg (jJx jXc (jJc (tVar 1) tNil)) (jJh 2))
 (tSeq (tIfS (jJt (tOp rEqA (jJx jJm (jJc (tVar 1) (jJc (tC (.int 4)) tNil))) (tC (.int 0)))) (tAsg (jJx jYo (jJc (tVar 1) (jJc (tVar 2) tNil))) (jJh 2)) jKa)
 (tIfS (tNot (jJt (jJx jKz (jJc (tVar 2) (jJc (tOp jKm (tC (.int 1)) (jJx jJm (jJc (tVar 1) (jJc (tC (.int 4)) tNil)))) tNil))))) (tRet (tC (.bl false))) jKa))))
 (tSeq (tAsg (kX0 (tC (.str (PySem.Str.ofString "a"))) (tTup (jJc (tC (.int 0)) (jJc (tC (.int 1)) (jJc (tC (.int 4)) tNil)))) (tC (.str (PySem.Str.ofString "b"))) (tTup (jJc (tC (.int 2)) (jJc (tC (.int 3)) (jJc (tC (.int 4)) tNil)))) (tC (.str (PySem.Str.ofString "c"))) (tTup (jJc (tC (.int 3)) (jJc (tC (.int 2)) (jJc (tC (.int 4)) tNil))))) (jJh 3))
 (tSeq (tFor (iSeq (tTup (jJc (tC (.str (PySem.Str.ofString "aababacc"))) (jJc (tC (.str (PySem.Str.ofString "aabbbaab"))) tNil)))) (jJh 4) (tIfS (tNot (jJt (jJx jKz (jJc (tTup (jJc (tC (.int 4)) (jJc (tCB jJz (jJc (jKu [false,false,false,false,false,true] (iTxt (tVar 4)) (jJh 5) jQw (tOp rIxF (tVar 3) (tVar 5))) tNil)) tNil))) (jJc (tC (.int 4)) tNil))))) (tRet (tC (.bl false))) jKa))
 (tRet (jZi (jJx jKz (jJc (tTup (jJc (tC (.int 0)) (jJc (tTup tNil) tNil))) (jJc (tC (.int 1)) tNil))) (jJx jKz (jJc (tTup (jJc (tC (.int 1)) (jJc (tTup tNil) tNil))) (jJc (tC (.int 4)) tNil))))))))
theorem qKh:RdOk kX3 kUy N_law:=by
 intro xs G Q h_;apply xe1 h_;clear h_;intro ns h_;apply ae3 h_;clear h_;intro hns tb kk
 show kUy _ [some (.scr (jQf ns)),none,none,none,none,none] G
 have hs:=sz
 wp_walk using 1,kUy,jKq,iSeq,kX0,iTxt
 refine⟨ns,rfl,hns,fun D rs G1 hD hD1 hl hnd hbx s1=>⟨_,jJl hD1,?_⟩⟩
 rw[lKp] at hnd
 let J1:Nat->St3->Gp->Prop:=fun i τ G'=>∃(v1 v2:Option T),τ=[some (.scr (jQf ns)),v1,v2,none,none,none]/\G' D=some (.lst (rs.map T.ref))/\TBs G'/\∀(j:Nat) (r:Addr),i<=j->rs[j]? =some r->BoxAt G' r 0
 refine⟨J1,?_,?_,?_,?_⟩
 ·exact xi2 _ _ rfl ⟨hD1,tb.sub s1,fun j r _ hj=>hbx r (lJz hj)⟩
 ·intro i τ G' hi h_;apply xe2 h_;clear h_;intro v1 v2 h_;apply ae3 h_;clear h_;intro h1 h2 h3
  exact jJl h1
 ·intro i y τ G2 hy h_;apply xe2 h_;clear h_;intro v1 v2 h_;apply ae3 h_;clear h_;intro h1 tb2 h2
  obtain⟨b,hbi,rfl⟩:=jKt hy
  have hb2:=h2 i b (lJe _) hbi
  have hbm:=lJz hbi
  have hbD:b≠D:=fun e=>hnd.1 (e▸hbm)
  wp_walk using 1,rEqA
  refine⟨b,0,rfl,hb2,by decide,fun S G3 sb b3 k3=> ?_⟩
  refine⟨b,4,300,rfl,b3.mono (by omega),by decide,by decide,by decide,fun z G4 z0 z1 b4 k4=>⟨_,jY5,?_⟩⟩
  have fin:∀(S:jUi) (G5:Gp),SB S->BoxAt G5 b 400->Keep b G2 G5->jJm [.ref b,.int 4] G5 fun x G1=>∃r,addR G1 (.int 1) x=some r/\fin3 r G1 fun x_1 G1=>jKz [jUq S,x_1] G1 fun x G1=>∃c,x= .bl c/\if c=false then Q (.bl false) G1 else J1 (i+1) [some (.scr (jQf ns)),some (.ref b),some (jUq S),none,none,none] G1:=by
   intro S G5 sb b5 k5
   refine⟨b,4,400,rfl,b5,by decide,by decide,by decide,fun r G6 r0 r1 b6 k6=> ?_⟩
   obtain⟨r,rfl⟩:=lK4 r0
   have K6:Keep b G2 G6:=k5.trans k6
   refine⟨_,rfl,?_⟩
   have tb6:=tb2.keep hb2 K6
   refine⟨S,1+r,by rw[show (1:Int)+(r:Nat)=((1+r:Nat):Int) by omega],sb,by omega,by omega,tb6,fun G8 s8=>⟨true,rfl,?_⟩⟩
   rw[lJb (by decide)]
   have K9:Keep b G2 G8:=K6.trans (.sub s8)
   refine xi2 _ _ rfl ⟨K9 _ _ hbD.symm h1,tb6.sub s8,fun j r' hj hr'=> ?_⟩
   have hne:r'≠b:=fun e=>by
    subst e
    have hjl:j<rs.length:=(lJh.mp hr').1
    have:=(lQy hjl hnd.2).mp (hr'.trans hbi.symm)
    omega
   obtain⟨x,y,z,e1,e2⟩:=h2 j r' (by omega) hr'
   exact⟨x,y,z,K9 _ _ hne e1,e2⟩
  split
  ·refine⟨b,S,301,rfl,b4,by decide,sb,fun S' G5 sb' b5 k5=> ?_⟩
   exact fin S' G5 sb' (b5.mono (by omega)) ((k3.trans k4).trans k5)
  ·exact fin S G4 sb (b4.mono (by omega)) (k3.trans k4)
 ·intro τ G2 h_;apply xe2 h_;clear h_;intro v1 v2 h_;apply ae3 h_;clear h_;intro h1 tb2 h2
  wp_walk using 1,tSeq
  intro d hd
  wp_walk using 1,jKq,iSeq,iTxt
  refine⟨by omega,by omega,by omega,_,rfl,_,rfl,_,rfl,by omega,?_⟩
  have hd1:gup G2 d (.dck (putT (putT (putT [] (.inr (PySem.Str.ofString "a")) (.tup [.int 0,.int 1,.int 4])) (.inr (PySem.Str.ofString "b")) (.tup [.int 2,.int 3,.int 4])) (.inr (PySem.Str.ofString "c")) (.tup [.int 3,.int 2,.int 4]))) d=some (.dck wds):=jJf
  have tb3:=tb2.sub (Sub.new (o:= .dck (putT (putT (putT [] (.inr (PySem.Str.ofString "a")) (.tup [.int 0,.int 1,.int 4])) (.inr (PySem.Str.ofString "b")) (.tup [.int 2,.int 3,.int 4])) (.inr (PySem.Str.ofString "c")) (.tup [.int 3,.int 2,.int 4]))) hd)
  generalize gup G2 d (.dck (putT (putT (putT [] (.inr (PySem.Str.ofString "a")) (.tup [.int 0,.int 1,.int 4])) (.inr (PySem.Str.ofString "b")) (.tup [.int 2,.int 3,.int 4])) (.inr (PySem.Str.ofString "c")) (.tup [.int 3,.int 2,.int 4])))=G3 at hd1 tb3 ⊢
  let J2:Nat->St3->Gp->Prop:=fun i τ G'=>∃(u1 u2 u4:Option T),τ=[some (.scr (jQf ns)),u1,u2,some (.ref d),u4,none]/\G' d=some (.dck wds)/\TBs G'
  refine⟨J2,?_,?_,?_,?_⟩
  ·exact xi3 _ _ _ rfl ⟨hd1,tb3⟩
  ·intros;trivial
  ·intro i y τ G4 hy h_;apply xe3 h_;clear h_;intro u1 u2 u4 h_;apply ae2 h_;clear h_;intro g1 g2
   obtain⟨w,rfl,ha,hw,hl⟩:∃w:Str,y= .str w/\w.cps.all (· <128)=true/\(∀c,c∈w.cps.toList->c=97\/c=98\/c=99)/\w.cps.toList.length<=8:=by
    match i,hy with
    | 0,hy=>cases hy;exact⟨_,rfl,by decide +kernel,by decide +kernel,by decide +kernel⟩
    | 1,hy=>cases hy;exact⟨_,rfl,by decide +kernel,by decide +kernel,by decide +kernel⟩
    | n+2,hy=>cases hy
   wp_walk using 1,iTxt
   refine⟨w,rfl,ha,kVx g1 hw hl ⟨_,_,_,_,rfl⟩ fun E G5 hE hE5 s5=> ?_⟩
   refine⟨_,jJl hE5,by omega,stW w,4,rfl,sb_w hl,by decide,by decide,g2.sub s5,fun G6 s6=>⟨true,rfl,?_⟩⟩
   rw[lJb (by decide)]
   exact xi3 _ _ _ rfl ⟨s6 _ _ (s5 _ _ g1),(g2.sub s5).sub s6⟩
  ·intro τ G4 h_;apply xe3 h_;clear h_;intro u1 u2 u4 h_;apply ae2 h_;clear h_;intro g1 g2
   wp_walk using 1,tSeq
   refine⟨by omega,by omega,(0,[]),1,rfl,⟨by decide,by decide,fun x hx=>by cases hx⟩,by decide,by decide,g2,fun G5 s5=>⟨true,rfl,?_⟩⟩
   rw[lJa rfl]
   exact⟨by omega,by omega,(1,[]),4,rfl,⟨by decide,by decide,fun x hx=>by cases hx⟩,by decide,by decide,g2.sub s5,fun G6 s6=>kk G6⟩
end W
namespace W
open PySem PySem.Spec PyProof.Rows L2 L3
theorem ln1 {α:Type} {us:List α} {C:List α->Prop} (h:us.length=1) (k:∀a0,C [a0]):C us:=by
 obtain⟨a0,us,rfl⟩:=lJ8 h
 replace h:=lJ9 h
 cases lQm.mp h
 exact k a0
theorem ln2 {α:Type} {us:List α} {C:List α->Prop} (h:us.length=2) (k:∀a0 a1,C [a0,a1]):C us:=by
 obtain⟨a0,us,rfl⟩:=lJ8 h
 replace h:=lJ9 h
 obtain⟨a1,us,rfl⟩:=lJ8 h
 replace h:=lJ9 h
 cases lQm.mp h
 exact k a0 a1
theorem ln3 {α:Type} {us:List α} {C:List α->Prop} (h:us.length=3) (k:∀a0 a1 a2,C [a0,a1,a2]):C us:=by
 obtain⟨a0,us,rfl⟩:=lJ8 h
 replace h:=lJ9 h
 obtain⟨a1,us,rfl⟩:=lJ8 h
 replace h:=lJ9 h
 obtain⟨a2,us,rfl⟩:=lJ8 h
 replace h:=lJ9 h
 cases lQm.mp h
 exact k a0 a1 a2
theorem ln4 {α:Type} {us:List α} {C:List α->Prop} (h:us.length=4) (k:∀a0 a1 a2 a3,C [a0,a1,a2,a3]):C us:=by
 obtain⟨a0,us,rfl⟩:=lJ8 h
 replace h:=lJ9 h
 obtain⟨a1,us,rfl⟩:=lJ8 h
 replace h:=lJ9 h
 obtain⟨a2,us,rfl⟩:=lJ8 h
 replace h:=lJ9 h
 obtain⟨a3,us,rfl⟩:=lJ8 h
 replace h:=lJ9 h
 cases lQm.mp h
 exact k a0 a1 a2 a3
theorem ln5 {α:Type} {us:List α} {C:List α->Prop} (h:us.length=5) (k:∀a0 a1 a2 a3 a4,C [a0,a1,a2,a3,a4]):C us:=by
 obtain⟨a0,us,rfl⟩:=lJ8 h
 replace h:=lJ9 h
 obtain⟨a1,us,rfl⟩:=lJ8 h
 replace h:=lJ9 h
 obtain⟨a2,us,rfl⟩:=lJ8 h
 replace h:=lJ9 h
 obtain⟨a3,us,rfl⟩:=lJ8 h
 replace h:=lJ9 h
 obtain⟨a4,us,rfl⟩:=lJ8 h
 replace h:=lJ9 h
 cases lQm.mp h
 exact k a0 a1 a2 a3 a4
theorem ln6 {α:Type} {us:List α} {C:List α->Prop} (h:us.length=6) (k:∀a0 a1 a2 a3 a4 a5,C [a0,a1,a2,a3,a4,a5]):C us:=by
 obtain⟨a0,us,rfl⟩:=lJ8 h
 replace h:=lJ9 h
 obtain⟨a1,us,rfl⟩:=lJ8 h
 replace h:=lJ9 h
 obtain⟨a2,us,rfl⟩:=lJ8 h
 replace h:=lJ9 h
 obtain⟨a3,us,rfl⟩:=lJ8 h
 replace h:=lJ9 h
 obtain⟨a4,us,rfl⟩:=lJ8 h
 replace h:=lJ9 h
 obtain⟨a5,us,rfl⟩:=lJ8 h
 replace h:=lJ9 h
 cases lQm.mp h
 exact k a0 a1 a2 a3 a4 a5
def top (i:Nat):Stmt:=PySem.Challenge.pw_stonewalker_k50_webs_that_a_story_allows.main.body.getD i (.Pass ⟨0,0,0,0⟩)
def FnAt (K:PySem.W.Frag) (mg:Str->Option Value) (x:Str) (i:Nat):Prop:=∃f fd,mg x=some (.ref f)/\Fun K x x (top i) f fd
structure Txt (K:PySem.W.Frag) (mg:Str->Option Value):Prop where
 n_abs:mg "abs"=none
 n_all:mg "all"=none
 n_bool:mg "bool"=none
 n_dict:mg "dict"=none
 n_enumerate:mg "enumerate"=none
 n_int:mg "int"=none
 n_isinstance:mg "isinstance"=none
 n_len:mg "len"=none
 n_list:mg "list"=none
 n_max:mg "max"=none
 n_min:mg "min"=none
 n_range:mg "range"=none
 n_sorted:mg "sorted"=none
 n_sum:mg "sum"=none
 n_tuple:mg "tuple"=none
 n_zip:mg "zip"=none
 x_TooMany:ExC K mg "TooMany"
 lm_fitting:LamK K mg "fitting" pF
 i_NoStone:∀cn b,(cn,b)∈([("TooMany",false)]:List (Str×Bool))->IsX K mg ["NoStone"] cn b
 v_NoStone:∃v,ClsV mg "NoStone" v/\Cl1 v
 i_NoDoor:∀cn b,(cn,b)∈([("TooMany",false)]:List (Str×Bool))->IsX K mg ["NoDoor"] cn b
 v_NoDoor:∃v,ClsV mg "NoDoor" v/\Cl1 v
 i_NoWeb:∀cn b,(cn,b)∈([("TooMany",false)]:List (Str×Bool))->IsX K mg ["NoWeb"] cn b
 v_NoWeb:∃v,ClsV mg "NoWeb" v/\Cl1 v
 i_NoMark:∀cn b,(cn,b)∈([("TooMany",false)]:List (Str×Bool))->IsX K mg ["NoMark"] cn b
 v_NoMark:∃v,ClsV mg "NoMark" v/\Cl1 v
 i_Clash:∀cn b,(cn,b)∈([("TooMany",false)]:List (Str×Bool))->IsX K mg ["Clash"] cn b
 v_Clash:∃v,ClsV mg "Clash" v/\Cl1 v
 i_TooMany:∀cn b,(cn,b)∈([("TooMany",true)]:List (Str×Bool))->IsX K mg ["TooMany"] cn b
 v_TooMany:∃v,ClsV mg "TooMany" v/\Cl1 v
 i_BadRow:∀cn b,(cn,b)∈([("TooMany",false)]:List (Str×Bool))->IsX K mg ["BadRow"] cn b
 v_BadRow:∃v,ClsV mg "BadRow" v/\Cl1 v
 i_NotWhole:∀cn b,(cn,b)∈([("TooMany",false)]:List (Str×Bool))->IsX K mg ["NotWhole"] cn b
 v_NotWhole:∃v,ClsV mg "NotWhole" v/\Cl1 v
 i_ValueError:∀cn b,(cn,b)∈([("TooMany",true)]:List (Str×Bool))->IsX K mg ["ValueError"] cn b
 v_ValueError:∃v,ClsV mg "ValueError" v/\Cl1 v
 lm__law_right:LamK K mg "_law_right" pR
 t_WebError:∀cn,cn∈(["TooMany"]:List Str)->ExSub K mg cn "WebError" true
 v_MOST_TOLD:qXq mg "MOST_TOLD" 20
 f_first_comings:FnAt K mg "first_comings" 11
 f_ends_by:FnAt K mg "ends_by" 13
 f_renumbered:FnAt K mg "renumbered" 14
 f_told_from:FnAt K mg "told_from" 15
 f_tied:FnAt K mg "tied" 17
 f_sketched:FnAt K mg "sketched" 18
 f_ends_for:FnAt K mg "ends_for" 21
 f_webs_by:FnAt K mg "webs_by" 22
 f_webs_of_story:FnAt K mg "webs_of_story" 23
 f_fitting:FnAt K mg "fitting" 24
 f_l_box:FnAt K mg "_law_box" 26
 f_l_take:FnAt K mg "_law_take" 27
 f_l_boxes:FnAt K mg "_law_boxes" 28
 f_l_web:FnAt K mg "_law_web" 29
 f_l_way:FnAt K mg "_law_way" 30
 f_l_same:FnAt K mg "_law_same" 31
 f_l_story:FnAt K mg "_law_story" 32
 f_l_bent:FnAt K mg "_law_bent" 34
 f_l_is_only:FnAt K mg "_law_is_only" 35
 f_l_told:FnAt K mg "_law_told" 36
 f_l_allowed:FnAt K mg "_law_allowed" 37
 f_l_drawn:FnAt K mg "_law_drawn" 38
 f_l_right:FnAt K mg "_law_right" 39
 f_law:FnAt K mg "law" 40
variable {P:Program} {w:World} {K:PySem.W.Frag} {mg:Str->Option Value} {base:Heap}
theorem cal3 {x:Str} {i k:Nat} {N ps:List Str} {sp:Sp3} {t:TS3} (F:FnAt K mg x i) (h:∀xs G Q,sp xs G Q->t {nx:=fun _ G'=>Q .non G',rt:=Q} (jKl N xs) G)
  (d:∀(f:Addr) (cdv:Value) (A:Around) (outer:List Env) (s:Shared) (H:Hp) (E:XK),Room k (A.deeper (envOfC x (jJq (top i)) s.heap.objs.size f cdv))->(A.deeper (envOfC x (jJq (top i)) s.heap.objs.size f cdv)).units+20<cLine->N.Nodup->PSs3 (cxOf CX0 P w K mg base N x (jJq (top i)) f cdv A outer s H E).nox (jKr (top i)) t)
  (S:FnScope N ps (jJq (top i)):=by exact⟨rfl,rfl,rfl,by decide +kernel,rfl,by decide +kernel,by decide +kernel⟩)
  (b:∀(kV doc pm:Value) (an:Option Addr) (cdv ct:Value) (us:List Value),us.length=ps.length->bindArgs (PySem.W.fnOf x x (jUh (top i)) (jKr (top i)) (jJq (top i)) .none kV doc pm an cdv ct) ⟨us,[]⟩=pure (ps.zip us):=by (intro _ _ _ _ _ _ us hl;first | (apply ln1 hl;intros;rfl) | (apply ln2 hl;intros;rfl) | (apply ln3 hl;intros;rfl) | (apply ln4 hl;intros;rfl) | (apply ln5 hl;intros;rfl) | (apply ln6 hl;intros;rfl)))
  (m:Mono sp:=by (intro xs G Q Q' hq;(repeat' (first | (refine Exists.imp fun _=> ?_) | (refine And.imp_right ?_)));intro k;intros;apply hq;apply k<;>assumption))
  (n:∀xs G Q,sp xs G Q->xs.length=ps.length:=by (intro xs G Q h;repeat (first | exact (lKl List.length h.1).trans rfl | obtain⟨_,h⟩:=h))):Cal P w K mg base (k+1) x ps sp:=by
 obtain⟨f,fd,a,F⟩:=F
 exact⟨⟨f,fd,fn3 F S fun cdv A outer s H E hr=>⟨t,d f cdv A outer s H E hr (qQj hr) S.nd,h⟩,a,F.kp,F.binds b⟩,m,n⟩
theorem cal3L {x:Str} {i k:Nat} {Pt:Addr} {N ps:List Str} {sp:Sp3} {t:TS3} [B:BuB base mg] (F:FnAt K mg x i) (L:LamK K mg x Pt) (h:∀xs G Q,sp xs G Q->t {nx:=fun _ G'=>Q .non G',rt:=Q} (jKl N xs) G)
  (d:∀(f:Addr) (cdv:Value) (A:Around) (outer:List Env) (s:Shared) (H:Hp) (E:XK),LamAt (cxOf CX0 P w K mg base N x (jJq (top i)) f cdv A outer s H E).nox Pt->Room k (A.deeper (envOfC x (jJq (top i)) s.heap.objs.size f cdv))->(A.deeper (envOfC x (jJq (top i)) s.heap.objs.size f cdv)).units+20<cLine->N.Nodup->PSs3 (cxOf CX0 P w K mg base N x (jJq (top i)) f cdv A outer s H E).nox (jKr (top i)) t)
  (S:FnScope N ps (jJq (top i)):=by exact⟨rfl,rfl,rfl,by decide +kernel,rfl,by decide +kernel,by decide +kernel⟩)
  (b:∀(kV doc pm:Value) (an:Option Addr) (cdv ct:Value) (us:List Value),us.length=ps.length->bindArgs (PySem.W.fnOf x x (jUh (top i)) (jKr (top i)) (jJq (top i)) .none kV doc pm an cdv ct) ⟨us,[]⟩=pure (ps.zip us):=by (intro _ _ _ _ _ _ us hl;first | (apply ln1 hl;intros;rfl) | (apply ln2 hl;intros;rfl) | (apply ln3 hl;intros;rfl) | (apply ln4 hl;intros;rfl) | (apply ln5 hl;intros;rfl) | (apply ln6 hl;intros;rfl)))
  (m:Mono sp:=by (intro xs G Q Q' hq;(repeat' (first | (refine Exists.imp fun _=> ?_) | (refine And.imp_right ?_)));intro k;intros;apply hq;apply k<;>assumption))
  (n:∀xs G Q,sp xs G Q->xs.length=ps.length:=by (intro xs G Q h;repeat (first | exact (lKl List.length h.1).trans rfl | obtain⟨_,h⟩:=h))):Cal P w K mg base (k+1) x ps sp:=by
 obtain⟨f,fd,a,F⟩:=F
 exact⟨⟨f,fd,fn3L L a F S fun cdv A outer s H E hr hL=>⟨t,d f cdv A outer s H E hL hr (qQj hr) S.nd,h⟩,a,F.kp,F.binds b⟩,m,n⟩
theorem calX3L {x:Str} {i k:Nat} {Pt:Addr} {N ps:List Str} {sp:SpX} {t:XK3->TS3} [B:BuB base mg] (F:FnAt K mg x i) (L:LamK K mg x Pt) (h:∀xs G Q R,sp xs G Q R->t R {nx:=fun _ G'=>Q .non G',rt:=Q} (jKl N xs) G)
  (d:∀(f:Addr) (cdv:Value) (A:Around) (outer:List Env) (s:Shared) (H:Hp) (E:XK) (R:XK3),LamAt (cxOf (CXX P w) P w K mg base N x (jJq (top i)) f cdv A outer s H E) Pt->Room k (A.deeper (envOfC x (jJq (top i)) s.heap.objs.size f cdv))->(A.deeper (envOfC x (jJq (top i)) s.heap.objs.size f cdv)).units+20<cLine->N.Nodup->XR (cxOf (CXX P w) P w K mg base N x (jJq (top i)) f cdv A outer s H E) R->PSs3 (cxOf (CXX P w) P w K mg base N x (jJq (top i)) f cdv A outer s H E) (jKr (top i)) (t R))
  (m:qQ4 sp) (S:FnScope N ps (jJq (top i)):=by exact⟨rfl,rfl,rfl,by decide +kernel,rfl,by decide +kernel,by decide +kernel⟩)
  (b:∀(kV doc pm:Value) (an:Option Addr) (cdv ct:Value) (us:List Value),us.length=ps.length->bindArgs (PySem.W.fnOf x x (jUh (top i)) (jKr (top i)) (jJq (top i)) .none kV doc pm an cdv ct) ⟨us,[]⟩=pure (ps.zip us):=by (intro _ _ _ _ _ _ us hl;first | (apply ln1 hl;intros;rfl) | (apply ln2 hl;intros;rfl) | (apply ln3 hl;intros;rfl) | (apply ln4 hl;intros;rfl) | (apply ln5 hl;intros;rfl) | (apply ln6 hl;intros;rfl)))
  (n:∀xs G Q R,sp xs G Q R->xs.length=ps.length:=by (intro xs G Q R h;repeat (first | exact (lKl List.length h.1).trans rfl | obtain⟨_,h⟩:=h))):CalX P w K mg base (k+1) x ps sp:=by
 obtain⟨f,fd,a,F⟩:=F
 exact⟨⟨f,fd,fnXL L a F S fun cdv A outer s H E R hr hx hL=>⟨t R,d f cdv A outer s H E R hL hr (qQj hr) S.nd hx,fun xs G Q=>h xs G Q R⟩,a,F.kp,F.binds b⟩,m,n⟩
theorem cal0 {x:Str} {i k:Nat} {ps:List Str} (F:FnAt K mg x i) (b:∀(kV doc pm:Value) (an:Option Addr) (cdv ct:Value) (us:List Value),us.length=ps.length->bindArgs (PySem.W.fnOf x x (jUh (top i)) (jKr (top i)) (jJq (top i)) .none kV doc pm an cdv ct) ⟨us,[]⟩=pure (ps.zip us):=by (intro _ _ _ _ _ _ us hl;first | (apply ln1 hl;intros;rfl) | (apply ln2 hl;intros;rfl) | (apply ln3 hl;intros;rfl) | (apply ln4 hl;intros;rfl) | (apply ln5 hl;intros;rfl) | (apply ln6 hl;intros;rfl))):Cal P w K mg base k x ps (fun _ _ _=>False):=by
 obtain⟨f,fd,a,F⟩:=F
 refine⟨⟨f,fd,⟨fun vs H Q E h=>h.1,?_⟩,a,F.kp,F.binds b⟩,fun _ _ _ _ _ h=>h,fun _ _ _ h=>h.elim⟩
 intros
 rename_i h
 exact absurd h (by rintro⟨_,_,_,_,_,h⟩;exact h)
theorem jX1 (T:Txt K mg):Cal P w K mg base 1 "first_comings" ["web","room"] jK7:=
 cal3 T.f_first_comings jVw fun _ _ _ _ _ _ _ hr hu nd=>
  (jJe (jJw (i:=2) nd (qXb (jJb 1) kUf))
   (jJe (jJw (i:=3) nd (jKy (jJa (jJb 1) jJd)))
   (jJe (kQu lKf (t_tru kXx (jJb 3)) (jJe (jJw (i:=4) nd (jKy jJd))
   (jJe (jUv lKf rfl (jVm (jJb 3)) (jJr (i:=5) nd) (jJn (jUv lKf rfl (qQh rfl T.n_enumerate rfl (jJa (e_ix (ix_F hu) (jJb 0) (jJb 5) (fun _ _=>rfl)) jJd)) (jV3 rfl (jJy (jJr (i:=6) nd) (jJy (jJr (i:=7) nd) jQu))) (jJn (s_if (jJ7 (jVy hu) (e_ix (ix_F hu) (jJb 7) jJi (fun _ _=>rfl)) (jJb 2) (jJo _)) (jJe (jUm (jJ2 (jJa (jJb 5) (jJa (jJb 6) jJd))) (jXs (jJb 2) (e_ix (ix_F hu) (jJb 7) jJi (fun _ _=>rfl)) (s_F hu)))
   (jJn (jQb (e_bm lKg lK0 lK1 jKk (jJb 4) (jJa (e_ix (ix_F hu) (jJb 7) jJi (fun _ _=>rfl)) jJd))))) jJ3)))))
   (jJn (jJw (i:=3) nd (jJb 4))))))
   (jJn (jKb (jJb 2))))))
theorem kV7 (T:Txt K mg):Cal P w K mg base 1 "ends_by" ["ends","numbers"] jXe:=
 cal3 T.f_ends_by kKp fun _ _ _ _ _ _ _ hr hu nd=>
  (jJn (jKb (jJ1 jKs (by rfl) T.n_tuple rfl (jJa (jQv (mask:=[false,false,true]) rfl ⟨rfl,rfl,rfl,rfl,rfl,rfl,rfl⟩ (jVm (jJb 0)) jJ5 (fun C fp s H=>(jJr (i:=2) nd)) (fun C fp s H=>jQn) (fun C fp s H=>(jJ2 (jJa (e_ix (ix_F hu) (jJb 1) (e_ix (ix_F hu) (jJb 2) jJi (fun _ _=>rfl)) (fun _ _=>rfl)) (jJa (e_ix (ix_F hu) (jJb 2) jJi (fun _ _=>rfl)) jJd))))) jJd))))
theorem kJt (T:Txt K mg):Cal P w K mg base 2 "renumbered" ["web","numbers"] jUa:=
 cal3 T.f_renumbered jYr fun _ _ _ _ _ _ _ hr hu nd=>
  (jJe (jJw (i:=2) nd (jJ1 qJh (by rfl) T.n_list rfl (jJa (jJb 0) jJd)))
   (jJe (jUv lKf rfl (qQh rfl T.n_enumerate rfl (jJa (jJb 0) jJd)) (jV3 rfl (jJy (jJr (i:=3) nd) (jJy (jJr (i:=4) nd) jQu))) (jJn (jUm (jJ4 (kV7 T) (hr.mono (by decide)) (jJa (jJb 4) (jJa (jJb 1) jJd))) (jXs (jJb 2) (e_ix (ix_F hu) (jJb 1) (jJb 3) (fun _ _=>rfl)) (s_F hu)))))
   (jJn (jKb (jJ1 jKs (by rfl) T.n_tuple rfl (jJa (jJb 2) jJd))))))
theorem kKu (T:Txt K mg):Cal P w K mg base 3 "told_from" ["web","room"] jUs:=
 cal3 T.f_told_from jZj fun _ _ _ _ _ _ _ hr hu nd=>
  (jJe (jJw (i:=2) nd (jY7 rfl T.n_list rfl T.n_range rfl (jJa (jJp jQg (by rfl) T.n_len lJt (jJa (jJb 0) jJd)) jJd)))
   (jJe (jUv lKf rfl (qUm rfl T.n_enumerate rfl (jJa (jJ1 (qXi rfl) (by rfl) T.n_list rfl (jJa (jJ4 (jX1 T) (hr.mono (by decide)) (jJa (jJb 0) (jJa (jJb 1) jJd))) jJd)) jJd)) (jV3 rfl (jJy (jJr (i:=3) nd) (jJy (jJr (i:=4) nd) jQu))) (jJn (jUm (jJb 3) (jXs (jJb 2) (jJb 4) (s_F hu)))))
   (jJn (jKb (jJ4 (kJt T) (hr.mono (by decide)) (jJa (jJb 0) (jJa (jJ1 jKs (by rfl) T.n_tuple rfl (jJa (jJb 2) jJd)) jJd)))))))
theorem qVg (T:Txt K mg):Cal P w K mg base 1 "tied" ["leads","start","end"] kJa:=
 cal3 T.f_tied kYc fun _ _ _ _ _ _ _ hr hu nd=>
  (jJe (jJw (i:=3) nd (jJ1 qJi (by rfl) T.n_dict rfl (jJa (jJb 0) jJd)))
   (jJe (jUm (jJb 2) (jXs (jJb 3) (jJb 1) (s_F hu)))
   (jJe (jUm (jJb 1) (jXs (jJb 3) (jJb 2) (s_F hu)))
   (jJn (jKb (jJb 3))))))
theorem kQ1 (T:Txt K mg):Cal P w K mg base 1 "sketched" ["counts","leads"] jVf:=
 cal3 T.f_sketched kJi fun _ _ _ _ _ _ _ hr hu nd=>
  (jJe (jJw (i:=2) nd (jKy jJd))
   (jJe (jUv lKf rfl (qQh rfl T.n_enumerate rfl (jJa (jJb 0) jJd)) (jV3 rfl (jJy (jJr (i:=3) nd) (jJy (jJr (i:=4) nd) jQu))) (jJn (jQb (e_bm lKg lK0 lK1 jKk (jJb 2) (jJa (jJ1 jKs (by rfl) T.n_tuple rfl (jJa (jQv (mask:=[false,false,false,false,false,true]) rfl ⟨rfl,rfl,rfl,rfl,rfl,rfl,rfl⟩ (jKh rfl T.n_range (jJa (jJb 4) jJd)) jJ5 (fun C fp s H=>(jJr (i:=5) nd)) (fun C fp s H=>jQn) (fun C fp s H=>(e_bm PySem.F.plainAttrs_dict PySem.F.slot_dict_get PySem.F.type_dict_get (m_getD hu) (jJb 1) (jJa (jJ2 (jJa (jJb 3) (jJa (jJb 5) jJd))) jJd)))) jJd)) jJd)))))
   (jJn (jKb (jJ1 jKs (by rfl) T.n_tuple rfl (jJa (jJb 2) jJd))))))
theorem kQ2 (T:Txt K mg):Cal P w K mg base 1 "ends_for" ["counts","leads","start","step","most"] jVg:=
 cal3 T.f_ends_for kJj fun _ _ _ _ _ _ _ hr hu nd=>
  (jJe (s_if (PW3.pt (w_or (kKd (kXz (qKv hu) o_lt jJi (e_ix (ix_F hu) (jJb 2) jJi (fun _ _=>rfl)) (e_ix (ix_F hu) (jJb 0) (e_ix (ix_F hu) (jJb 2) jJi (fun _ _=>rfl)) (fun _ _=>rfl)))) (kJ9 (kKd (kXz (qKv hu) o_lt jJi (e_ix (ix_F hu) (jJb 3) jJi (fun _ _=>rfl)) (e_ix (ix_F hu) (jJb 3) jJi (fun _ _=>rfl))))))) (jJn (jKb (jKy jJd))) jJ3)
   (jJe (jYp (i:=5) (mask:=[false,false,false,false,false,false,false,true,true,false]) rfl nd ⟨rfl,rfl,rfl,rfl,rfl,rfl,rfl⟩ (qQh rfl T.n_enumerate rfl (jJa (jJb 0) jJd)) (kVc (jUz jJ5 jQa (jUz jJ5 jQa kVd jXz) (kJz jQa jXz))) (fun C fp s H=>(jV3 rfl (jJy (jJr (i:=7) nd) (jJy (jJr (i:=8) nd) jQu)))) (fun C fp s H=>(jZx (jJ7 (jK3 hr.units) (jJb 8) (e_ix (ix_F hu) (jJb 3) jJi (fun _ _=>rfl)) (jJo _)))) (fun C fp s H=>(jJb 7)))
   (jJe (jYp (i:=6) (mask:=[false,false,false,false,false,false,false,true,false,false]) rfl nd ⟨rfl,rfl,rfl,rfl,rfl,rfl,rfl⟩ (jVm (jJb 5)) jJ5 (fun C fp s H=>(jJr (i:=7) nd)) (fun C fp s H=>jQn) (fun C fp s H=>(jJ2 (jJa (jJb 7) (jJa (e_ix (ix_F hu) (jJb 3) jJi (fun _ _=>rfl)) jJd)))))
   (jJe (s_if (jJ7 o_lt (jJp jQg (by rfl) T.n_len lJt (jJa (jJb 0) jJd)) (jJb 4) (jJo _)) (jJn (jQb (e_bm lKg lK0 lK1 jKk (jJb 6) (jJa (jJ2 (jJa (jJp jQg (by rfl) T.n_len lJt (jJa (jJb 0) jJd)) (jJa (e_ix (ix_F hu) (jJb 3) jJi (fun _ _=>rfl)) jJd))) jJd)))) jJ3)
   (jJe (s_if (jJ7 (qUf hu) (jJb 2) (jJb 1) (jJo _)) (jJn (jKb (jQv (mask:=[false,false,false,false,false,false,false,false,false,true]) rfl ⟨rfl,rfl,rfl,rfl,rfl,rfl,rfl⟩ (jVm (jJb 6)) jJ5 (fun C fp s H=>(jJr (i:=9) nd)) (fun C fp s H=>(jZx (jJ7 (jK3 hr.units) (jJb 9) (e_ix (ix_F hu) (jJb 1) (jJb 2) (fun _ _=>rfl)) (jJo _)))) (fun C fp s H=>(jJb 9))))) jJ3)
   (jJn (jKb (jQv (mask:=[false,false,false,false,false,false,false,false,false,true]) rfl ⟨rfl,rfl,rfl,rfl,rfl,rfl,rfl⟩ (jVm (jJb 6)) jJ5 (fun C fp s H=>(jJr (i:=9) nd)) (fun C fp s H=>(jZx (jJ7 (jVy hu) (jJb 9) (jJb 1) (jJo _)))) (fun C fp s H=>(jJb 9))))))))))
theorem jKf {j:Nat} {sp sp':Sp3} (T:Txt K mg) (C_webs_by:Cal P w K mg base (j+1) "webs_by" ["counts","leads","room","steps","most","enough"] sp) (h:∀xs G Q,sp' xs G Q->jK0 sp {nx:=fun _ G'=>Q .non G',rt:=Q} (jKl jZg xs) G) (m:Mono sp':=by unfold jVc;(intro xs G Q Q' hq;(repeat' (first | (refine Exists.imp fun _=> ?_) | (refine And.imp_right ?_)));intro k;intros;apply hq;apply k<;>assumption)) (n:∀xs G Q,sp' xs G Q->xs.length=(["counts","leads","room","steps","most","enough"]:List Str).length:=by (intro xs G Q h;repeat (first | exact (lKl List.length h.1).trans rfl | obtain⟨_,h⟩:=h))):Cal P w K mg base (j+1+1) "webs_by" ["counts","leads","room","steps","most","enough"] sp':=
 cal3 T.f_webs_by h (fun _ _ _ _ _ _ _ hr hu nd=>(jJe (jJw (i:=6) nd (e_op kKx (jJp (c_sumT rfl) (by rfl) T.n_sum rfl (jJa (jJb 0) jJd)) (jJp jQ6 (by rfl) T.n_len lJt (jJa (jJb 1) jJd))))
   (jJe (s_if (jJ7 (jK3 hr.units) (jJp jQ6 (by rfl) T.n_len lJt (jJa (jJb 3) jJd)) jJi (jJo _)) (jJn (jKb (kUg (jJ7 (jK3 hr.units) (jJb 6) jJi (jJo _)) (jKy (jJa (jJ4 (kQ1 T) (hr.mono (by omega)) (jJa (jJb 0) (jJa (jJb 1) jJd))) jJd)) (jKy jJd)))) jJ3)
   (jJe (s_if (jJ7 o_gt (jJb 6) (e_op jQ2 jJi (jJp jQ6 (by rfl) T.n_len lJt (jJa (jJb 3) jJd))) (jJo _)) (jJn (jKb (jKy jJd))) jJ3)
   (jJe (jJw (i:=7) nd (e_ix (ix_F hu) (jJb 3) jJi (fun _ _=>rfl)))
   (jJe (jJw (i:=8) nd (jJ2 (jJa (jJb 2) (jJa (e_ix (ix_F hu) (jJb 7) jJi (fun _ _=>rfl)) jJd))))
   (jJe (jJw (i:=9) nd (jKy jJd))
   (jJe (jUv lKf rfl (jVm (jJ4 (kQ2 T) (hr.mono (by omega)) (jJa (jJb 0) (jJa (jJb 1) (jJa (jJb 8) (jJa (jJb 7) (jJa (jJb 4) jJd))))))) (jJr (i:=10) nd) (jJn (s_if (jJ7 o_lt (jJp jQ6 (by rfl) T.n_len lJt (jJa (jJb 9) jJd)) (jJb 5) (jJo _)) (jJe (jJw (i:=11) nd (kUg (jJ7 o_lt (e_ix (ix_F hu) (jJb 10) jJi (fun _ _=>rfl)) (jJp jQ6 (by rfl) T.n_len lJt (jJa (jJb 0) jJd)) (jJo _)) (jJb 0) (e_op jVz (jJb 0) (jJ2 (jJa (e_ix (ix_F hu) (jJb 7) jJi (fun _ _=>rfl)) jJd)))))
   (jJn (jQb (e_bm lKg PySem.F.slot_list_extend PySem.F.type_list_extend qK3 (jJb 9) (jJa (jJ4 C_webs_by hr (jJa (jJb 11) (jJa (jJ4 (qVg T) (hr.mono (by omega)) (jJa (jJb 1) (jJa (jJb 8) (jJa (jJb 10) jJd)))) (jJa (e_ix (ix_F hu) (jJb 10) jJi (fun _ _=>rfl)) (jJa (jXu sl_F (jJb 3) (jVx jJi) jZs) (jJa (jJb 4) (jJa (e_op kKx (jJb 5) (jJp jQ6 (by rfl) T.n_len lJt (jJa (jJb 9) jJd))) jJd))))))) jJd))))) jJ3)))
   (jJn (jKb (jJb 9))))))))))) (m:=m) (n:=n)
theorem kV2 (T:Txt K mg):Cal P w K mg base 10 "webs_by" ["counts","leads","room","steps","most","enough"] (jVc 8):=
 jKf (j:=8) (sp':=jVc 8) T (jKf (j:=7) (sp':=jVc 7) T (jKf (j:=6) (sp':=jVc 6) T (jKf (j:=5) (sp':=jVc 5) T (jKf (j:=4) (sp':=jVc 4) T (jKf (j:=3) (sp':=jVc 3) T (jKf (j:=2) (sp':=jVc 2) T (jKf (j:=1) (sp':=jVc 1) T (jKf (j:=0) (sp':=jVc 0) T (cal0 T.f_webs_by) (jVv _)) (jKe 0)) (jKe 1)) (jKe 2)) (jKe 3)) (jKe 4)) (jKe 5)) (jKe 6)) (jKe 7)
theorem jX0 (T:Txt K mg):Cal P w K mg base 11 "webs_of_story" ["story","most","enough"] jK6:=
 cal3 T.f_webs_of_story jVu fun _ _ _ _ _ _ _ hr hu nd=>
  (jJn (jKb (jJ4 (kV2 T) (hr.mono (by decide)) (jJa (jJ2 (jJa (e_ix (ix_F hu) (jJb 0) jJi (fun _ _=>rfl)) jJd)) (jJa qQs (jJa jJi (jJa (e_ix (ix_F hu) (jJb 0) jJi (fun _ _=>rfl)) (jJa (jJb 1) (jJa (jJb 2) jJd)))))))))
theorem kV6 [BuB base mg] (T:Txt K mg):CalX P w K mg base 12 "fitting" ["story","most"] jU5:=
 calX3L T.f_fitting T.lm_fitting kKo (m:=kKy) fun _ _ _ _ _ _ _ R Lm hr hu nd hx=>
  (jJe (jJw (i:=2) nd (jJ4 (jX0 T) (hr.mono (by decide)) (jJa (jJb 0) (jJa (jJb 1) (jJa (e_op o_addF (e_con rfl T.v_MOST_TOLD) jJi) jJd)))))
   (jJe (s_if (jJ7 o_gt (jJp jQg (by rfl) T.n_len lJt (jJa (jJb 2) jJd)) (e_con rfl T.v_MOST_TOLD) (jJo _)) (jJn (qKe hx T.x_TooMany rfl (jJa kXh jJd))) jJ3)
   (jJn (jKb (kZy Lm (jQv (mask:=[false,false,false,true]) rfl ⟨rfl,rfl,rfl,rfl,rfl,rfl,rfl⟩ (jVm (jJb 2)) jJ5 (fun C fp s H=>(jJr (i:=3) nd)) (fun C fp s H=>jQn) (fun C fp s H=>(jJ4 (kKu T) (hr.mono (by decide)) (jJa (jJb 3) (jJa jJi jJd))))) (hr.mono (by decide)) (S:=by exact⟨rfl,rfl,rfl,by decide +kernel,rfl,by decide +kernel,by decide +kernel⟩) T.n_sorted T.n_len (hbind:=by intros;rfl) (hcl:=by rfl) (hdef:=by rfl))))))
theorem qKt (T:Txt K mg):Cal P w K mg base 1 "_law_box" ["_law_script","_law_k"] kJd:=
 cal3 T.f_l_box kV0 fun _ _ _ _ _ _ _ hr hu nd=>
  (jJe (jJw (i:=2) nd jJi)
   (jJe (s_if (jJ7 o_lt (jJb 1) (jJp jQg (by rfl) T.n_len lJt (jJa (jJb 0) jJd)) (jJo _)) (jJn (jJw (i:=2) nd (e_ix (ix_F hu) (jJb 0) (jJb 1) (fun _ _=>rfl)))) jJ3)
   (jJe (jJw (i:=3) nd jJi)
   (jJe (s_if (jJ7 o_ge (jJp c_abs (by rfl) T.n_abs rfl (jJa (jJb 2) jJd)) (e_op o_pow jJi jJi) (jJo _)) (jJn (jJw (i:=3) nd (jJp c_abs (by rfl) T.n_abs rfl (jJa (jJb 2) jJd)))) jJ3)
   (jJn (jKb (jKy (jJa (jJb 3) (jJa (e_op jYx (e_op jQ2 (e_op o_addF (e_op o_addF (e_op jYx (jJb 2) jJi) (e_op jQ2 jJi (jJb 1))) jJi) jJi) jJi) (jJa jJi jJd))))))))))
theorem jJs (T:Txt K mg):Cal P w K mg base 1 "_law_take" ["_law_box_here","_law_many"] jJm:=
 cal3 T.f_l_take kQw fun _ _ _ _ _ _ _ hr hu nd=>
  (jJe (s_if (jJ7 o_gt (e_ix (ix_F hu) (jJb 0) jJi (fun _ _=>rfl)) jJi (jJo _)) (jJe (jJw (i:=2) nd (e_op jYx (e_ix (ix_F hu) (jJb 0) jJi (fun _ _=>rfl)) (jJb 1)))
   (jJe (jUm (e_op qUg (e_ix (ix_F hu) (jJb 0) jJi (fun _ _=>rfl)) (jJb 1)) (jXs (jJb 0) jJi (s_F hu)))
   (jJn (jKb (jJb 2))))) jJ3)
   (jJe (jUm (e_op o_addF (e_ix (ix_F hu) (jJb 0) jJi (fun _ _=>rfl)) jJi) (jXs (jJb 0) jJi (s_F hu)))
   (jJe (jJw (i:=3) nd (e_op jYx (e_op jQ2 (e_op o_addF (e_ix (ix_F hu) (jJb 0) jJi (fun _ _=>rfl)) (e_op jQ2 jJi (e_ix (ix_F hu) (jJb 0) jJi (fun _ _=>rfl)))) (e_op o_addF jJi (e_ix (ix_F hu) (jJb 0) jJi (fun _ _=>rfl)))) jJi))
   (jJe (jUm (e_op jYx (e_op o_addF (e_op jQ2 (jJb 3) (e_op o_addF (e_op jYx (jJb 3) jJi) jJi)) (e_ix (ix_F hu) (jJb 0) jJi (fun _ _=>rfl))) jJi) (jXs (jJb 0) jJi (s_F hu)))
   (jJn (jKb (e_op jYx (e_op qUg (e_op jYx (e_op jQ2 (e_ix (ix_F hu) (jJb 0) jJi (fun _ _=>rfl)) (e_op o_addF (e_op jYx (e_ix (ix_F hu) (jJb 0) jJi (fun _ _=>rfl)) jJi) jJi)) jJi) jJi) (jJb 1))))))))
theorem kV5 (T:Txt K mg):Cal P w K mg base 2 "_law_boxes" ["_law_script","_law_most"] jXd:=
 cal3 T.f_l_boxes kKn fun _ _ _ _ _ _ _ hr hu nd=>
  (jJe (jJw (i:=2) nd (jQv (mask:=[false,false,false,true]) rfl ⟨rfl,rfl,rfl,rfl,rfl,rfl,rfl⟩ (jKh rfl T.n_range (jJa (jJp (qXh rfl) (by rfl) T.n_max rfl (jJa jJi (jJa (jJp (kVn rfl) (by rfl) T.n_min rfl (jJa (jJb 1) (jJa (jJp jQg (by rfl) T.n_len lJt (jJa (jJb 0) jJd)) jJd))) jJd))) jJd)) jJ5 (fun C fp s H=>(jJr (i:=3) nd)) (fun C fp s H=>jQn) (fun C fp s H=>(jJp (c_sum rfl) (by rfl) T.n_sum rfl (jJa (e_slSt (jJb 0) (jVx (jJb 3)) (jVx jJi) (jVx (jJb 1))) jJd)))))
   (jJn (jKb (jQv (mask:=[false,false,false,true]) rfl ⟨rfl,rfl,rfl,rfl,rfl,rfl,rfl⟩ (jKh rfl T.n_range (jJa (jJp jQg (by rfl) T.n_len lJt (jJa (jJb 2) jJd)) jJd)) jJ5 (fun C fp s H=>(jJr (i:=3) nd)) (fun C fp s H=>jQn) (fun C fp s H=>(jJ4 (qKt T) (hr.mono (by decide)) (jJa (jJb 2) (jJa (jJb 3) jJd))))))))
theorem qKr (T:Txt K mg):Cal P w K mg base 2 "_law_web" ["_law_box_here","_law_size","_law_more"] kJb:=
 cal3 T.f_l_web kVy fun _ _ _ _ _ _ _ hr hu nd=>
  (jJe (jJw (i:=3) nd (jQv (mask:=[false,false,false,false,false,false,false,false,false,false,false,false,true,false,false,false]) rfl ⟨rfl,rfl,rfl,rfl,rfl,rfl,rfl⟩ (jKh rfl T.n_range (jJa (jJb 1) jJd)) jJ5 (fun C fp s H=>(jJr (i:=12) nd)) (fun C fp s H=>jQn) (fun C fp s H=>(jKy jJd))))
   (jJe (jJw (i:=4) nd qQs)
   (jJe (jUv lKf rfl (jKh rfl T.n_range (jJa (e_op o_addF (e_op kKx (jJb 1) jJi) (jJb 2)) jJd)) (jJr (i:=5) nd) (jJe (jYp (i:=6) (mask:=[false,false,false,false,false,false,false,false,false,false,false,false,true,false,false,false]) rfl nd ⟨rfl,rfl,rfl,rfl,rfl,rfl,rfl⟩ (jKh rfl T.n_range (jJa (jJb 1) jJd)) jJ5 (fun C fp s H=>(jJr (i:=12) nd)) (fun C fp s H=>(jZx (jJ7 o_lt (jJp jQg (by rfl) T.n_len lJt (jJa (e_ix (ix_F hu) (jJb 3) (jJb 12) (fun _ _=>rfl)) jJd)) jJi (jJo _)))) (fun C fp s H=>(jJb 12)))
   (jJe (s_if (jJ7 (jK3 hr.units) (jJb 6) (jKy jJd) (jJo _)) (jJn kKj) jJ3)
   (jJe (jJw (i:=7) nd (e_ix (ix_F hu) (jJb 6) (jJ4 (jJs T) (hr.mono (by decide)) (jJa (jJb 0) (jJa (jJp jQg (by rfl) T.n_len lJt (jJa (jJb 6) jJd)) jJd))) (fun _ _=>rfl)))
   (jJe (jJw (i:=8) nd (e_ix (ix_F hu) (jJb 6) (jJ4 (jJs T) (hr.mono (by decide)) (jJa (jJb 0) (jJa (jJp jQg (by rfl) T.n_len lJt (jJa (jJb 6) jJd)) jJd))) (fun _ _=>rfl)))
   (jJe (s_if (jJ7 o_lt (jJb 5) (e_op kKx (jJb 1) jJi) (jJo _)) (jJe (jJw (i:=8) nd (e_op o_addF (jJb 5) jJi))
   (jJe (jYp (i:=9) (mask:=[false,false,false,false,false,false,false,false,false,false,false,false,true,false,false,false]) rfl nd ⟨rfl,rfl,rfl,rfl,rfl,rfl,rfl⟩ (jVm (jJb 6)) jJ5 (fun C fp s H=>(jJr (i:=12) nd)) (fun C fp s H=>(jZx (jJ7 (qKv hu) (jJb 12) (jJb 5) (jJo _)))) (fun C fp s H=>(jJb 12)))
   (jJn (jJw (i:=7) nd (e_ix (ix_F hu) (jJb 9) (jJ4 (jJs T) (hr.mono (by decide)) (jJa (jJb 0) (jJa (jJp jQg (by rfl) T.n_len lJt (jJa (jJb 9) jJd)) jJd))) (fun _ _=>rfl)))))) jJ3)
   (jJe (jJw (i:=10) nd (kUh (kQa o_ge (jJb 5) (e_op kKx (jJb 1) jJi) (jJo _)) (kZz (kQa (jK3 hr.units) (jJ4 (jJs T) (hr.mono (by decide)) (jJa (jJb 0) (jJa jJi jJd))) jJi (jJo _)))))
   (jJe (jUm (jJb 10) (jXs (jJb 4) (jJb 5) (s_F hu)))
   (jJe (jQb (e_bm lKg PySem.F.slot_list_insert PySem.F.type_list_insert kU4 (e_ix (ix_F hu) (jJb 3) (jJb 7) (fun _ _=>rfl)) (jJa (jJ4 (jJs T) (hr.mono (by decide)) (jJa (jJb 0) (jJa (e_op o_addF (jJp jQg (by rfl) T.n_len lJt (jJa (e_ix (ix_F hu) (jJb 3) (jJb 7) (fun _ _=>rfl)) jJd)) jJi) jJd))) (jJa (jJ2 (jJa (jJb 5) (jJa jJi jJd))) jJd))))
   (jJn (s_if (kKd (t_tru kXx (jJb 10))) (jJn (jQb (e_bm lKg PySem.F.slot_list_insert PySem.F.type_list_insert kU4 (e_ix (ix_F hu) (jJb 3) (jJb 8) (fun _ _=>rfl)) (jJa (jJ4 (jJs T) (hr.mono (by decide)) (jJa (jJb 0) (jJa (e_op o_addF (jJp jQg (by rfl) T.n_len lJt (jJa (e_ix (ix_F hu) (jJb 3) (jJb 8) (fun _ _=>rfl)) jJd)) jJi) jJd))) (jJa (jJ2 (jJa (jJb 5) (jJa jJi jJd))) jJd))))) jJ3)))))))))))
   (jJe (jJw (i:=11) nd qQs)
   (jJe (jUv lKf rfl (jKh rfl T.n_range (jJa (jJb 1) jJd)) (jJr (i:=12) nd) (jJn (jUv lKf rfl (qUm rfl T.n_enumerate rfl (jJa (e_ix (ix_F hu) (jJb 3) (jJb 12) (fun _ _=>rfl)) jJd)) (jV3 rfl (jJy (jJr (i:=13) nd) (jJy (jJr (i:=14) nd) jQu))) (jJn (jUm (jJ2 (jJa (jJb 12) (jJa (jJb 13) jJd))) (jXs (jJb 11) (jJb 14) (s_F hu)))))))
   (jJn (jKb (jJ1 jKs (by rfl) T.n_tuple rfl (jJa (jQv (mask:=[false,false,false,false,false,false,false,false,false,false,false,false,false,false,false,true]) rfl ⟨rfl,rfl,rfl,rfl,rfl,rfl,rfl⟩ (jVm (jJb 3)) jJ5 (fun C fp s H=>(jJr (i:=15) nd)) (fun C fp s H=>jQn) (fun C fp s H=>(jJ1 jKs (by rfl) T.n_tuple rfl (jJa (jQv (mask:=[false,false,false,false,false,true,false,false,false,false,false,false,false,false,true,false]) rfl ⟨rfl,rfl,rfl,rfl,rfl,rfl,rfl⟩ (jVm (jJb 15)) (kVc (jUz jJ5 jQa (jUz jJ5 jQa kVd jXz) (kJz jQa jXz))) (fun C fp s H=>(jV3 rfl (jJy (jJr (i:=5) nd) (jJy (jJr (i:=14) nd) jQu)))) (fun C fp s H=>jQn) (fun C fp s H=>(e_ix (ix_F hu) (jJb 11) (jJ2 (jJa (jJb 5) (jJa (kUg (kQq (e_ix (ix_F hu) (jJb 4) (jJb 5) (fun _ _=>rfl))) (jJb 14) (e_op kKx jJi (jJb 14))) jJd))) (fun _ _=>rfl)))) jJd)))) jJd)))))))))
theorem qKs (T:Txt K mg):Cal P w K mg base 2 "_law_way" ["_law_box_here","_law_web_here","_law_room","_law_many"] kJc:=
 cal3 T.f_l_way kVz fun _ _ _ _ _ _ _ hr hu nd=>
  (jJe (jJw (i:=4) nd (jKy jJd))
   (jJe (jJw (i:=5) nd (jKy jJd))
   (jJe (jUv lKf rfl (jKh rfl T.n_range (jJa (jJb 3) jJd)) (jJr (i:=6) nd) (jJe (jJw (i:=7) nd (jJp jQg (by rfl) T.n_len lJt (jJa (e_ix (ix_F hu) (jJb 1) (jJb 2) (fun _ _=>rfl)) jJd)))
   (jJe (s_if (jJ7 (jK3 hr.units) (jJb 7) jJi (jJo _)) (jJn (jKb (jJ1 jKs (by rfl) T.n_tuple rfl (jJa (jJb 4) jJd)))) jJ3)
   (jJe (jYp (i:=8) (mask:=[false,false,false,false,false,false,false,false,false,true]) rfl nd ⟨rfl,rfl,rfl,rfl,rfl,rfl,rfl⟩ (jKh rfl T.n_range (jJa (jJb 7) jJd)) jJ5 (fun C fp s H=>(jJr (i:=9) nd)) (fun C fp s H=>(jZx (jJ7 (qKu hr.units) (jJ2 (jJa (jJb 2) (jJa (jJb 9) jJd))) (jJb 5) (jJo _)))) (fun C fp s H=>(jJb 9)))
   (jJe (s_if (PW3.pt (w_or (jJ7 (jK3 hr.units) (jJb 8) (jKy jJd) (jJo _)) (kJ9 (jJ7 (jK3 hr.units) (jJ4 (jJs T) (hr.mono (by decide)) (jJa (jJb 0) (jJa jJi jJd))) jJi (jJo _))))) (jJn (jJw (i:=8) nd (jY7 rfl T.n_list rfl T.n_range rfl (jJa (jJb 7) jJd)))) jJ3)
   (jJe (jJw (i:=9) nd (e_ix (ix_F hu) (jJb 8) (jJ4 (jJs T) (hr.mono (by decide)) (jJa (jJb 0) (jJa (jJp jQg (by rfl) T.n_len lJt (jJa (jJb 8) jJd)) jJd))) (fun _ _=>rfl)))
   (jJe (jQb (e_bm lKg lK0 lK1 jKk (jJb 4) (jJa (jJb 9) jJd)))
   (jJe (jQb (e_bm lKg lK0 lK1 jKk (jJb 5) (jJa (jJ2 (jJa (jJb 2) (jJa (jJb 9) jJd))) jJd)))
   (jJe (jQb (e_bm lKg lK0 lK1 jKk (jJb 5) (jJa (e_ix (ix_F hu) (e_ix (ix_F hu) (jJb 1) (jJb 2) (fun _ _=>rfl)) (jJb 9) (fun _ _=>rfl)) jJd)))
   (jJn (jJw (i:=2) nd (e_ix (ix_F hu) (e_ix (ix_F hu) (e_ix (ix_F hu) (jJb 1) (jJb 2) (fun _ _=>rfl)) (jJb 9) (fun _ _=>rfl)) jJi (fun _ _=>rfl)))))))))))))
   (jJn (jKb (jJ1 jKs (by rfl) T.n_tuple rfl (jJa (jJb 4) jJd)))))))
theorem jQ0 {j:Nat} {sp sp':Sp3} (T:Txt K mg) (C_l_same:Cal P w K mg base (j) "_law_same" ["_law_found","_law_due"] sp) (h:∀xs G Q,sp' xs G Q->jK2 sp {nx:=fun _ G'=>Q .non G',rt:=Q} (jKl jV8 xs) G) (m:Mono sp':=by unfold jYl;(intro xs G Q Q' hq;(repeat' (first | (refine Exists.imp fun _=> ?_) | (refine And.imp_right ?_)));intro k;intros;apply hq;apply k<;>assumption)) (n:∀xs G Q,sp' xs G Q->xs.length=(["_law_found","_law_due"]:List Str).length:=by (intro xs G Q h;repeat (first | exact (lKl List.length h.1).trans rfl | obtain⟨_,h⟩:=h))):Cal P w K mg base (j+1) "_law_same" ["_law_found","_law_due"] sp':=
 cal3 T.f_l_same h (fun _ _ _ _ _ _ _ hr hu nd=>(jJe (s_if (kQq (jJp kUk (by rfl) T.n_isinstance rfl (jJa (jJb 1) (jJa (jJ2 (jJa (e_ty rfl T.n_list rfl) (jJa (e_ty rfl T.n_tuple rfl) jJd))) jJd)))) (jJe (s_if (PW3.pt (w_or (kKd (kQq (jJp kUk (by rfl) T.n_isinstance rfl (jJa (jJb 0) (jJa (jJ2 (jJa (e_ty rfl T.n_list rfl) (jJa (e_ty rfl T.n_tuple rfl) jJd))) jJd))))) (kJ9 (jJ7 (o_neA hr.units) (jJp kUk (by rfl) T.n_isinstance rfl (jJa (jJb 0) (jJa (e_ty rfl T.n_list rfl) jJd))) (jJp kUk (by rfl) T.n_isinstance rfl (jJa (jJb 1) (jJa (e_ty rfl T.n_list rfl) jJd))) (jJo _))))) (jJn (jKb e_bl)) jJ3)
   (jJn (jKb (kUh (kQa (jK3 hr.units) (jJp jQg (by rfl) T.n_len lJt (jJa (jJb 0) jJd)) (jJp jQg (by rfl) T.n_len lJt (jJa (jJb 1) jJd)) (jJo _)) (kZz (jJp (c_all rfl) (by rfl) T.n_all rfl (jJa (jQv (mask:=[false,false,true,true]) rfl ⟨rfl,rfl,rfl,rfl,rfl,rfl,rfl⟩ (i_zipB rfl T.n_zip rfl (jJa (jJb 0) (jJa (jJb 1) jJd))) (kVc (jUz jJ5 jQa (jUz jJ5 jQa kVd jXz) (kJz jQa jXz))) (fun C fp s H=>(jV3 rfl (jJy (jJr (i:=2) nd) (jJy (jJr (i:=3) nd) jQu)))) (fun C fp s H=>jQn) (fun C fp s H=>(jJ4 C_l_same hr (jJa (jJb 2) (jJa (jJb 3) jJd))))) jJd))))))) jJ3)
   (jJe (s_if (jJ7 qVk (jJb 1) kUf (jJo _)) (jJn (jKb (kQa qVk (jJb 0) kUf (jJo _)))) jJ3)
   (jJn (jKb (kUh (jJp kUk (by rfl) T.n_isinstance rfl (jJa (jJb 0) (jJa (e_ty rfl T.n_int rfl) jJd))) (kUh (kQa (jK3 hr.units) (jJp kUk (by rfl) T.n_isinstance rfl (jJa (jJb 0) (jJa (e_ty rfl T.n_bool rfl) jJd))) (jJp kUk (by rfl) T.n_isinstance rfl (jJa (jJb 1) (jJa (e_ty rfl T.n_bool rfl) jJd))) (jJo _)) (kZz (kQa (jK3 hr.units) (jJb 0) (jJb 1) (jJo _)))))))))) (m:=m) (n:=n)
theorem kYs (T:Txt K mg):Cal P w K mg base 5 "_law_same" ["_law_found","_law_due"] (jYl 4):=
 jQ0 (j:=4) (sp':=jYl 4) T (jQ0 (j:=3) (sp':=jYl 3) T (jQ0 (j:=2) (sp':=jYl 2) T (jQ0 (j:=1) (sp':=jYl 1) T (jQ0 (j:=0) (sp':=jYl 0) T (cal0 T.f_l_same) (jXw _)) (jUd 0)) (jUd 1)) (jUd 2)) (jUd 3)
theorem kV3 (T:Txt K mg):Cal P w K mg base 1 "_law_story" ["_law_web_here","_law_room","_law_way_here"] jXb:=
 cal3 T.f_l_story kKk fun _ _ _ _ _ _ _ hr hu nd=>
  (jJe (jJw (i:=3) nd (jKy jJd))
   (jJe (jJw (i:=4) nd (jJp jQg (by rfl) T.n_len lJt (jJa (e_ix (ix_F hu) (jJb 0) (jJb 1) (fun _ _=>rfl)) jJd)))
   (jJe (jUv lKf rfl (jVm (jJb 2)) (jJr (i:=5) nd) (jJe (jUm (e_ix (ix_F hu) (e_ix (ix_F hu) (jJb 0) (jJb 1) (fun _ _=>rfl)) (jJb 5) (fun _ _=>rfl)) (jV3 rfl (jJy (jJr (i:=1) nd) (jJy (jJr (i:=6) nd) jQu))))
   (jJn (jQb (e_bm lKg lK0 lK1 jKk (jJb 3) (jJa (jJ2 (jJa (jJb 5) (jJa (jJb 6) (jJa (jJp jQg (by rfl) T.n_len lJt (jJa (e_ix (ix_F hu) (jJb 0) (jJb 1) (fun _ _=>rfl)) jJd)) jJd)))) jJd))))))
   (jJn (jKb (jJ2 (jJa (jJb 4) (jJa (jJ1 jKs (by rfl) T.n_tuple rfl (jJa (jJb 3) jJd)) jJd))))))))
theorem kYt (T:Txt K mg):Cal P w K mg base 2 "_law_bent" ["_law_box_here","_law_story_here"] jYo:=
 cal3 T.f_l_bent kQx fun _ _ _ _ _ _ _ hr hu nd=>
  (jJe (jUm (jJb 1) (jV3 rfl (jJy (jJr (i:=2) nd) (jJy (jJr (i:=3) nd) jQu))))
   (jJe (jJw (i:=4) nd (jJ4 (jJs T) (hr.mono (by decide)) (jJa (jJb 0) (jJa jJi jJd))))
   (jJe (s_if (PW3.pt (w_or (jJ7 (jK3 hr.units) (jJb 3) (jJ2 jJd) (jJo _)) (kJ9 (jJ7 (jK3 hr.units) (jJb 4) jJi (jJo _))))) (jJn (jKb (jJ2 (jJa (jJp (kVn rfl) (by rfl) T.n_min rfl (jJa jJi (jJa (jJp (qXh rfl) (by rfl) T.n_max rfl (jJa jJi (jJa (e_op jVz (jJb 2) (e_ix (ix_F hu) (jKy (jJa jJi (jJa (e_un u_neg jJi) jJd))) (jJ4 (jJs T) (hr.mono (by decide)) (jJa (jJb 0) (jJa jJi jJd))) (fun _ _=>rfl))) jJd))) jJd))) (jJa (jJb 3) jJd))))) jJ3)
   (jJe (jJw (i:=5) nd (jJ4 (jJs T) (hr.mono (by decide)) (jJa (jJb 0) (jJa (jJp jQg (by rfl) T.n_len lJt (jJa (jJb 3) jJd)) jJd))))
   (jJe (s_if (jJ7 (jK3 hr.units) (jJb 4) jJi (jJo _)) (jJn (jKb (jJ2 (jJa (jJb 2) (jJa (e_op jVz (jXu sl_F (jJb 3) jZs (jVx (jJb 5))) (jXu sl_F (jJb 3) (jVx (e_op jVz (jJb 5) jJi)) jZs)) jJd))))) jJ3)
   (jJe (s_if (jJ7 (jK3 hr.units) (jJb 4) jJi (jJo _)) (jJn (jKb (jJ2 (jJa (jJb 2) (jJa (jXu sl_F (e_op jVz (jJb 3) (jJ2 (jJa (e_ix (ix_F hu) (jJb 3) (jJb 5) (fun _ _=>rfl)) jJd))) jZs (jVx jJi)) jJd))))) jJ3)
   (jJe (jJw (i:=6) nd (jJ1 qJh (by rfl) T.n_list rfl (jJa (e_ix (ix_F hu) (jJb 3) (jJb 5) (fun _ _=>rfl)) jJd)))
   (jJe (jJw (i:=7) nd (jJ4 (jJs T) (hr.mono (by decide)) (jJa (jJb 0) (jJa jJi jJd))))
   (jJe (jUm (jJp (kVn rfl) (by rfl) T.n_min rfl (jJa jJi (jJa (jJp (qXh rfl) (by rfl) T.n_max rfl (jJa jJi (jJa (e_op jVz (e_ix (ix_F hu) (jJb 6) (jJb 7) (fun _ _=>rfl)) (e_ix (ix_F hu) (jKy (jJa jJi (jJa (e_un u_neg jJi) jJd))) (jJ4 (jJs T) (hr.mono (by decide)) (jJa (jJb 0) (jJa jJi jJd))) (fun _ _=>rfl))) jJd))) jJd))) (jXs (jJb 6) (jJb 7) (s_F hu)))
   (jJn (jKb (jJ2 (jJa (jJb 2) (jJa (e_op jVz (e_op jVz (jXu sl_F (jJb 3) jZs (jVx (jJb 5))) (jJ2 (jJa (jJ1 jKs (by rfl) T.n_tuple rfl (jJa (jJb 6) jJd)) jJd))) (jXu sl_F (jJb 3) (jVx (e_op jVz (jJb 5) jJi)) jZs)) jJd))))))))))))))
theorem kKv (T:Txt K mg):Cal P w K mg base 1 "_law_is_only" ["_law_error","_law_place"] jUt:=
 cal3 T.f_l_is_only jZk fun _ _ _ _ _ _ _ hr hu nd=>
  (jJe (jJw (i:=2) nd (jKy (jJa (jV4 (rel:=[("TooMany",false)]) T.i_NoWeb T.v_NoWeb (jJb 0) T.n_isinstance) (jJa (jV4 (rel:=[("TooMany",false)]) T.i_NoDoor T.v_NoDoor (jJb 0) T.n_isinstance) (jJa (jV4 (rel:=[("TooMany",false)]) T.i_NoStone T.v_NoStone (jJb 0) T.n_isinstance) jJd)))))
   (jJe (jJw (i:=2) nd (e_op o_addF (jJb 2) (jKy (jJa (jV4 (rel:=[("TooMany",true)]) T.i_TooMany T.v_TooMany (jJb 0) T.n_isinstance) (jJa (jV4 (rel:=[("TooMany",false)]) T.i_Clash T.v_Clash (jJb 0) T.n_isinstance) (jJa (jV4 (rel:=[("TooMany",false)]) T.i_NoMark T.v_NoMark (jJb 0) T.n_isinstance) jJd))))))
   (jJe (jJw (i:=2) nd (e_op o_addF (jJb 2) (jKy (jJa (jV4 (rel:=[("TooMany",false)]) T.i_NotWhole T.v_NotWhole (jJb 0) T.n_isinstance) (jJa (jV4 (rel:=[("TooMany",false)]) T.i_BadRow T.v_BadRow (jJb 0) T.n_isinstance) jJd)))))
   (jJn (jKb (kUh (jV4 (rel:=[("TooMany",true)]) T.i_ValueError T.v_ValueError (jJb 0) T.n_isinstance) (kUh (kQa (jK3 hr.units) (e_bm lKg PySem.F.slot_list_count PySem.F.type_list_count qVr (jJb 2) (jJa e_bl jJd)) jJi (jJo _)) (kZz (e_ix (ix_F hu) (jJb 2) (jJb 1) (fun _ _=>rfl))))))))))
theorem kYr (T:Txt K mg):Cal P w K mg base 1 "_law_told" ["_law_doors","_law_ends"] jYm:=
 cal3 T.f_l_told kQv fun _ _ _ _ _ _ _ hr hu nd=>
  (jJe (jJw (i:=2) nd (jKy (jJa jJi jJd)))
   (jJe (jJw (i:=3) nd jJi)
   (jJe (kQu lKf (jJ7 o_lt (jJb 3) (jJp jQg (by rfl) T.n_len lJt (jJa (jJb 2) jJd)) (jJo _)) (jJe (jUv lKf rfl (jKh rfl T.n_range (jJa (e_ix (ix_F hu) (jJb 0) (e_ix (ix_F hu) (jJb 2) (jJb 3) (fun _ _=>rfl)) (fun _ _=>rfl)) jJd)) (jJr (i:=4) nd) (jJe (jJw (i:=5) nd (e_ix (ix_F hu) (e_ix (ix_F hu) (jJb 1) (jJ2 (jJa (e_ix (ix_F hu) (jJb 2) (jJb 3) (fun _ _=>rfl)) (jJa (jJb 4) jJd))) (fun _ _=>rfl)) jJi (fun _ _=>rfl)))
   (jJn (s_if (jJ7 (jVy hu) (jJb 5) (jJb 2) (jJo _)) (jJn (jQb (e_bm lKg lK0 lK1 jKk (jJb 2) (jJa (jJb 5) jJd)))) jJ3))))
   (jJn (jJw (i:=3) nd (e_op o_addF (jJb 3) jJi)))))
   (jJe (jJw (i:=6) nd (jKy jJd))
   (jJe (jUv lKf rfl (jVm (jJb 2)) (jJr (i:=5) nd) (jJe (jYp (i:=7) (mask:=[false,false,false,false,true,false,false,false,false,false]) rfl nd ⟨rfl,rfl,rfl,rfl,rfl,rfl,rfl⟩ (jKh rfl T.n_range (jJa (e_ix (ix_F hu) (jJb 0) (jJb 5) (fun _ _=>rfl)) jJd)) jJ5 (fun C fp s H=>(jJr (i:=4) nd)) (fun C fp s H=>jQn) (fun C fp s H=>(e_ix (ix_F hu) (jJb 1) (jJ2 (jJa (jJb 5) (jJa (jJb 4) jJd))) (fun _ _=>rfl))))
   (jJn (jQb (e_bm lKg lK0 lK1 jKk (jJb 6) (jJa (jJ1 jKs (by rfl) T.n_tuple rfl (jJa (jQv (mask:=[false,false,false,false,false,false,false,false,true,true]) rfl ⟨rfl,rfl,rfl,rfl,rfl,rfl,rfl⟩ (jVm (jJb 7)) (kVc (jUz jJ5 jQa (jUz jJ5 jQa kVd jXz) (kJz jQa jXz))) (fun C fp s H=>(jV3 rfl (jJy (jJr (i:=8) nd) (jJy (jJr (i:=9) nd) jQu)))) (fun C fp s H=>jQn) (fun C fp s H=>(jJ2 (jJa (e_bm lKg PySem.F.slot_list_index PySem.F.type_list_index qVq (jJb 2) (jJa (jJb 8) jJd)) (jJa (jJb 9) jJd))))) jJd)) jJd))))))
   (jJn (jKb (jJ1 jKs (by rfl) T.n_tuple rfl (jJa (jJb 6) jJd)))))))))
theorem kKw (T:Txt K mg):Cal P w K mg base 2 "_law_allowed" ["_law_story_here","_law_most","_law_limit"] jUu:=
 cal3 T.f_l_allowed jZl fun _ _ _ _ _ _ _ hr hu nd=>
  (jJe (jJw (i:=3) nd (jKy jJd))
   (jJe (jJw (i:=4) nd (jKy (jJa (jJ2 (jJa (jKy (jJa (e_ix (ix_F hu) (jJb 0) jJi (fun _ _=>rfl)) jJd)) (jJa qQs (jJa jJi (jJa jJi jJd))))) jJd)))
   (jJe (kQu lKf (PW3.pt (qUu (jJ7 (qVj hr.units) (jJb 4) (jKy jJd) (jJo _)) (kXr (jJ7 (qKv hu) (jJp jQ6 (by rfl) T.n_len lJt (jJa (jJb 3) jJd)) (jJb 2) (jJo _))))) (jJe (jUm (e_bm0 lKg PySem.F.slot_list_pop PySem.F.type_list_pop m_pop (jJb 4)) (jV3 rfl (jJy (jJr (i:=5) nd) (jJy (jJr (i:=6) nd) (jJy (jJr (i:=7) nd) (jJy (jJr (i:=8) nd) jQu))))))
   (jJe (s_if (jJ7 o_gt (e_op kKx (jJp (c_sumE rfl) (by rfl) T.n_sum rfl (jJa (jJb 5) jJd)) (jJp jQ6 (by rfl) T.n_len lJt (jJa (jJb 6) jJd))) (e_op jQ2 jJi (e_op kKx (jJp jQ6 (by rfl) T.n_len lJt (jJa (e_ix (ix_F hu) (jJb 0) jJi (fun _ _=>rfl)) jJd)) (jJb 8))) (jJo _)) (jJn kKj) jJ3)
   (jJe (s_if (jJ7 (jK3 hr.units) (jJb 8) (jJp jQ6 (by rfl) T.n_len lJt (jJa (e_ix (ix_F hu) (jJb 0) jJi (fun _ _=>rfl)) jJd)) (jJo _)) (jJe (jQb (e_bm lKg lK0 lK1 jKk (jJb 3) (jJa (jJ4 (kYr T) (hr.mono (by decide)) (jJa (jJb 5) (jJa (jJb 6) jJd))) jJd)))
   (jJn kKj)) jJ3)
   (jJe (jUm (e_ix (ix_F hu) (e_ix (ix_F hu) (jJb 0) jJi (fun _ _=>rfl)) (jJb 8) (fun _ _=>rfl)) (jV3 rfl (jJy (jJr (i:=9) nd) (jJy (jJr (i:=10) nd) (jJy (jJr (i:=11) nd) jQu)))))
   (jJe (s_if (PW3.pt (w_or (jJ7 o_ge (jJb 9) (e_ix (ix_F hu) (jJb 5) (jJb 7) (fun _ _=>rfl)) (jJo _)) (kJ9 (jJ7 o_ge (jJb 10) (jJb 11) (jJo _))))) (jJn kKj) jJ3)
   (jJe (s_if (jJ7 (qUf hu) (jJ2 (jJa (jJb 7) (jJa (jJb 9) jJd))) (jJb 6) (jJo _)) (jJe (jUm (e_ix (ix_F hu) (jJb 6) (jJ2 (jJa (jJb 7) (jJa (jJb 9) jJd))) (fun _ _=>rfl)) (jV3 rfl (jJy (jJr (i:=12) nd) (jJy (jJr (i:=13) nd) jQu))))
   (jJe (s_if (PW3.pt (qUu (jJ7 (jK3 hr.units) (jJb 13) (jJb 10) (jJo _)) (kXr (jJ7 (jK3 hr.units) (e_ix (ix_F hu) (jJb 5) (jJb 12) (fun _ _=>rfl)) (jJb 11) (jJo _))))) (jJn (jQb (e_bm lKg lK0 lK1 jKk (jJb 4) (jJa (jJ2 (jJa (jJb 5) (jJa (jJb 6) (jJa (jJb 12) (jJa (e_op o_addF (jJb 8) jJi) jJd))))) jJd)))) jJ3)
   (jJn kKj))) jJ3)
   (jJn (jUv lKf rfl (jKh rfl T.n_range (jJa (jJp (kVn rfl) (by rfl) T.n_min rfl (jJa (e_op o_addF (jJp jQ6 (by rfl) T.n_len lJt (jJa (jJb 5) jJd)) jJi) (jJa (jJb 1) jJd))) jJd)) (jJr (i:=12) nd) (jJn (s_if (PW3.pt (w_or (jJ7 (jK3 hr.units) (jJb 12) (jJp jQ6 (by rfl) T.n_len lJt (jJa (jJb 5) jJd)) (jJo _)) (kJ9 (PW3.pt (qUu (jJ7 (jK3 hr.units) (e_ix (ix_F hu) (jJb 5) (jJb 12) (fun _ _=>rfl)) (jJb 11) (jJo _)) (kXr (jJ7 (jVy hu) (jJ2 (jJa (jJb 12) (jJa (jJb 10) jJd))) (jJb 6) (jJo _)))))))) (jJe (jJw (i:=14) nd (jJ1 qJi (by rfl) T.n_dict rfl (jJa (jJb 6) jJd)))
   (jJe (jUm (jJ2 (jJa (jJb 12) (jJa (jJb 10) jJd))) (jXs (jJb 14) (jJ2 (jJa (jJb 7) (jJa (jJb 9) jJd))) (s_F hu)))
   (jJe (jUm (jJ2 (jJa (jJb 7) (jJa (jJb 9) jJd))) (jXs (jJb 14) (jJ2 (jJa (jJb 12) (jJa (jJb 10) jJd))) (s_F hu)))
   (jJn (jQb (e_bm lKg lK0 lK1 jKk (jJb 4) (jJa (jJ2 (jJa (e_op o_addF (jJb 5) (e_op jQ2 (jKy (jJa (jJb 11) jJd)) (jJ1 c_int (by rfl) T.n_int rfl (jJa (kQa (jK3 hr.units) (jJb 12) (jJp jQ6 (by rfl) T.n_len lJt (jJa (jJb 5) jJd)) (jJo _)) jJd)))) (jJa (jJb 14) (jJa (jJb 12) (jJa (e_op o_addF (jJb 8) jJi) jJd))))) jJd))))))) jJ3)))))))))))
   (jJn (jKb (jJb 3))))))
theorem kV4 (T:Txt K mg):Cal P w K mg base 3 "_law_drawn" ["_law_box_here"] jXc:=
 cal3 T.f_l_drawn kKm fun _ _ _ _ _ _ _ hr hu nd=>
  (jJe (jJw (i:=1) nd (jJ4 (jJs T) (hr.mono (by decide)) (jJa (jJb 0) (jJa jJi jJd))))
   (jJe (s_if (jJ7 (jK3 hr.units) (jJb 1) jJi (jJo _)) (jJe (jJw (i:=2) nd (e_op o_addF jJi (jJ4 (jJs T) (hr.mono (by decide)) (jJa (jJb 0) (jJa jJi jJd)))))
   (jJe (jJw (i:=3) nd (e_ix (ix_F hu) (jKy (jJa (jJ4 (jJs T) (hr.mono (by decide)) (jJa (jJb 0) (jJa jJi jJd))) (jJa jJi (jJa jJi jJd)))) (jJ4 (jJs T) (hr.mono (by decide)) (jJa (jJb 0) (jJa jJi jJd))) (fun _ _=>rfl)))
   (jJn (jKb (jJ2 (jJa (e_op jQ2 jJi (jJb 2)) (jJa (jJ1 jKs (by rfl) T.n_tuple rfl (jJa (jQv (mask:=[false,false,false,false,false,false,false,false,false,true]) rfl ⟨rfl,rfl,rfl,rfl,rfl,rfl,rfl⟩ (jKh rfl T.n_range (jJa (jJb 3) jJd)) jJ5 (fun C fp s H=>(jJr (i:=9) nd)) (fun C fp s H=>jQn) (fun C fp s H=>(jJ2 (jJa (e_op jQ2 jJi (e_op jYx (jJb 9) (jJb 2))) (jJa (e_op o_addF (e_op jQ2 jJi (e_op jYx (jJb 9) (jJb 2))) jJi) (jJa (e_op jQ2 jJi (jJb 2)) jJd)))))) jJd)) jJd))))))) jJ3)
   (jJe (s_if (jJ7 (jK3 hr.units) (jJb 1) jJi (jJo _)) (jJe (jJw (i:=4) nd (e_op o_addF jJi (jJ4 (jJs T) (hr.mono (by decide)) (jJa (jJb 0) (jJa jJi jJd)))))
   (jJe (jYp (i:=5) (mask:=[false,false,false,false,false,false,false,false,false,true]) rfl nd ⟨rfl,rfl,rfl,rfl,rfl,rfl,rfl⟩ (jKh rfl T.n_range (jJa (jJ4 (jJs T) (hr.mono (by decide)) (jJa (jJb 0) (jJa jJi jJd))) jJd)) jJ5 (fun C fp s H=>(jJr (i:=9) nd)) (fun C fp s H=>jQn) (fun C fp s H=>(jJ2 (jJa (jJ4 (jJs T) (hr.mono (by decide)) (jJa (jJb 0) (jJa (jJb 4) jJd))) (jJa (jJ4 (jJs T) (hr.mono (by decide)) (jJa (jJb 0) (jJa (jJb 4) jJd))) (jJa (jJb 4) jJd))))))
   (jJn (jKb (jJ2 (jJa (jJb 4) (jJa (jJ1 jKs (by rfl) T.n_tuple rfl (jJa (jJb 5) jJd)) jJd))))))) jJ3)
   (jJe (jJw (i:=6) nd (e_op o_addF jJi (jJ4 (jJs T) (hr.mono (by decide)) (jJa (jJb 0) (jJa jJi jJd)))))
   (jJe (jJw (i:=7) nd (jJ4 (qKr T) (hr.mono (by decide)) (jJa (jJb 0) (jJa (jJb 6) (jJa (jJ4 (jJs T) (hr.mono (by decide)) (jJa (jJb 0) (jJa jJi jJd))) jJd)))))
   (jJe (jJw (i:=8) nd (jJ4 (jJs T) (hr.mono (by decide)) (jJa (jJb 0) (jJa (jJb 6) jJd))))
   (jJn (jKb (jJ4 (kV3 T) (hr.mono (by decide)) (jJa (jJb 7) (jJa (jJb 8) (jJa (jJ4 (qKs T) (hr.mono (by decide)) (jJa (jJb 0) (jJa (jJb 7) (jJa (jJb 8) (jJa (e_ix (ix_F hu) (jKy (jJa jJi (jJa jJi (jJa jJi (jJa jJi jJd))))) (jJ4 (jJs T) (hr.mono (by decide)) (jJa (jJb 0) (jJa jJi jJd))) (fun _ _=>rfl)) jJd))))) jJd))))))))))))
theorem jU7 [BuB base mg] (T:Txt K mg):Cal P w K mg base 13 "_law_right" ["_law_story_here","_law_most"] jKz:=
 cal3L T.f_l_right T.lm__law_right kKl fun _ _ _ _ _ _ _ Lm hr hu nd=>
  (jJe (jJw (i:=2) nd (kZy Lm (jJ4 (kKw T) (hr.mono (by decide)) (jJa (jJb 0) (jJa (jJb 1) (jJa jJi jJd)))) (hr.mono (by decide)) (S:=by exact⟨rfl,rfl,rfl,by decide +kernel,rfl,by decide +kernel,by decide +kernel⟩) T.n_sorted T.n_len (hbind:=by intros;rfl) (hcl:=by rfl) (hdef:=by rfl)))
   (jJe (jUv lKf rfl (jKh rfl T.n_range (jJa jJi jJd)) (jJr (i:=3) nd) (jJe (jJw (i:=4) nd kUf)
   (jJe (jJw (i:=5) nd kUf)
   (jJe (s_try (i:=6) (cs:=["TooMany"]) (fun _ _ h=>h) nd (qUv (sx_set (i:=5) nd (ex_cal (fun _ _ h=>h) (kV6 (mg:=mg) (base:=base) T) (hr.mono (by decide)) (jJa (jJb 0) (jJa (jJb 1) jJd))))) (fun a=>(jJn (jJw (i:=4) nd (jJb 6)))) T.t_WebError)
   (jJn (s_if (jJ7 o_gt (jJp jQg (by rfl) T.n_len lJt (jJa (jJb 2) jJd)) jJi (jJo _)) (jJn (s_if (PW3.pt (w_or (jJ7 qVk (jJb 4) kUf (jJo _)) (kJ9 (kKd (kQq (jJ4 (kKv T) (hr.mono (by decide)) (jJa (jJb 4) (jJa jJi jJd)))))))) (jJn (jKb e_bl)) jJ3)) (jJn (s_if (PW3.pt (w_or (jJ7 o_notN (jJb 4) kUf (jJo _)) (kJ9 (kKd (kQq (jJ4 (kYs T) (hr.mono (by decide)) (jJa (jJb 5) (jJa (jJb 2) jJd)))))))) (jJn (jKb e_bl)) (jJn (jQb (e_bm lKg lK0 lK1 jKk (jJb 5) (jJa (jJ2 (jJa (jJ2 jJd) jJd)) jJd))))))))))))
   (jJn (jKb e_bl))))
theorem ok_law [BuB base mg] (T:Txt K mg) {f:Addr} {fd:FuncData} (F:Fun K "law" "law" (top 40) f fd):Fn3 P w K mg base 14 f fd ["_law_script"] kX3:=by
 have S:FnScope N_law ["_law_script"] (jJq (top 40)):=⟨rfl,rfl,rfl,by decide +kernel,rfl,by decide +kernel,by decide +kernel⟩
 refine fn3 F S fun cdv A outer s H E hr=>⟨kUy,?_,qKh⟩
 have hu:=qQj hr
 have nd:=S.nd
 refine jJe ?_ ?_
 ·exact (jUv lKf rfl (jVm (jJ4 (kV5 T) (hr.mono (by decide)) (jJa (jJb 0) (jJa jJi jJd)))) (jJr (i:=1) nd) (jJe (jJw (i:=2) nd (jJ4 (kV4 T) (hr.mono (by decide)) (jJa (jJb 1) jJd)))
   (jJe (s_if (jJ7 (jK3 hr.units) (jJ4 (jJs T) (hr.mono (by decide)) (jJa (jJb 1) (jJa jJi jJd))) jJi (jJo _)) (jJn (jJw (i:=2) nd (jJ4 (kYt T) (hr.mono (by decide)) (jJa (jJb 1) (jJa (jJb 2) jJd))))) jJ3)
   (jJn (s_if (kKd (kQq (jJ4 (jU7 (mg:=mg) (base:=base) T) (hr.mono (by decide)) (jJa (jJb 2) (jJa (e_op o_addF jJi (jJ4 (jJs T) (hr.mono (by decide)) (jJa (jJb 1) (jJa jJi jJd)))) jJd))))) (jJn (jKb e_bl)) jJ3)))))
 refine jJe ?_ ?_
 ·refine jJw (i:=3) ?_ ?_
  ·exact nd
  ·refine qXa ?_ ?_ ?_ ?_ ?_ ?_
   ·exact kXh
   ·exact (jJ2 (jJa jJi (jJa jJi (jJa jJi jJd))))
   ·exact kXh
   ·exact (jJ2 (jJa jJi (jJa jJi (jJa jJi jJd))))
   ·exact kXh
   ·exact (jJ2 (jJa jJi (jJa jJi (jJa jJi jJd))))
 refine jJe ?_ ?_
 ·exact (jUv lKf rfl (jVm (jJ2 (jJa kXh (jJa kXh jJd)))) (jJr (i:=4) nd) (jJn (s_if (kKd (kQq (jJ4 (jU7 (mg:=mg) (base:=base) T) (hr.mono (by decide)) (jJa (jJ2 (jJa jJi (jJa (jJ1 jKs (by rfl) T.n_tuple rfl (jJa (jQv (mask:=[false,false,false,false,false,true]) rfl ⟨rfl,rfl,rfl,rfl,rfl,rfl,rfl⟩ (i_text (jJb 4)) jJ5 (fun C fp s H=>(jJr (i:=5) nd)) (fun C fp s H=>jQn) (fun C fp s H=>(e_ix (ix_F hu) (jJb 3) (jJb 5) (fun _ _=>rfl)))) jJd)) jJd))) (jJa jJi jJd))))) (jJn (jKb e_bl)) jJ3)))
 exact (jJn (jKb (kUh (jJ4 (jU7 (mg:=mg) (base:=base) T) (hr.mono (by decide)) (jJa (jJ2 (jJa jJi (jJa (jJ2 jJd) jJd))) (jJa jJi jJd))) (kZz (jJ4 (jU7 (mg:=mg) (base:=base) T) (hr.mono (by decide)) (jJa (jJ2 (jJa jJi (jJa (jJ2 jJd) jJd))) (jJa jJi jJd)))))))
def qUx (K:PySem.W.Frag):Sp:=dn K 1 kX3
theorem con_at {K:PySem.W.Frag} {h:Heap} {mg:Str->Option Value} {x:Str} {i:Int} {v:Value} (X:K.In h) (G:h.Ns mainGlobals mg) (a:PySem.W.nsIn K mainGlobals x=some (some v)) (b:∃t,v=Value.int i t):qXq mg x i:=by
 obtain⟨t,rfl⟩:=b
 exact⟨t,lK8 X G a⟩
theorem fn_at {K:PySem.W.Frag} {h:Heap} {mg:Str->Option Value} {x:Str} {i:Nat} {f:Addr} {oc:Value} {od an:Option Addr} {osl:Array (Option Value)} {kV doc pm cdv ct:Value} (X:K.In h) (G:h.Ns mainGlobals mg) (a:PySem.W.nsIn K mainGlobals x=some (some (.ref f)))
  (l:K.lookup f=some ⟨oc,od,.func (PySem.W.fnOf x x (jUh (top i)) (jKr (top i)) (jJq (top i)) .none kV doc pm an cdv ct),osl⟩) (c:PySem.W.codeIn K cdv x=true) (k:PySem.W.keepIn K (.ref f)=true):FnAt K mg x i:=⟨f,_,lK8 X G a,fun_mk l c k⟩
theorem all_mk {l:PySem.W.OpenLaw} {w:World} {K:PySem.W.Frag} {mg:Str->Option Value} {fa:Addr} (hfa:mg "law"=some (.ref fa)) (T:Txt K mg):
  ∃fd:FuncData,(∀(s:Shared) (v:Value),BindsTo s fd ⟨[v],[]⟩ [("_law_script",v)])/\∀base:Heap,K.In base->base.Ns mainGlobals mg->BuB base mg->FnOk l.prog w K mg base CX0 14 fa fd ["_law_script"] (qUx K):=by
 obtain⟨f,fd,a,F⟩:=T.f_law
 cases hfa.symm.trans a
 refine⟨fd,fun s v=> ?_,fun base _ _ B=>ok_law T F⟩
 obtain⟨_,_,kV,doc,pm,an,cdv,ct,_,e,_⟩:=F.ex
 subst e
 exact .of_eq rfl
theorem fr_ofT {K:PySem.W.Frag} {H:Hp} {a:Addr} {xs:List V} (hO:qQ0 tabs H) (hS:SqL K H a xs):FrL K H a xs:=by
 rcases hS with h | h
 ·rcases h with h | ⟨ob,h⟩
  ·rcases hO a with z | ⟨o,ys,z⟩ | ⟨_,z⟩
   ·rw[z] at h;cases h
   ·rw[z] at h;cases h
   ·rw[z] at h;cases h
  ·exact .inl ⟨ob,h⟩
 ·exact .inr h
theorem jKw {K:PySem.W.Frag} {H:Hp}:∀ns:List Int,Reps K H (jQf ns) (ns.map V.int)
 | []=>rfl
 | n::ns=>⟨_,_,rfl,rfl,jKw ns⟩
theorem walk {l:PySem.W.OpenLaw} {q:Program} {loose:List Str} {XP:(Str->Option Value)->Heap->Prop} {YP:World->Heap->Prop} {d:DefRec} {K:Params->PySem.W.Frag} (hn:l.most=some 63) (hdf:d.params.defaults=[])
  (hY:∀(w:World) (h:Heap),YP w h->(K w.params).In h/\PySem.W.TabsAt tabs h) (hKT:∀(w:World) b,b∈tabs.map (·.2)->(K w.params).lookup b=none)
  (F:∀(w:World) (mg:Str->Option Value) (fa:Addr) (h:Heap),(K w.params).In h->h.Ns mainGlobals mg->mg d.name=some (.ref fa)->
   ∃fd:FuncData,(∀(s:Shared) (u:Value),BindsTo s fd ⟨[u],[]⟩ [("_law_script",u)])/\∀base:Heap,(K w.params).In base->base.Ns mainGlobals mg->BuB base mg->FnOk l.prog w (K w.params) mg base CX0 14 fa fd ["_law_script"] (qUx (K w.params))):
  PySem.W.WalkO q loose XP YP l.row.toRowW d [] (fun f vs=>PySem.call f vs):=
 L2.walk_ofT tabs (n:=63) (k:=14) (x:="_law_script") (CX:=fun _=>CX0) (sp:=fun w=>qUx (K w.params)) hn (by decide) hdf ⟨rfl,rfl,by decide,by decide⟩ hY hKT F
  (fun _ _ a ns hl hO hO2 hS=>⟨rfl,[.scr (jQf ns)],G0,⟨_,_,rfl,⟨a,_,rfl,fr_ofT hO hS,jKw ns⟩,rfl⟩,g0_rel hO2,ns,rfl,hl,tbs0,fun G' v H' _ _ r=>r⟩) fun _ _ _ _ _ z=>z
end W
def PySem.W.Fast.tw12785288683912381258 : Unit := ()
def PySem.W.Fast.tw8297594243969144223 : Unit := ()
def PySem.W.Fast.tw8690276812771311482 : Unit := ()
def PySem.W.Fast.tw10200714942885868941 : Unit := ()
def PySem.W.Fast.tw3623863085145275278 : Unit := ()
def PySem.W.Fast.tw6900096698720627533 : Unit := ()
def PySem.W.Fast.tw10124009000290769519 : Unit := ()
def PySem.W.Fast.tw6847568412971275377 : Unit := ()
def PySem.W.Fast.tw5141726955420825547 : Unit := ()
def PySem.W.Fast.tw14613977771449981952 : Unit := ()
def PySem.W.Fast.tw10081259522183466075 : Unit := ()
def PySem.W.Fast.tw11308108946123906931 : Unit := ()
def PySem.W.Fast.tw17665079775256984402 : Unit := ()
def PySem.W.Fast.tw5500417874777701993 : Unit := ()
def PySem.W.Fast.tw3987628373968668260 : Unit := ()
def PySem.W.Fast.tw4205396203813736722 : Unit := ()
def PySem.W.Fast.tw3408355051634420075 : Unit := ()
def PySem.W.Fast.tw9950625407313520577 : Unit := ()
def PySem.W.Fast.tw7188740259767160375 : Unit := ()
def PySem.W.Fast.tw16674722604748479217 : Unit := ()
def PySem.W.Fast.tw15884729466334514458 : Unit := ()
def PySem.W.Fast.tw10014655358851453388 : Unit := ()
def PySem.W.Fast.tw1503568731740015537 : Unit := ()
def PySem.W.Fast.tw14741017420876128124 : Unit := ()
def PySem.W.Fast.tw9922303187291878135 : Unit := ()
def PySem.W.Fast.tw9425079773652549192 : Unit := ()
def PySem.W.Fast.tw9112213504461315612 : Unit := ()
def PySem.W.Fast.tw3108790859214319497 : Unit := ()
def PySem.W.Fast.tw16966383042711377461 : Unit := ()
def PySem.W.Fast.tw12637141782917393026 : Unit := ()
def PySem.W.Fast.tw11404650902056190442 : Unit := ()
def PySem.W.Fast.tw4578861423335402168 : Unit := ()
def PySem.W.Fast.tw10532992843608815174 : Unit := ()
def PySem.W.Fast.tw13558111906718897956 : Unit := ()
def PySem.W.Fast.tw4247926570824156036 : Unit := ()
def PySem.W.Fast.tw3035635548655867792 : Unit := ()
def PySem.W.Fast.tw12282861551044068997 : Unit := ()
def PySem.W.Fast.tw2805670097511924930 : Unit := ()
def PySem.W.Fast.tw17785803018381082164 : Unit := ()
def PySem.W.Fast.tw12021539173459554432 : Unit := ()
def PySem.W.Fast.tw13276836736444253019 : Unit := ()
def PySem.W.Fast.tw7624250490686526379 : Unit := ()
def PySem.W.Fast.tw2208385655295730938 : Unit := ()
def PySem.W.Fast.tw10566099134936058444 : Unit := ()
def PySem.W.Fast.tw4764334283202406657 : Unit := ()
def PySem.W.Fast.tw9043835342739862525 : Unit := ()
def PySem.W.Fast.tw13598223438676805522 : Unit := ()
def PySem.W.Fast.tw9106690518896766614 : Unit := ()
def PySem.W.Fast.tw15049074645710252612 : Unit := ()
def PySem.W.Fast.tw6899003881486169361 : Unit := ()
def PySem.W.Fast.tw16892365356220027684 : Unit := ()
def PySem.W.Fast.tw13695639532122373886 : Unit := ()
def PySem.W.Fast.tw12406108710397838183 : Unit := ()
def PySem.W.Fast.tw14866929606953387368 : Unit := ()
def PySem.W.Fast.tw15037556172797598254 : Unit := ()
def PySem.W.Fast.tw9913040284639817093 : Unit := ()
def PySem.W.Fast.tw15500278459893118187 : Unit := ()
def PySem.W.Fast.tw4505435615703519483 : Unit := ()
def PySem.W.Fast.tw1418151301488847158 : Unit := ()
def PySem.W.Fast.tw2052735535327843117 : Unit := ()
def PySem.W.Fast.tw4299475226639862531 : Unit := ()
def PySem.W.Fast.tw9175882099102599719 : Unit := ()
def PySem.W.Fast.tw8531473636318423283 : Unit := ()
def PySem.W.Fast.tw14858378246868239993 : Unit := ()
def PySem.W.Fast.tw17137417359470877388 : Unit := ()
def PySem.W.Fast.tw13372663202472836109 : Unit := ()
def PySem.W.Fast.tw17142771678903809041 : Unit := ()
def PySem.W.Fast.tw14377906412949440359 : Unit := ()
def PySem.W.Fast.tw15497617548882277585 : Unit := ()
def PySem.W.Fast.tw13249129365694999343 : Unit := ()
def PySem.W.Fast.tw17992416129654798758 : Unit := ()
def PySem.W.Fast.tw14890075643087918942 : Unit := ()
def PySem.W.Fast.tw17208160055475434376 : Unit := ()
def PySem.W.Fast.tw16776355586001964339 : Unit := ()
def PySem.W.Fast.tw3227921875926610820 : Unit := ()
def PySem.W.Fast.tw14140792274501472625 : Unit := ()
def PySem.W.Fast.tw5738672867921362030 : Unit := ()
def PySem.W.Fast.tw17980888071178045181 : Unit := ()
def PySem.W.Fast.tw8258879513261590800 : Unit := ()
def PySem.W.Fast.tw12678003514726244209 : Unit := ()
def PySem.W.Fast.tw9825521132181774252 : Unit := ()
def PySem.W.Fast.tw11912204387577447943 : Unit := ()
def PySem.W.Fast.tw8846703572751983430 : Unit := ()
def PySem.W.Fast.tw17449156400291731661 : Unit := ()
def PySem.W.Fast.tw13926943168162245102 : Unit := ()
def PySem.W.Fast.tw5560832485085875244 : Unit := ()
def PySem.W.Fast.tw15068625593171857182 : Unit := ()
def PySem.W.Fast.tw13752849107603904275 : Unit := ()
def PySem.W.Fast.tw14412644053608804559 : Unit := ()
def PySem.W.Fast.tw10801150856668545546 : Unit := ()
def PySem.W.Fast.tw6979669849592654684 : Unit := ()
def PySem.W.Fast.tw3517033453472884715 : Unit := ()
def PySem.W.Fast.tw46591080862474072 : Unit := ()
def PySem.W.Fast.tw2501741852382891302 : Unit := ()
def PySem.W.Fast.tw10018946114782080914 : Unit := ()
def PySem.W.Fast.tw17152141266679380358 : Unit := ()
def PySem.W.Fast.tw6997749333807981730 : Unit := ()
def PySem.W.Fast.tw4131851134786528081 : Unit := ()
def PySem.W.Fast.tw4705326823540162805 : Unit := ()
def PySem.W.Fast.tw12479504342263985355 : Unit := ()
def PySem.W.Fast.tw10518506987620982976 : Unit := ()
def PySem.W.Fast.tw5848388178619418965 : Unit := ()
def PySem.W.Fast.tw6992792979814915822 : Unit := ()
def PySem.W.Fast.tw17197381698021764951 : Unit := ()
def PySem.W.Fast.tw948747440639612057 : Unit := ()
def PySem.W.Fast.tw2535737137324249449 : Unit := ()
def PySem.W.Fast.tw12082507134194129842 : Unit := ()
def PySem.W.Fast.tw6540205279664521245 : Unit := ()
def PySem.W.Fast.tw13235589482698695007 : Unit := ()
def PySem.W.Fast.tw18230268840728731694 : Unit := ()
def PySem.W.Fast.tw8627852723312559894 : Unit := ()
def PySem.W.Fast.tw16494908097276210280 : Unit := ()
def PySem.W.Fast.tw10625578588488583917 : Unit := ()
def PySem.W.Fast.tw16741325724482396312 : Unit := ()
def PySem.W.Fast.tw5354056740399337250 : Unit := ()
def PySem.W.Fast.tw437938732928207021 : Unit := ()
def PySem.W.Fast.tw3763571660311378465 : Unit := ()
def PySem.W.Fast.tw16273635280985471302 : Unit := ()
def PySem.W.Fast.tw4060108349555439994 : Unit := ()
def PySem.W.Fast.tw8772086603184852168 : Unit := ()
def PySem.W.Fast.tw7806059269654988419 : Unit := ()
def PySem.W.Fast.tw11831648895885990618 : Unit := ()
def PySem.W.Fast.tw85267502392715830 : Unit := ()
def PySem.W.Fast.tw9890278231336406321 : Unit := ()
def PySem.W.Fast.tw6841525011418566052 : Unit := ()
def PySem.W.Fast.tw14996489898723900827 : Unit := ()
def PySem.W.Fast.tw15199650669907686807 : Unit := ()
def PySem.W.Fast.tw4688813335499088219 : Unit := ()
def PySem.W.Fast.tw3342353234006477311 : Unit := ()
def PySem.W.Fast.tw1111061170009059624 : Unit := ()
def PySem.W.Fast.tw4501864826229517554 : Unit := ()
def PySem.W.Fast.tw270692611275051886 : Unit := ()
def PySem.W.Fast.tw15724127014143552766 : Unit := ()
def PySem.W.Fast.tw14638588695018289527 : Unit := ()
def PySem.W.Fast.tw16813796893180704172 : Unit := ()
def PySem.W.Fast.tw123792389781564718 : Unit := ()
def PySem.W.Fast.tw14255771552717696334 : Unit := ()
def PySem.W.Fast.tw17437299624063359935 : Unit := ()
def PySem.W.Fast.tw11514514727944512951 : Unit := ()
def PySem.W.Fast.tw3120170840289651198 : Unit := ()
def PySem.W.Fast.tw5628767701276083463 : Unit := ()
def PySem.W.Fast.tw12697920041246074045 : Unit := ()
open PySem PySem.W PyProof.Rows
set_option maxRecDepth 100000 in
set_option maxHeartbeats 0 in
theorem PySem.Challenge.cw_stonewalker_k50_webs_that_a_story_allows_holds : PySem.Challenge.rw_stonewalker_k50_webs_that_a_story_allows.Holds := by
 w_on;o_law;k_head;(case hw=>w_witness2)
 k_fill
 refine W.walk (l:=PySem.Challenge.rw_stonewalker_k50_webs_that_a_story_allows) rfl rfl (fun w h Y=>⟨km_in_of Y,?TT⟩) ?KT ?F
 case TT=>exact List.forall_mem_cons.mpr ⟨⟨codeHd_of_K (c:=198) (P:=196) (km_in_of Y) (by kernel_rfl),km_tabs_of Y 196 (by k_mem)⟩,List.forall_mem_cons.mpr ⟨⟨codeHd_of_K (c:=284) (P:=280) (km_in_of Y) (by kernel_rfl),km_tabs_of Y 280 (by k_mem)⟩,fun _ h=>nomatch h⟩⟩
 case KT=>intro w;exact W.kt (by kernel_rfl) (by kernel_rfl)
 case F=>
  intro w mg fa h KX G hmg
  refine W.all_mk hmg ?T
  constructor
  iterate 16 (refine PySem.W.mg_none_of KX G ?_;k_is)
  (refine' L3.exc_mk KX G ?x0_a ?x0_q;(case x0_a=>k_is);(case x0_q=>k_exc))
  (refine' L3.lam_at KX G ?x1_a ?x1_l ?x1_e ?x1_d;(case x1_a=>k_is);(case x1_l=>k_is);(case x1_e=>rfl);(case x1_d=>kernel_rfl))
  (refine' L3.rel1 ⟨?x2_D,?x2_vs,?x2_a,⟨?x2_k1,?x2_k2,?x2_k3,?x2_k4,?x2_k5,lKq.mpr ((lQp.mp ?x2_k5).imp fun _ h=>h.1)⟩,.cons (.inl (lK8 KX G ?z2_NoStone)) (.nil),?x2_q⟩;(case x2_a=>unfold L3.CN;k_is);(case z2_NoStone=>k_is);(case x2_k1=>k_is);(case x2_k2=>k_is);(case x2_k3=>k_is);(case x2_k4=>k_is);(case x2_k5=>k_is);(case x2_q=>kit_is))
  (refine' L3.clsv_own KX G ?x3_b;(case x3_b=>k_is))
  (refine' L3.rel1 ⟨?x4_D,?x4_vs,?x4_a,⟨?x4_k1,?x4_k2,?x4_k3,?x4_k4,?x4_k5,lKq.mpr ((lQp.mp ?x4_k5).imp fun _ h=>h.1)⟩,.cons (.inl (lK8 KX G ?z4_NoDoor)) (.nil),?x4_q⟩;(case x4_a=>unfold L3.CN;k_is);(case z4_NoDoor=>k_is);(case x4_k1=>k_is);(case x4_k2=>k_is);(case x4_k3=>k_is);(case x4_k4=>k_is);(case x4_k5=>k_is);(case x4_q=>kit_is))
  (refine' L3.clsv_own KX G ?x5_b;(case x5_b=>k_is))
  (refine' L3.rel1 ⟨?x6_D,?x6_vs,?x6_a,⟨?x6_k1,?x6_k2,?x6_k3,?x6_k4,?x6_k5,lKq.mpr ((lQp.mp ?x6_k5).imp fun _ h=>h.1)⟩,.cons (.inl (lK8 KX G ?z6_NoWeb)) (.nil),?x6_q⟩;(case x6_a=>unfold L3.CN;k_is);(case z6_NoWeb=>k_is);(case x6_k1=>k_is);(case x6_k2=>k_is);(case x6_k3=>k_is);(case x6_k4=>k_is);(case x6_k5=>k_is);(case x6_q=>kit_is))
  (refine' L3.clsv_own KX G ?x7_b;(case x7_b=>k_is))
  (refine' L3.rel1 ⟨?x8_D,?x8_vs,?x8_a,⟨?x8_k1,?x8_k2,?x8_k3,?x8_k4,?x8_k5,lKq.mpr ((lQp.mp ?x8_k5).imp fun _ h=>h.1)⟩,.cons (.inl (lK8 KX G ?z8_NoMark)) (.nil),?x8_q⟩;(case x8_a=>unfold L3.CN;k_is);(case z8_NoMark=>k_is);(case x8_k1=>k_is);(case x8_k2=>k_is);(case x8_k3=>k_is);(case x8_k4=>k_is);(case x8_k5=>k_is);(case x8_q=>kit_is))
  (refine' L3.clsv_own KX G ?x9_b;(case x9_b=>k_is))
  (refine' L3.rel1 ⟨?x10_D,?x10_vs,?x10_a,⟨?x10_k1,?x10_k2,?x10_k3,?x10_k4,?x10_k5,lKq.mpr ((lQp.mp ?x10_k5).imp fun _ h=>h.1)⟩,.cons (.inl (lK8 KX G ?z10_Clash)) (.nil),?x10_q⟩;(case x10_a=>unfold L3.CN;k_is);(case z10_Clash=>k_is);(case x10_k1=>k_is);(case x10_k2=>k_is);(case x10_k3=>k_is);(case x10_k4=>k_is);(case x10_k5=>k_is);(case x10_q=>kit_is))
  (refine' L3.clsv_own KX G ?x11_b;(case x11_b=>k_is))
  (refine' L3.rel1 ⟨?x12_D,?x12_vs,?x12_a,⟨?x12_k1,?x12_k2,?x12_k3,?x12_k4,?x12_k5,lKq.mpr ((lQp.mp ?x12_k5).imp fun _ h=>h.1)⟩,.cons (.inl (lK8 KX G ?z12_TooMany)) (.nil),?x12_q⟩;(case x12_a=>unfold L3.CN;k_is);(case z12_TooMany=>k_is);(case x12_k1=>k_is);(case x12_k2=>k_is);(case x12_k3=>k_is);(case x12_k4=>k_is);(case x12_k5=>k_is);(case x12_q=>kit_is))
  (refine' L3.clsv_own KX G ?x13_b;(case x13_b=>k_is))
  (refine' L3.rel1 ⟨?x14_D,?x14_vs,?x14_a,⟨?x14_k1,?x14_k2,?x14_k3,?x14_k4,?x14_k5,lKq.mpr ((lQp.mp ?x14_k5).imp fun _ h=>h.1)⟩,.cons (.inl (lK8 KX G ?z14_BadRow)) (.nil),?x14_q⟩;(case x14_a=>unfold L3.CN;k_is);(case z14_BadRow=>k_is);(case x14_k1=>k_is);(case x14_k2=>k_is);(case x14_k3=>k_is);(case x14_k4=>k_is);(case x14_k5=>k_is);(case x14_q=>kit_is))
  (refine' L3.clsv_own KX G ?x15_b;(case x15_b=>k_is))
  (refine' L3.rel1 ⟨?x16_D,?x16_vs,?x16_a,⟨?x16_k1,?x16_k2,?x16_k3,?x16_k4,?x16_k5,lKq.mpr ((lQp.mp ?x16_k5).imp fun _ h=>h.1)⟩,.cons (.inl (lK8 KX G ?z16_NotWhole)) (.nil),?x16_q⟩;(case x16_a=>unfold L3.CN;k_is);(case z16_NotWhole=>k_is);(case x16_k1=>k_is);(case x16_k2=>k_is);(case x16_k3=>k_is);(case x16_k4=>k_is);(case x16_k5=>k_is);(case x16_q=>kit_is))
  (refine' L3.clsv_own KX G ?x17_b;(case x17_b=>k_is))
  (refine' L3.rel1 ⟨?x18_D,?x18_vs,?x18_a,⟨?x18_k1,?x18_k2,?x18_k3,?x18_k4,?x18_k5,lKq.mpr ((lQp.mp ?x18_k5).imp fun _ h=>h.1)⟩,.cons (.inr ⟨PySem.W.mg_none_of KX G ?z18_ValueError,rfl⟩) (.nil),?x18_q⟩;(case x18_a=>unfold L3.CN;k_is);(case z18_ValueError=>k_is);(case x18_k1=>k_is);(case x18_k2=>k_is);(case x18_k3=>k_is);(case x18_k4=>k_is);(case x18_k5=>k_is);(case x18_q=>kit_is))
  (refine' L3.clsv_blt KX G ?x19_b rfl;(case x19_b=>k_is))
  (refine' L3.lam_at KX G ?x20_a ?x20_l ?x20_e ?x20_d;(case x20_a=>k_is);(case x20_l=>k_is);(case x20_e=>rfl);(case x20_d=>kernel_rfl))
  (refine' L3.sub1 (L3.exsub_mk KX G ?x21_a ?x21_b ?x21_q);(case x21_a=>k_is);(case x21_b=>k_is);(case x21_q=>kts_exm))
  (refine' W.con_at KX G ?a ?b;(case a=>k_is);(case b=>exact⟨_,rfl⟩))
  iterate 24 (refine' W.fn_at KX G ?a ?l ?c ?k;(case a=>k_is);(case l=>k_is);(case c=>k_is);(case k=>k_is))
