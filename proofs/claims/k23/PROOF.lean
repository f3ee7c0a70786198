
import PyProof.Rows.All
import Wide.All
import OpenK.AllK
import Wide.FinOn
import Lean
import PyProof.EqAt
import PyProof.EqKinds
import PyProof.TupleCall
import PySem.Challenge.RW_stonewalker_k23_what_can_be_learnt
def lJa:=@List.getElem?_eq_getElem
def lJb:=@List.getElem?_eq_some_iff
def lJc:=@List.length_map
def lJd:=@Nat.le_refl
def lJe:=@List.getElem?_map
def lJf:=@List.mem_of_getElem?
def lJg:=@List.mem_map
def lJh:=@List.map_cons
def lJi:=@List.mem_cons
def lJj:=@List.map_map
def lJk:=@List.getElem?_eq_none
def lJl:=@Bool.false_ne_true
def lJm:=@List.getElem?_of_mem
def lJn:=@List.mem_range
def lJo:=@Nat.ne_of_lt
def lJp:=@List.size_toArray
def lJq:=@List.mem_cons_self
def lJr:=@Option.some.inj
def lJs:=@List.mem_cons_of_mem
def lJt:=@Nat.zero_le
def lJu:=@List.not_mem_nil
def lJv:=@List.mem_singleton
def lJw:=@List.getElem?_range
def lJx:=@List.ext_getElem?
def lJy:=@List.length_cons
def lJz:=@Nat.lt_of_lt_of_le
def lJ0:=@Nat.not_lt_zero
def lJ1:=@List.length_range
def lJ2:=@List.length_append
def lJ3:=@List.getElem?_set_ne
def lJ4:=@List.mem_append
def lJ5:=@Nat.lt_or_ge
def lJ6:=@List.getElem?_set_self
def lJ7:=@Array.length_toList
def lJ8:=@List.nodup_cons
def lJ9:=@Option.map_some
def lKa:=@Bool.false_eq_true
def lKb:=@Nat.le_trans
def lKc:=@List.mem_append_right
def lKd:=@List.idxOf_lt_length_of_mem
def lKe:=@Bool.and_eq_true
def lKf:=@Int.eq_ofNat_of_zero_le
def lKg:=@List.map_append
def lKh:=@List.getElem?_append_left
def lKi:=@Option.map_eq_some_iff
def lKj:=@List.lookup_cons
def lKk:=@List.range_succ
def lKl:=@List.map_congr_left
def lKm:=@List.getElem?_inj
def lKn:=@List.length_nil
def lKo:=@Nat.le_of_lt_succ
def lKp:=@List.mem_append_left
def lKq:=@List.length_set
def lKr:=@List.replicate_succ
def lKs:=@List.find?_cons
def lKt:=@List.take_length
def lKu:=@List.getElem_idxOf
def lKv:=@Nat.ne_of_gt
def lKw:=@List.all_cons
def lKx:=@List.any_cons
def lKy:=@List.all_eq_true
def lKz:=@List.take_succ
def lK0:=@Array.getElem?_eq_getElem
def lK1:=@Nat.mod_lt
def lK2:=@List.cons.injEq
def lK3:=@Nat.mod_eq_of_lt
def lK4:=@Classical.byContradiction
def lK5:=@Nat.lt_irrefl
def lK6:=@List.getElem_of_mem
def lK7:=@Array.getElem?_toList
def lK8:=@List.filterMap_cons
def lK9:=@List.length_take
def lQa:=@List.getElem?_append_right
def lQb:=@List.flatten_cons
def lQc:=@Nat.succ_mul
def lQd:=@List.nodup_append
def lQe:=@Array.getElem?_eq_none
def lQf:=@List.nodup_range
def lQg:=@List.append_nil
def lQh:=@List.mem_filterMap
def lQi:=@List.foldl_cons
def lQj:=@List.nodup_nil
def lQk:=@List.zip_cons_cons
def lQl:=@Nat.lt_or_eq_of_le
def lQm:=@Option.some.injEq
def lQn:=@List.getD_eq_getElem?_getD
def lQo:=@List.mem_filter
def lQp:=@List.append_assoc
def lQq:=@List.length_eq_zero_iff
def lQr:=@List.filterMap_append
def lQs:=@Int.emod_nonneg
def lQt:=@Int.emod_lt_of_pos
def lQu:=@List.filterMap_cons_some
def lQv:=@List.getElem_mem
def lQw:=@Nat.lt_succ_self
def lQx:=@List.exists_cons_of_length_eq_add_one
def lQy:=@List.getElem?_zipWith
def lQz:=@List.length_filter_le
def lQ0:=@List.getElem?_replicate
def lQ1:=@List.getElem?_zip_eq_some
def lQ2:=@Array.getElem?_eq_some_iff
def lQ3:=@Array.getD_eq_getD_getElem?
local macro_rules
 | `(tactic| omega) => `(tactic| lia)
set_option Elab.async false
set_option linter.all false
set_option maxRecDepth 100000
namespace L2
open PySem PySem.Spec PyProof.Rows
noncomputable abbrev Key:=Sum Int Str
noncomputable def jYo:Key->Value->Bool
 | .inl k,v=>Value.isInt k v
 | .inr x,v=>Value.isStrOf x v
noncomputable def keyH (w:World):Key->Int
 | .inl k=>hashInt k
 | .inr x=>hashStr w x
theorem jJw:∀ {k:Key} {v:Value},jYo k v=true->(∃i t,k=Sum.inl i/\v=Value.int i t)\/(∃x t,k=Sum.inr x/\v=Value.str x t)
 | .inl i,v,h=>by
  obtain⟨t,e⟩:=Value.isInt_shape (k:=i) (v:=v) h
  exact .inl ⟨i,t,rfl,e⟩
 | .inr x,v,h=>by
  obtain⟨t,e⟩:=Value.isStrOf_shape (x:=x) (v:=v) h
  exact .inr ⟨x,t,rfl,e⟩
theorem keyIs_int (i:Int) (t:Tok):jYo (.inl i) (.int i t)=true:=by simp[jYo,Value.isInt]
theorem keyIs_str (x:Str) (t:Tok):jYo (.inr x) (.str x t)=true:=by simp[jYo,Value.isStrOf]
theorem key_ll (a b:Int):decide ((Sum.inl a:Key)=Sum.inl b)=(a == b):=by
 by_cases e:a=b
 ·subst e;simp
 ·have h:¬ (Sum.inl a:Key)=Sum.inl b:=fun q=>e (Sum.inl.inj q)
  rw[decide_eq_false h]
  exact (beq_eq_false_iff_ne.mpr e).symm
theorem key_rr (a b:Str):decide ((Sum.inr a:Key)=Sum.inr b)=decide (a=b):=by
 by_cases e:a=b
 ·subst e;simp
 ·have h:¬ (Sum.inr a:Key)=Sum.inr b:=fun q=>e (Sum.inr.inj q)
  rw[decide_eq_false h,decide_eq_false e]
theorem key_lr (a:Int) (b:Str):decide ((Sum.inl a:Key)=Sum.inr b)=false:=decide_eq_false (fun q=>nomatch q)
theorem key_rl (a:Str) (b:Int):decide ((Sum.inr a:Key)=Sum.inl b)=false:=decide_eq_false (fun q=>nomatch q)
noncomputable def jQg (prog:Program) (w:World):PySem.KeyKind prog w Key where
 is:=jYo
 hash:=keyH w
 inj:=fun v a b ha hb=>by
  rcases jJw ha with ⟨i,t,rfl,rfl⟩ | ⟨x,t,rfl,rfl⟩
  ·rcases jJw hb with ⟨j,u,rfl,e⟩ | ⟨y,u,rfl,e⟩
   ·injection e with e1 _;rw[e1]
   ·exact nomatch e
  ·rcases jJw hb with ⟨j,u,rfl,e⟩ | ⟨y,u,rfl,e⟩
   ·exact nomatch e
   ·injection e with e1 _;rw[e1]
 byValue:=fun k v h=>by
  rcases jJw h with ⟨i,t,rfl,rfl⟩ | ⟨x,t,rfl,rfl⟩<;>rfl
 pyHash:=fun hv h=>by
  rcases jJw hv with ⟨i,t,rfl,rfl⟩ | ⟨x,t,rfl,rfl⟩
  ·exact wpAny_pyHash_int h
  ·exact wpAny_pyHash_str h
 eqBool:=fun hu hv h=>by
  rcases jJw hu with ⟨i,t,rfl,rfl⟩ | ⟨x,t,rfl,rfl⟩
  ·rcases jJw hv with ⟨j,u,rfl,rfl⟩ | ⟨y,u,rfl,rfl⟩
   ·rw[key_ll] at h;exact wpAny_eqBool_int h
   ·rw[key_lr] at h;exact SeqAt.EqAt.int_str i t y u _ _ _ _ h
  ·rcases jJw hv with ⟨j,u,rfl,rfl⟩ | ⟨y,u,rfl,rfl⟩
   ·rw[key_rl] at h;exact SeqAt.EqAt.str_int x t j u _ _ _ _ h
   ·rw[key_rr] at h;exact wpAny_eqBool_str h
 «strs» :=fun k x t v h=>by
  rcases jJw h with ⟨i,u,rfl,e⟩ | ⟨y,u,rfl,e⟩
  ·exact nomatch e
  ·injection e with e1 _
   subst e1
   cases v<;>rfl
theorem mixKind_int (prog:Program) (w:World) (i:Int) (t:Tok):(jQg prog w).is (.inl i) (.int i t)=true:=keyIs_int i t
theorem mixKind_str (prog:Program) (w:World) (x:Str) (t:Tok):(jQg prog w).is (.inr x) (.str x t)=true:=keyIs_str x t
end L2
set_option synthInstance.maxSize 1000
namespace L2
open PySem PySem.Spec PyProof.Rows
structure KeyV (prog:Program) (w:World) (K:Type) [DecidableEq K] (c:Nat) where
 is:Heap->K->Value->Prop
 hash:K->Int
 draws:K->Nat
 inj:∀ {h:Heap} {v:Value} {x y:K},is h x v->is h y v->x=y
 keeps:∀ {h h':Heap} {k:K} {v:Value} {d:Addr} {o:Obj} {es:Array DictEntry} {ep:Nat},is h k v->h.get? d=some o->o.data= .dict es ep->Heap.SameBut d h h'->is h' k v
 hashed:∀ {A:Around} {E:Value->Shared->Prop} {s:Shared} {k:K} {v:Value} {Q:Int->Shared->Prop},A.units+c<cLine->is s.heap k v->Q (hash k) {s with toks:=s.toks+draws k}->wpAny (model prog w) A (PySem.pyHash v) Q E s
 eqAt:∀ {A:Around} {s:Shared} {x y:K} {u v:Value},A.units+c<cLine->is s.heap x u->is s.heap y v->SeqAt.EqAt A s u v (decide (x=y))
 quiet:∀ {A:Around} {E:Value->Shared->Prop} {s:Shared} {k:K} {v:Value} {Q:Bool->Shared->Prop} (n:Nat),c<=n->is s.heap k v->Q true s->wpAny (model prog w) A (eqIsQuiet n v) Q E s
noncomputable def jZ6 (prog:Program) (w:World):KeyV prog w Key 0 where
 is:=fun _ k v=>jYo k v=true
 hash:=keyH w
 draws:=fun _=>1
 inj:=fun hx hy=>(jQg prog w).inj _ _ _ hx hy
 keeps:=fun x _ _ _=>x
 hashed:=fun _ hv h=>(jQg prog w).pyHash hv h
 eqAt:=fun _ hx hy prog' w' _ _ h=>(jQg prog' w').eqBool hx hy h
 quiet:=fun n _ hv h=>by rw[eqIsQuiet_byValue n ((jQg prog w).byValue _ _ hv)];exact wpAny_pure h
section
variable {prog:Program} {w:World} {K:Type} [DecidableEq K] {c:Nat}
inductive ItemsV (V:KeyV prog w K c) (h:Heap):List K->List Value->Prop
 | nil:ItemsV V h [] []
 | cons {k:K} {v:Value} {ks:List K} {vs:List Value}:V.is h k v->ItemsV V h ks vs->ItemsV V h (k::ks) (v::vs)
theorem ItemsV.inj {V:KeyV prog w K c} {h:Heap} {x:List K} {vs:List Value} (hx:ItemsV V h x vs):∀ {y:List K},ItemsV V h y vs->x=y:=by
 induction hx with
 | nil=>intro y hy;cases hy;rfl
 | cons a _ ih=>intro y hy;cases hy with | cons b t=>rw[V.inj a b,ih t]
theorem ItemsV.length {V:KeyV prog w K c} {h:Heap} {x:List K} {vs:List Value} (hx:ItemsV V h x vs):x.length=vs.length:=by
 induction hx with
 | nil=>rfl
 | cons _ _ ih=>simp[ih]
theorem ItemsV.get {V:KeyV prog w K c} {h:Heap} {x:List K} {vs:List Value} (hx:ItemsV V h x vs):∀ {j:Nat} {v:Value},vs[j]? =some v->∃k,x[j]? =some k/\V.is h k v:=by
 induction hx with
 | nil=>intro j v e;simp at e
 | cons a _ ih=>
  intro j v e
  cases j with
  | zero=>simp at e;subst e;exact⟨_,rfl,a⟩
  | succ j=>obtain⟨k,h1,h2⟩:=ih (j:=j) (v:=v) (by simpa using e);exact⟨k,by simpa using h1,h2⟩
theorem ItemsV.keeps {V:KeyV prog w K c} {h h':Heap} {x:List K} {vs:List Value} {d:Addr} {o:Obj} {es:Array DictEntry} {ep:Nat} (hx:ItemsV V h x vs) (ho:h.get? d=some o) (hd:o.data= .dict es ep) (hs:Heap.SameBut d h h'):ItemsV V h' x vs:=by
 induction hx with
 | nil=>exact .nil
 | cons a _ ih=>exact .cons (V.keeps a ho hd hs) ih
def kKw (V:KeyV prog w K c) (h:Heap) (ks:List K) (v:Value):Prop:=∃(a:Addr) (o:Obj) (items:Array Value) (n:Nat),v= .ref a/\h.get? a=some o/\o.cls= .type "tuple"/\o.data= .seq items n/\ItemsV V h ks items.toList
theorem all_eq:∀(x y:List K),((List.range (min x.length y.length)).all (fun j=>decide (x[j]? =y[j]?))&&x.length == y.length)=decide (x=y):=by
 intro x y
 by_cases e:x=y
 ·subst e;simp
 ·rw[decide_eq_false e,Bool.and_eq_false_iff]
  by_cases l:x.length=y.length
  ·left
   rw[List.all_eq_false]
   have:∃j:Nat,x[j]? ≠y[j]? :=by
    apply lK4
    intro q
    exact e (lJx fun j=>lK4 fun z=>q ⟨j,z⟩)
   obtain⟨j,hj⟩:=this
   refine⟨j,lJn.mpr ?_,by simpa using hj⟩
   rcases lJ5 j (min x.length y.length) with z | z
   ·exact z
   ·exact absurd (by rw[lJk (by omega),lJk (by omega)]) hj
  ·right;simpa using l
noncomputable def jVr (V:KeyV prog w K c):KeyV prog w (List K) (c+2) where
 is:=kKw V
 hash:=fun ks=>reduceHash (Builtin.Tuple.tupleHashOf (ks.map V.hash))
 draws:=fun ks=>(ks.map V.draws).sum+1
 inj:=by
  rintro h v x y ⟨a,o,items,n,rfl,ho,_,hd,hi⟩ ⟨a',o',items',n',e,ho',_,hd',hi'⟩
  cases e
  rw[ho] at ho';cases ho'
  rw[hd] at hd';cases hd'
  exact hi.inj hi'
 keeps:=by
  rintro h h' k v d o es ep ⟨a,o',items,n,rfl,ho',hc,hd',hi⟩ ho hd hs
  have ne:a≠d:=by
   rintro rfl
   rw[ho] at ho';cases ho'
   rw[hd] at hd';cases hd'
  exact⟨a,o',items,n,rfl,(hs.2 a ne).trans ho',hc,hd',hi.keeps ho hd hs⟩
 hashed:=by
  rintro A E s ks v Q hu ⟨a,o,items,n,rfl,ho,hc,hd,hi⟩ h
  refine PySem.W.pyHash_slot (T:="tuple") ⟨o,ho,hc⟩ F.slot_tuple_hash F.entry_tuple_hash (F.args_tuple_hash_1 _) (beq_builtin_none _) (.inr (by omega)) ?_
  refine (show wpAny _ _ (Builtin.Tuple.tupleItemsOf (.ref a) >>= _) _ _ s from wpAny_bind (wpAny_tupleItemsOf ho hd (wpAny_bind ?_)))
  rw[<-Array.forIn_toList]
  refine wpAny_forIn_list _ (fun rest (b:Array Int) z=>∃done left,ks=done++left/\ItemsV V s.heap left rest/\b.toList=done.map V.hash/\z={s with toks:=s.toks+(done.map V.draws).sum}) _ ?_ ?_ _ _ ⟨[],ks,rfl,hi,rfl,rfl⟩
  ·rintro x rest b z ⟨done,left,rfl,hl,hb,rfl⟩
   cases hl with
   | @cons k _ ks' _ h1 hl'=>
    refine wpAny_bind (V.hashed (by rw[Around.in1_units];omega) h1 ?_)
    first
     | exact wpAny_pure ⟨done++[k],ks',by simp,hl',by simp[hb],(by simp[Nat.add_assoc])⟩
     | exact wpAny_bind (wpAny_pure (wpAny_pure ⟨done++[k],ks',by simp,hl',by simp[hb],(by simp[Nat.add_assoc])⟩))
  ·rintro b z ⟨done,left,rfl,hl,hb,rfl⟩
   cases hl
   rw[lQg] at h
   refine (show wpAny _ _ (retInt (Builtin.Tuple.tupleHashOf b.toList)) _ _ _ from ?_)
   rw[hb]
   exact wpAny_bind (wpAny_mkInt (wpAny_pure ⟨_,_,rfl,by simpa[Nat.add_assoc] using h⟩))
 eqAt:=by
  rintro A s x y u v hu ⟨a,o,items,n,rfl,ho,hc,hd,hi⟩ ⟨a',o',items',n',rfl,ho',hc',hd',hi'⟩
  by_cases e:a=a'
  ·subst e
   rw[ho] at ho';cases ho'
   rw[hd] at hd';cases hd'
   rw[hi.inj hi',decide_eq_true rfl]
   exact SeqAt.EqAt.same _
  ·have R:=SeqAt.RcAt.tuples (A:=A) (s:=s) (l:=a) (b:=a') (e:=fun j=>decide (x[j]? =y[j]?)) ⟨o,ho,hc,n,hd⟩ ⟨o',ho',hc',n',hd'⟩ (by omega) (fun j j1 j2=> ?_)
   ·have l1:=hi.length
    have l2:=hi'.length
    rw[<-all_eq x y,l1,l2]
    have R':=SeqAt.EqAt.of_refs e R
    simpa using R'
   ·obtain⟨k,h1,h2⟩:=hi.get (j:=j) (v:=items[j]) (by simp[j1])
    obtain⟨k',h1',h2'⟩:=hi'.get (j:=j) (v:=items'[j]) (by simp[j2])
    have:=V.eqAt (A:=A.in1) (s:=s) (by rw[Around.in1_units];omega) h2 h2'
    rw[h1,h1']
    simpa using this
 quiet:=by
  rintro A E s ks v Q n hn ⟨a,o,items,m,rfl,ho,hc,hd,hi⟩ h
  obtain⟨n,rfl⟩:∃nn,n=nn+1:=⟨n-1,by omega⟩
  have hT:s.TypeIs (.ref a) "tuple":=⟨o,ho,hc⟩
  unfold eqIsQuiet;refine wpAny_bind (wpAny_specialOf hT F.slot_tuple_eq.lookup ?_)
  refine (show wpAny _ _ (isInstance (.ref a) (.type "tuple") >>= _) _ _ s from wpAny_bind (wpAny_isInstance hT isSubtype_tuple_tuple ?_))
  simp only[if_false,Bool.not_true,lKa]
  refine wpAny_bind (wpAny_seqItems ho hd (wpAny_bind ?_))
  refine (show wpAny _ _ (forIn items _ _) _ _ s from ?_)
  rw[<-Array.forIn_toList]
  refine wpAny_forIn_list _ (fun rest r z=>r.1=none/\z=s/\∃left,ItemsV V s.heap left rest) _ ?_ ?_ _ _ ⟨rfl,rfl,ks,hi⟩
  ·rintro x rest r z ⟨hr,rfl,left,hl⟩
   cases hl with
   | cons h1 hl'=>
    refine wpAny_bind (V.quiet n (by omega) h1 ?_)
    simp only[if_false,Bool.not_true,lKa]
    exact wpAny_pure ⟨rfl,rfl,_,hl'⟩
  ·rintro⟨r1,r2⟩ z ⟨hr,rfl,_⟩
   simp only at hr;subst hr
   exact wpAny_pure h
theorem dec_inl {α β:Type} [DecidableEq α] [DecidableEq β] (a b:α):decide ((Sum.inl a:α ⊕ β)=Sum.inl b)=decide (a=b):=by
 by_cases e:a=b
 ·simp[e]
 ·rw[decide_eq_false e,decide_eq_false fun z=>e (Sum.inl.inj z)]
theorem dec_inr {α β:Type} [DecidableEq α] [DecidableEq β] (a b:β):decide ((Sum.inr a:α ⊕ β)=Sum.inr b)=decide (a=b):=by
 by_cases e:a=b
 ·simp[e]
 ·rw[decide_eq_false e,decide_eq_false fun z=>e (Sum.inr.inj z)]
noncomputable def sumVK (V:KeyV prog w K c):KeyV prog w (Key ⊕ List K) (c+2) where
 is:=fun h k v=>match k with
  | .inl k=>jYo k v=true
  | .inr ks=>kKw V h ks v
 hash:=fun k=>match k with
  | .inl k=>keyH w k
  | .inr ks=>(jVr V).hash ks
 draws:=fun k=>match k with
  | .inl _=>1
  | .inr ks=>(jVr V).draws ks
 inj:=by
  rintro h v (x | x) (y | y) hx hy
  ·rw[(jQg prog w).inj _ _ _ hx hy]
  ·obtain⟨a,_,_,_,rfl,_⟩:=hy
   rcases jJw hx with ⟨i,t,_,e⟩ | ⟨i,t,_,e⟩<;>cases e
  ·obtain⟨a,_,_,_,rfl,_⟩:=hx
   rcases jJw hy with ⟨i,t,_,e⟩ | ⟨i,t,_,e⟩<;>cases e
  ·rw[(jVr V).inj hx hy]
 keeps:=by
  rintro h h' (k | k) v d o es ep hx ho hd hs
  ·exact hx
  ·exact (jVr V).keeps hx ho hd hs
 hashed:=by
  rintro A E s (k | k) v Q hu hx h
  ·exact (jQg prog w).pyHash hx h
  ·exact (jVr V).hashed hu hx h
 eqAt:=by
  rintro A s (x | x) (y | y) u v hu hx hy
  ·rw[dec_inl]
   exact (jZ6 prog w).eqAt (by omega) hx hy
  ·rw[decide_eq_false fun z=>nomatch z]
   obtain⟨a,o,items,n,rfl,ho,hc,hd,_⟩:=hy
   rcases jJw hx with ⟨i,t,_,rfl⟩ | ⟨i,t,_,rfl⟩
   ·exact SeqAt.EqAt.int_tuple i t ⟨o,ho,hc,n,hd⟩ (by omega)
   ·exact SeqAt.EqAt.str_tuple i t ⟨o,ho,hc,n,hd⟩ (by omega)
  ·rw[decide_eq_false fun z=>nomatch z]
   obtain⟨a,o,items,n,rfl,ho,hc,hd,_⟩:=hx
   rcases jJw hy with ⟨i,t,_,rfl⟩ | ⟨i,t,_,rfl⟩
   ·exact SeqAt.EqAt.tuple_int i t ⟨o,ho,hc,n,hd⟩ (by omega)
   ·exact SeqAt.EqAt.tuple_str i t ⟨o,ho,hc,n,hd⟩ (by omega)
  ·rw[dec_inr]
   exact (jVr V).eqAt hu hx hy
 quiet:=by
  rintro A E s (k | k) v Q n hn hx h
  ·exact (jZ6 prog w).quiet n (lJt _) hx h
  ·exact (jVr V).quiet n hn hx h
end
noncomputable abbrev K1:=Key ⊕ List Key
noncomputable abbrev K2:=Key ⊕ List K1
noncomputable abbrev TKey:=List K2
noncomputable def vk1 (prog:Program) (w:World):KeyV prog w K1 2:=sumVK (jZ6 prog w)
noncomputable def vk2 (prog:Program) (w:World):KeyV prog w K2 4:=sumVK (vk1 prog w)
noncomputable def jJg (prog:Program) (w:World):HeapKind prog w TKey where
 is:=fun h ks a=>(jVr (vk2 prog w)).is h ks (.ref a)
 hash:=(jVr (vk2 prog w)).hash
 draws:=(jVr (vk2 prog w)).draws
 room:=fun A=>A.units+6<cLine
 inj:=fun hx hy=>(jVr (vk2 prog w)).inj hx hy
 keeps:=fun x ho hd hs=>(jVr (vk2 prog w)).keeps x ho hd hs
 pyHash:=fun hu hk h=>(jVr (vk2 prog w)).hashed hu hk h
 eqBool:=fun hu hx hy h=>(jVr (vk2 prog w)).eqAt hu hx hy _ _ _ _ h
 quiet:=fun hk h=>(jVr (vk2 prog w)).quiet 8 (by decide) hk h
theorem jUj {prog:Program} {w:World} {A:Around} (hu:A.units+20<cLine):(jJg prog w).room A.in1:=by
 show A.in1.units+6<cLine
 rw[Around.in1_units];omega
end L2
namespace L2
open PySem PySem.Spec PyProof.Rows
inductive V where
 | non | bl (b:Bool) | int (i:Int) | str (x:Str) | byt (b:Array UInt8) | flt (b:UInt64) | ref (a:Addr) | ty (n:String)
 deriving DecidableEq
noncomputable def RelV:V->Value->Prop
 | .non,u=>u=Value.none
 | .bl b,u=>u=Value.bool b
 | .int i,u=>∃t,u=Value.int i t
 | .str x,u=>∃t,u=Value.str x t
 | .byt b,u=>∃t,u=Value.bytes b t
 | .flt b,u=>∃t,u=Value.float b t
 | .ref a,u=>u=Value.ref a
 | .ty n,u=>u=Value.type n
noncomputable abbrev Vals:List V->List Value->Prop:=Paired RelV
theorem Vals.length {xs:List V} {us:List Value} (r:Vals xs us):xs.length=us.length:=Paired.length r
theorem Vals.get:∀ {xs:List V} {us:List Value} {i:Nat} {x:V},Vals xs us->xs[i]? =some x->∃u,us[i]? =some u/\RelV x u
 | _,_,_,_,.nil,e=>by simp at e
 | _,_,0,_,.cons r _,e=>by simp at e;subst e;exact⟨_,rfl,r⟩
 | _,_,i+1,x,.cons _ t,e=>by
  obtain⟨u,h1,h2⟩:=Vals.get (i:=i) (x:=x) t (by simpa using e)
  exact⟨u,by simpa using h1,h2⟩
theorem Vals.set {x:V} {u:Value} (r:RelV x u):∀ {xs:List V} {us:List Value} (i:Nat),Vals xs us->Vals (xs.set i x) (us.set i u)
 | _,_,_,.nil=> .nil
 | _,_,0,.cons _ t=> .cons r t
 | _,_,i+1,.cons q t=> .cons q (Vals.set r i t)
theorem Vals.append:∀ {xs ys:List V} {us ws:List Value},Vals xs us->Vals ys ws->Vals (xs++ys) (us++ws)
 | _,_,_,_,.nil,s=>s
 | _,_,_,_,.cons r t,s=> .cons r (Vals.append t s)
theorem Vals.take:∀ {xs:List V} {us:List Value} (n:Nat),Vals xs us->Vals (xs.take n) (us.take n)
 | _,_,0,_=> .nil
 | _,_,_+1,.nil=> .nil
 | _,_,n+1,.cons r t=> .cons r (Vals.take n t)
theorem Vals.drop:∀ {xs:List V} {us:List Value} (n:Nat),Vals xs us->Vals (xs.drop n) (us.drop n)
 | _,_,0,r=>r
 | _,_,_+1,.nil=> .nil
 | _,_,n+1,.cons _ t=>Vals.drop n t
noncomputable def RelO:Option V->Option Value->Prop
 | some v,some u=>RelV v u
 | none,none=>True
 | _,_=>False
noncomputable def KV {κ:Type}:List (κ×V)->List (κ×Value)->Prop:=Paired fun (p:κ×V) (q:κ×Value)=>p.1=q.1/\RelV p.2 q.2
noncomputable def kV:Key->V
 | .inl i=> .int i
 | .inr x=> .str x
inductive HO where
  | lst (xs:List V)
  | tup (xs:List V)
  | dK (kvs:List (Key×V)) | dT (kvs:List (TKey×V))
  | set (S:Int->Bool) (n:Nat)
  | ins (C dx:Addr) (fs:List (Str×V))
  | own (x:Addr)
  | xd (fs:List (Str×V))
  | met (f x:Addr)
  | rng (lo hi:Int)
  | frz (o:Obj) (u:HO)
  | tbl (ps:Array Value)
  | ext (φ:Heap->Prop)
noncomputable abbrev Hp:=Addr->Option HO
noncomputable def upd (H:Hp) (a:Addr) (o:HO):Hp:=fun b=>if b=a then some o else H b
theorem jUc {H:Hp} {a:Addr} {o:HO}:upd H a o a=some o:=by unfold upd;rw[if_pos rfl]
theorem jKx {H:Hp} {a b:Addr} {o:HO} (h:b≠a):upd H a o b=H b:=by unfold upd;rw[if_neg h]
theorem ne_of {H:Hp} {a b:Addr} {o u:HO} (h:H a=some o) (h':H b=some u) (d:o≠u):a≠b:=by
 intro e;subst e;rw[h] at h';exact d (lJr h')
theorem jV1 {H:Hp} {a b:Addr} {o:HO} (h:H a=some o) (h':H b=none):a≠b:=by
 intro e;subst e;rw[h] at h';cases h'
def Rk1 (H:Hp) (k:K1) (v:V):Prop:=match k with
 | .inl k=>v=kV k
 | .inr ks=>∃p vs,v= .ref p/\H p=some (.tup vs)/\Paired (fun k v=>v=kV k) ks vs
def Rk2 (H:Hp) (k:K2) (v:V):Prop:=match k with
 | .inl k=>v=kV k
 | .inr ks=>∃p vs,v= .ref p/\H p=some (.tup vs)/\Paired (Rk1 H) ks vs
def TKeyAt (H:Hp) (ks:TKey) (a:Addr):Prop:=∃vs,H a=some (.tup vs)/\Paired (Rk2 H) ks vs
theorem jYm {α β:Type} {F G:α->β->Prop} (f:∀a b,F a b->G a b):∀ {l:List α} {m:List β},Paired F l m->Paired G l m
 | _,_,.nil=> .nil
 | _,_,.cons r t=> .cons (f _ _ r) (jYm f t)
theorem Rk1.mono {H H':Hp} (ht:∀b ys,H b=some (.tup ys)->H' b=some (.tup ys)) (k:K1) (v:V) (r:Rk1 H k v):Rk1 H' k v:=by
 cases k with
 | inl k=>exact r
 | inr ks=>obtain⟨p,vs,e,h,t⟩:=r;exact⟨p,vs,e,ht _ _ h,t⟩
theorem Rk2.mono {H H':Hp} (ht:∀b ys,H b=some (.tup ys)->H' b=some (.tup ys)) (k:K2) (v:V) (r:Rk2 H k v):Rk2 H' k v:=by
 cases k with
 | inl k=>exact r
 | inr ks=>obtain⟨p,vs,e,h,t⟩:=r;exact⟨p,vs,e,ht _ _ h,jYm (Rk1.mono ht) t⟩
theorem TKeyAt.mono {H H':Hp} {ks:TKey} {a:Addr} (r:TKeyAt H ks a) (ht:∀b ys,H b=some (.tup ys)->H' b=some (.tup ys)):TKeyAt H' ks a:=by
 obtain⟨vs,h,t⟩:=r;exact⟨vs,ht _ _ h,jYm (Rk2.mono ht) t⟩
section
variable (P:Program) (w:World)
def TupD (h:Heap) (a:Addr) (items:Array Value):Prop:=∃o,h.get? a=some o/\o.cls= .type "tuple"/\∃n,o.data= .seq items n/\o.dict=none
theorem TupD.is {h:Heap} {a:Addr} {items:Array Value} (x:TupD h a items):IsTup h a items:=let ⟨o,e,c,n,d,_⟩:=x;⟨o,e,c,n,d⟩
theorem TupD.new (h:Heap) (items:Array Value):TupD (h.push {cls:= .type "tuple",data:= .seq items}) h.objs.size items:=⟨_,Heap.get?_push_size _ rfl,rfl,_,rfl,rfl⟩
noncomputable def ObjOk (H:Hp) (h:Heap) (a:Addr):HO->Prop
 | .lst xs=>xs.length<=sizeLine/\∃(its:List Value) (n:Nat),Vals xs its/\h.get? a=some {cls:= .type "list",data:= .seq its.toArray n}
 | .tup xs=>xs.length<=sizeLine/\∃its:List Value,Vals xs its/\TupD h a its.toArray
 | .dK kvs=>kvs.length<=sizeLine/\(a == sysModules)=false/\∃vs,KV kvs vs/\h.DictOf (jQg P w) a vs
 | .dT kvs=>kvs.length<=sizeLine/\(a == sysModules)=false/\∃xs:List (TKey×Addr×Value),
   Paired (fun (p:TKey×V) (q:TKey×Addr×Value)=>p.1=q.1/\TKeyAt H p.1 q.2.1/\RelV p.2 q.2.2) kvs xs/\
   ∃o es ep,h.get? a=some o/\o.ExactDict/\o.data= .dict es ep/\es.toList=xs.map (entryOfKey (jJg P w))/\(xs.map (·.1)).Nodup
 | .set S n=>h.SetOf (intKind P w) a S n
 | .ins C dx fs=>H dx=some (.own a)/\fs.length<=1000/\dx≠a/\h.get? a=some (PySem.W.instObj C dx)/\
   ∃mA,h.Ns1 dx mA/\(∀f,RelO (fs.lookup f) (mA f))/\PySem.Within mA (fs.map (·.1))
 | .own _=>∃o,h.get? a=some o
 | .xd fs=>∃mA,h.Ns1 a mA/\∀f,RelO (fs.lookup f) (mA f)
 | .rng lo hi=>∃t u v,h.get? a=some {cls:= .type "range",data:= .fields #[.int lo t,.int hi u,.int 1 v]}
 | .frz o u=>h.get? a=some o/\ObjOk H h a u
 | .tbl ps=>h.get? a=some {cls:= .none,data:= .fields ps}
 | .met f x=>h.get? a=some (PySem.W.methodObj (.ref f) (.ref x))
 | .ext φ=>φ h/\(∃o,h.get? a=some o)/\∀h1 h2:Heap,φ h1->(∀o,h1.get? a=some o->h2.get? a=some o)->φ h2
def HOk (H:Hp) (h:Heap):Prop:=∀a o,H a=some o->ObjOk P w H h a o
end
section
variable {P:Program} {w:World} {H H':Hp} {h h':Heap} {a:Addr} {o:HO}
theorem ObjOk.lt (x:ObjOk P w H h a o):a<h.objs.size:=by
 cases o with
 | lst xs=>obtain⟨_,_,_,_,e⟩:=x;exact Heap.lt_size e
 | tup xs=>obtain⟨_,_,_,p⟩:=x;exact p.is.lt
 | dK kvs=>obtain⟨_,_,_,_,o,_,_,e,_⟩:=x;exact Heap.lt_size e
 | dT kvs=>obtain⟨_,_,_,_,o,_,_,e,_⟩:=x;exact Heap.lt_size e
 | set S n=>obtain⟨o,_,_,_,e,_⟩:=x;exact Heap.lt_size e
 | ins C dx fs=>obtain⟨_,_,_,e,_⟩:=x;exact Heap.lt_size e
 | own y=>obtain⟨_,e⟩:=x;exact Heap.lt_size e
 | xd fs=>obtain⟨_,⟨_,_,_,e,_⟩,_⟩:=x;exact Heap.lt_size e
 | rng lo hi=>obtain⟨_,_,_,e⟩:=x;exact Heap.lt_size e
 | frz ob u=>obtain⟨e,_⟩:=x;exact Heap.lt_size e
 | tbl ps=>exact Heap.lt_size (show h.get? a=some _ from x)
 | met f y=>exact Heap.lt_size (show h.get? a=some _ from x)
 | ext φ=>obtain⟨_,⟨_,e⟩,_⟩:=x;exact Heap.lt_size e
theorem Paired.mapP {α β:Type} {F G:α->β->Prop}:∀ {l₁:List α} {l₂:List β},Paired F l₁ l₂->(∀a b,F a b->G a b)->Paired G l₁ l₂
 | _,_,.nil,_=> .nil
 | _,_,.cons r t,f=> .cons (f _ _ r) (Paired.mapP t f)
theorem ObjOk.stay (x:ObjOk P w H h a o) (k:∀b u,(b=a\/H b=some (.own a))->h.get? b=some u->h'.get? b=some u)
  (ho:∀b,H b=some (.own a)->H' b=some (.own a)) (ht:∀b xs,H b=some (.tup xs)->H' b=some (.tup xs)):ObjOk P w H' h' a o:=by
 induction o with
 | lst xs=>obtain⟨z,its,n,r,e⟩:=x;exact⟨z,its,n,r,k _ _ (.inl rfl) e⟩
 | tup xs=>obtain⟨z,its,r,ob,e,c⟩:=x;exact⟨z,its,r,ob,k _ _ (.inl rfl) e,c⟩
 | dK kvs=>obtain⟨z,y,vs,r,ob,es,ep,e,c⟩:=x;exact⟨z,y,vs,r,ob,es,ep,k _ _ (.inl rfl) e,c⟩
 | dT kvs=>
  obtain⟨z,y,xs,r,ob,es,ep,e,c⟩:=x
  exact⟨z,y,xs,Paired.mapP r fun p q z=>⟨z.1,z.2.1.mono ht,z.2.2⟩,ob,es,ep,k _ _ (.inl rfl) e,c⟩
 | set S n=>obtain⟨ob,es,ep,t,e,c⟩:=x;exact⟨ob,es,ep,t,k _ _ (.inl rfl) e,c⟩
 | ins C dx fs=>
  obtain⟨d,z,ne,e,mA,⟨od,es,ep,e2,c⟩,r⟩:=x
  exact⟨ho _ d,z,ne,k _ _ (.inl rfl) e,mA,⟨od,es,ep,k _ _ (.inr d) e2,c⟩,r⟩
 | own y=>obtain⟨ob,e⟩:=x;exact⟨ob,k _ _ (.inl rfl) e⟩
 | xd fs=>obtain⟨mA,⟨od,es,ep,e,c⟩,r⟩:=x;exact⟨mA,⟨od,es,ep,k _ _ (.inl rfl) e,c⟩,r⟩
 | rng lo hi=>obtain⟨t,u,v,e⟩:=x;exact⟨t,u,v,k _ _ (.inl rfl) e⟩
 | frz ob u ih=>obtain⟨e,q⟩:=x;exact⟨k _ _ (.inl rfl) e,ih q⟩
 | tbl ps=>
  have e:h.get? a=some {cls:= .none,data:= .fields ps}:=x
  show h'.get? a=some {cls:= .none,data:= .fields ps}
  exact k a _ (.inl rfl) e
 | met f y=>
  have e:h.get? a=some (PySem.W.methodObj (.ref f) (.ref y)):=x
  show h'.get? a=some (PySem.W.methodObj (.ref f) (.ref y))
  exact k a _ (.inl rfl) e
 | ext φ=>obtain⟨p,⟨o,e⟩,st⟩:=x;exact⟨st _ _ p fun o q=>k _ _ (.inl rfl) q,⟨o,k _ _ (.inl rfl) e⟩,st⟩
theorem HOk.lt (x:HOk P w H h) (e:H a=some o):a<h.objs.size:=(x a o e).lt
theorem HOk.fresh (x:HOk P w H h) (e:h.objs.size<=a):H a=none:=by
 cases q:H a with
 | none=>rfl
 | some u=>exact absurd (lJz (x.lt q) e) (lK5 _)
theorem HOk.kept (x:HOk P w H h) (k:∀b u,h.get? b=some u->h'.get? b=some u):HOk P w H h':=fun a o e=>
 (x a o e).stay (fun b u _ q=>k b u q) (fun _ q=>q) fun _ _ q=>q
theorem HOk.laid (x:HOk P w H h) (k:∀b u,h.get? b=some u->h'.get? b=some u) (hp:h.objs.size<=a) (new:ObjOk P w (upd H a o) h' a o):HOk P w (upd H a o) h':=fun b u e=>by
 have hn:=x.fresh hp
 by_cases hb:b=a
 ·subst hb;rw[jUc] at e;cases e;exact new
 ·rw[jKx hb] at e
  exact (x b u e).stay (fun c v _ q=>k c v q) (fun c q=>by rw[jKx (jV1 q hn)];exact q) fun c xs q=>by rw[jKx (jV1 q hn)];exact q
end
def Rd (H:Hp) (a:Addr) (u:HO):Prop:=H a=some u\/∃o,H a=some (.frz o u)
theorem Rd.ok {P:Program} {w:World} {H:Hp} {h:Heap} {a:Addr} {u:HO} (r:Rd H a u) (x:HOk P w H h):ObjOk P w H h a u:=by
 rcases r with r | ⟨o,r⟩
 ·exact x a u r
 ·obtain⟨_,q⟩:=x a _ r
  exact q
noncomputable def Mut:Option HO->Prop
 | some (.lst _)=>True
 | some (.dK _)=>True
 | some (.dT _)=>True
 | some (.set _ _)=>True
 | some (.ins _ _ _)=>True
 | some (.ext _)=>True
 | _=>False
section
variable {P:Program} {w:World} {H:Hp} {h h':Heap} {x e:Addr} {o':HO}
theorem HOk.write (ok:HOk P w H h) (mu:Mut (H x)) (he:e=x\/H e=some (.own x)) (k:∀b u,b≠e->h.get? b=some u->h'.get? b=some u) (heo:∃u,h'.get? e=some u)
  (new:ObjOk P w (upd H x o') h' x o'):HOk P w (upd H x o') h':=fun b u q=>by
 have nown:∀c y,H c=some (.own y)->c≠x:=fun c y r z=>by subst z;rw[r] at mu;exact mu
 have ntup:∀c xs,H c=some (.tup xs)->c≠x:=fun c xs r z=>by subst z;rw[r] at mu;exact mu
 by_cases hb:b=x
 ·subst hb;rw[jUc] at q;cases q;exact new
 ·rw[jKx hb] at q
  by_cases hbe:b=e
  ·have q':H b=some (.own x):=by
    rcases he with z | z
    ·exact absurd (hbe.trans z) hb
    ·rw[hbe];exact z
   rw[q] at q';cases q'
   obtain⟨v,hv⟩:=heo
   exact⟨v,by rw[hbe];exact hv⟩
  ·refine (ok b u q).stay (fun c v hc r=>k c v ?_ r) (fun c r=>by rw[jKx (nown c b r)];exact r) fun c xs r=>by rw[jKx (ntup c xs r)];exact r
   rcases hc with rfl | hc
   ·exact hbe
   ·rintro rfl
    rcases he with z | z
    ·exact nown c b hc z
    ·rw[hc] at z;cases z;exact hb rfl
end
structure Un (fs ex:List Addr) (H H':Hp) (h h':Heap):Prop where
 keep:∀b o,h.get? b=some o->H b=none->b∉fs->b∉ex->h'.get? b=some o
 slot:∀b o,h.get? b=some o->H b=none->b∈fs->b∉ex->∃sl,h'.get? b=some {o with slots:=sl}
 free:∀b o,h.get? b=some o->H b=none->b∉ex->H' b=none
 there:∀b o,h.get? b=some o->b∉ex->∃o',h'.get? b=some o'
 tups:∀b xs,H b=some (.tup xs)->H' b=some (.tup xs)
 frzs:∀b o u,H b=some (.frz o u)->H' b=some (.frz o u)
 tbls:∀b ps,H b=some (.tbl ps)->∃more,H' b=some (.tbl (ps++more))
section
variable {fs fs' ex ex':List Addr} {H H1 H2:Hp} {h h1 h2 h':Heap} {a x e:Addr} {o:HO}
theorem Un.any (u:Un fs ex H H1 h h1) {b:Addr} {ob:Obj} (q:h.get? b=some ob) (n:H b=none) (hx:b∉ex):∃sl,h1.get? b=some {ob with slots:=sl}:=by
 by_cases hb:b∈fs
 ·exact u.slot b ob q n hb hx
 ·exact⟨ob.slots,u.keep b ob q n hb hx⟩
theorem Un.kept (k:∀b u,h.get? b=some u->h'.get? b=some u):Un fs ex H H h h':=
 ⟨fun b ob q _ _ _=>k b ob q,fun b ob q _ _ _=>⟨ob.slots,k b ob q⟩,fun _ _ _ n _=>n,fun b ob q _=>⟨ob,k b ob q⟩,fun _ _ q=>q,fun _ _ _ q=>q,fun _ ps q=>⟨#[],by rw[q];simp⟩⟩
theorem Un.refl:Un fs ex H H h h:=Un.kept fun _ _ q=>q
theorem Un.laid (k:∀b u,h.get? b=some u->h'.get? b=some u) (hp:h.objs.size<=a) (hn:H a=none):Un fs ex H (upd H a o) h h' where
 keep:=fun b u q _ _ _=>k b u q
 slot:=fun b u q _ _ _=>⟨u.slots,k b u q⟩
 free:=fun b u q n _=>by rw[jKx (lJo (lJz (Heap.lt_size q) hp))];exact n
 there:=fun b u q _=>⟨u,k b u q⟩
 tups:=fun b xs q=>by rw[jKx (jV1 q hn)];exact q
 frzs:=fun b u xs q=>by rw[jKx (jV1 q hn)];exact q
 tbls:=fun b ps q=>⟨#[],by rw[jKx (jV1 q hn),q];simp⟩
theorem Un.write (mu:Mut (H x)) (he:e=x\/H e=some (.own x)) (k:∀b u,b≠e->h.get? b=some u->h'.get? b=some u) (heo:∃u,h'.get? e=some u):Un fs ex H (upd H x o) h h':=by
 have hx:∀b,H b=none->b≠x:=fun b n z=>by subst z;rw[n] at mu;exact mu
 have hb:∀b,H b=none->b≠e:=fun b n z=>by
  subst z
  rcases he with r | r
  ·exact hx b n r
  ·rw[n] at r;cases r
 have hm:∀b u,H b=some u->¬ Mut (some u)->b≠x:=fun b u q nm z=>by subst z;rw[q] at mu;exact nm mu
 refine⟨fun b u q n _ _=>k b u (hb b n) q,fun b u q n _ _=>⟨u.slots,k b u (hb b n) q⟩,fun b u q n _=>by rw[jKx (hx b n)];exact n,fun b u q _=> ?_,
  fun b xs q=>by rw[jKx (hm b _ q fun z=>z)];exact q,fun b u xs q=>by rw[jKx (hm b _ q fun z=>z)];exact q,fun b ps q=>⟨#[],by rw[jKx (hm b _ q fun z=>z),q];simp⟩⟩
 by_cases hbe:b=e
 ·subst hbe;exact heo
 ·exact⟨u,k b u hbe q⟩
end
noncomputable def trk (h:Heap) (H:Hp):List Addr:=(List.range h.objs.size).filter fun a=>(H a).isSome
noncomputable def hidT (h:Heap) (H:Hp):Heap:=PySem.W.hideAll h (trk h H)
theorem hidT_size (h:Heap) (H:Hp):(hidT h H).objs.size=h.objs.size:=PySem.W.hideAll_size _ _
theorem hidT_get {h:Heap} {H:Hp} {b:Addr} {o:Obj} (e:h.get? b=some o) (n:H b=none):(hidT h H).get? b=some o:=
 PySem.W.hideAll_get _ e fun hm=>by
  have q:(H b).isSome=true:=(lQo.mp hm).2
  rw[n] at q;simp at q
theorem of_hidT {h:Heap} {H:Hp} {b:Addr} {o:Obj} (e:(hidT h H).get? b=some o):h.get? b=some o/\H b=none:=by
 have e':h.get? b=some o:=PySem.W.of_hideAll (trk h H) e
 refine⟨e',?_⟩
 cases q:H b with
 | none=>rfl
 | some x=>
  have hm:b∈trk h H:=lQo.mpr ⟨lJn.mpr (Heap.lt_size e'),by simp[q]⟩
  have z:(hidT h H).get? b=none:=PySem.W.hideAll_none (trk h H) hm
  rw[z] at e;cases e
noncomputable def allNews (g h:Heap) (L:Addr):List (Addr×Obj):=(List.range h.objs.size).filterMap fun a=>if a=L\/(g.get? a).isSome=true then none else (h.get? a).map fun o=>(a,o)
noncomputable def rest (g h:Heap) (L d:Addr):List (Addr×Obj):=(allNews g h L).filter fun p=>decide (p.1≠d)
end L2
namespace L2
open PySem PySem.Spec PyProof.Rows
structure Mod (K:PySem.W.Frag) (mg:Str->Option Value) (base:Heap):Prop where
 kin:K.In base
 glob:base.Ns mainGlobals mg
 blt:∃mb,base.Ns builtinsNs mb/\∀x:Str,x≠"__name__"->mb x=bootBuiltins x
 nolimit:base.NoLimit
structure Cx where
 prog:Program
 w:World
 K:PySem.W.Frag
 mg:Str->Option Value
 base:Heap
 A:Around
 N:List Str
 s₀:Shared
 H₀:Hp
 env:Env
 outer:List Env
 stack:List Env
 ex:List Addr
 fn:Str->Bool
 calm:Bool
 pn:List (Addr×Obj)
 xe:Value->Shared->Prop
noncomputable def frs (l:List Env):List Addr:=l.filterMap (·.frame)
noncomputable abbrev Cx.fs (X:Cx):List Addr:=frs X.outer
def Vis (sc:Scope) (x:Str):Prop:=sc.names.lookup x=some .local\/sc.names.lookup x=some .cell\/sc.names.lookup x=some .free
def Loc (sc:Scope) (x:Str):Prop:=sc.names.lookup x=some .local\/sc.names.lookup x=some .cell
def Look (env:Env) (h:Heap) (m:Str->Option Value) (x:Str) (u:Value):Prop:=
 (env.kindOf x=some .local/\m x=some u)\/((env.kindOf x=some .cell\/env.kindOf x=some .free)/\∃c,env.cells.lookup x=some c/\h.IsCell c (some u))
structure Cx.Ok (X:Cx):Prop where
 mod:Mod X.K X.mg X.base
 kind:X.env.scope.kind= .function
 glob:X.env.globals=mainGlobals
 blt:X.env.builtins=builtinsNs
 above:X.s₀.heap.objs.size<=X.env.locals
 inj:∀x y c,X.env.cells.lookup x=some c->X.env.cells.lookup y=some c->x=y
 has:∀x,(X.env.kindOf x=some .cell\/X.env.kindOf x=some .free)->∃c,X.env.cells.lookup x=some c
 cab:∀x c,X.fn x=true->X.env.cells.lookup x=some c->X.s₀.heap.objs.size<=c
 hd:X.calm=true->X.A.handled=none
 gd:X.calm=true->X.A.guards=some []
 frames:X.A.frames=some X.stack
 stk:X.stack=X.outer\/(X.stack=X.env::X.outer/\X.env.frame=some X.env.locals)
 exf:∀b∈X.ex,b≠X.env.locals/\∀x c,X.env.cells.lookup x=some c->c≠b
 bs:∀b o,X.base.get? b=some o->X.s₀.heap.get? b=some o/\X.H₀ b=none
 bsz:X.base.objs.size<=X.s₀.heap.objs.size
 noex:∀b o,X.base.get? b=some o->b∉X.ex
 exfs:∀b∈X.ex,b∉X.fs
 funs:X.s₀.heap.FunFrames X.base X.outer
 frf:∀b∈X.fs,X.H₀ b=none
structure Inv (X:Cx) (pins:List (Addr×Obj)) (σ:List (Option V)) (H:Hp) (s:Shared):Prop where
 ok:X.Ok
 os:s.os=X.s₀.os
 bare:AllBare s.gens
 base:Un X.fs X.ex X.H₀ H X.s₀.heap s.heap
 loc:∃m,s.heap.Ns X.env.locals m/\∀(i:Nat) (x:Str) (v:V),X.N[i]? =some x->σ[i]? =some (some v)->Vis X.env.scope x->∃u,RelV v u/\Look X.env s.heap m x u
 cell:∀x c,X.env.cells.lookup x=some c->∃v,s.heap.IsCell c v
 free:H X.env.locals=none
 freeC:∀x c,X.env.cells.lookup x=some c->H c=none
 pin:∀p∈X.pn++pins,s.heap.get? p.1=some p.2/\H p.1=none/\p.1≠X.env.locals/\p.1∉X.fs/\∀v,p.2.data≠ .cell v
 hok:HOk X.prog X.w H s.heap
 len:σ.length=X.N.length
section
variable {X:Cx} {pins:List (Addr×Obj)} {σ:List (Option V)} {H H':Hp} {s:Shared} {h':Heap}
theorem Cx.Ok.nofr (ok:X.Ok) {b:Addr} {o:Obj} (e:X.base.get? b=some o):b∉X.fs:=fun hb=>by
 have:=(ok.funs.mem hb).1
 rw[e] at this;cases this
theorem Inv.bs (I:Inv X pins σ H s):∀b o,X.base.get? b=some o->s.heap.get? b=some o/\H b=none:=fun b o e=>
 ⟨I.base.keep b o (I.ok.bs b o e).1 (I.ok.bs b o e).2 (I.ok.nofr e) (I.ok.noex b o e),I.base.free b o (I.ok.bs b o e).1 (I.ok.bs b o e).2 (I.ok.noex b o e)⟩
theorem Inv.bk (I:Inv X pins σ H s):∀b o,X.base.get? b=some o->s.heap.get? b=some o:=fun b o e=>(I.bs b o e).1
theorem Inv.mod (I:Inv X pins σ H s):Mod X.K X.mg X.base:=I.ok.mod
theorem Inv.kIn (I:Inv X pins σ H s):X.K.In s.heap:=I.ok.mod.kin.keeps I.bk
theorem Inv.lt (I:Inv X pins σ H s):X.env.locals<s.heap.objs.size:=let ⟨_,hn,_⟩:=I.loc;hn.lt
theorem Inv.sz (I:Inv X pins σ H s):X.s₀.heap.objs.size<=s.heap.objs.size:=lKb I.ok.above (Nat.le_of_lt I.lt)
theorem Inv.nofs (I:Inv X pins σ H s) {a:Addr} (h:s.heap.objs.size<=a):a∉X.fs:=fun hb=>by
 obtain⟨_,o,ho,_⟩:=I.ok.funs.mem hb
 exact absurd (lJz (Heap.lt_size ho) (lKb I.sz h)) (lK5 _)
theorem Inv.cne (I:Inv X pins σ H s):∀x c,X.env.cells.lookup x=some c->c≠X.env.locals:=fun x c e z=>by
 obtain⟨v,o,ho,hd⟩:=I.cell x c e
 obtain⟨m,⟨o',es,ep,ho',hd',_⟩,_⟩:=I.loc
 rw[z,ho'] at ho;cases ho;rw[hd'] at hd;cases hd
theorem Inv.funs (I:Inv X pins σ H s):s.heap.FunFrames X.base X.outer:=by
 have all:∀(l:List Env),(∀b∈frs l,b∈X.fs)->X.s₀.heap.FunFrames X.base l->s.heap.FunFrames X.base l:=by
  intro l
  induction l with
  | nil=>intro _ _;trivial
  | cons env r ih=>
   intro hs hl
   obtain⟨hk,⟨L,o,hf,hn,ho,hd⟩,hr⟩:=hl
   have hL:L∈X.fs:=hs L (by unfold frs;rw[lK8,hf];exact lJq)
   obtain⟨sl,e⟩:=I.base.slot L o ho (I.ok.frf L hL) hL fun z=>I.ok.exfs L z hL
   exact⟨hk,⟨L,_,hf,hn,e,hd⟩,ih (fun b hb=>hs b (by unfold frs;rw[lK8,hf];exact lJs _ hb)) hr⟩
 exact all X.outer (fun _ hb=>hb) I.ok.funs
theorem Inv.stack (I:Inv X pins σ H s):s.heap.FunFrames X.base X.stack:=by
 rcases I.ok.stk with e | ⟨e,hf⟩
 ·rw[e];exact I.funs
 ·rw[e]
  obtain⟨m,hn,_⟩:=I.loc
  refine .cons (by rw[I.ok.kind];decide) hf hn ?_ I.funs
  exact Heap.get?_none_of_le (lKb I.ok.bsz I.ok.above)
theorem Inv.stkSub (I:Inv X pins σ H s):∀b∈frs X.stack,b∈X.env.locals::X.fs:=fun b hb=>by
 rcases I.ok.stk with e | ⟨e,hf⟩
 ·rw[e] at hb;exact lJs _ hb
 ·rw[e] at hb
  unfold frs at hb
  rw[lK8,hf] at hb
  exact hb
theorem Inv.stkFree (I:Inv X pins σ H s):∀b∈frs X.stack,H b=none:=fun b hb=>by
 rcases lJi.mp (I.stkSub b hb) with e | hb
 ·rw[e];exact I.free
 ·obtain⟨_,o,ho,_⟩:=I.ok.funs.mem hb
  exact I.base.free b o ho (I.ok.frf b hb) fun z=>I.ok.exfs b z hb
theorem Inv.step {g':Array GenState} {t':Nat} {d':Drawn} {ch:List Addr} (I:Inv X pins σ H s)
  (hch:∀b∈ch,(b∈X.ex\/X.s₀.heap.objs.size<=b)/\b≠X.env.locals/\(∀x c,X.env.cells.lookup x=some c->c≠b)/\∀p∈X.pn++pins,p.1≠b)
  (keep:∀b o,b≠X.env.locals->b∉X.fs->b∉ch->s.heap.get? b=some o->H b=none->h'.get? b=some o)
  (slot:∀b o,b≠X.env.locals->b∈X.fs->b∉ch->s.heap.get? b=some o->H b=none->∃sl,h'.get? b=some {o with slots:=sl}) (free:∀b o,b∉ch->s.heap.get? b=some o->H b=none->H' b=none)
  (there:∀b o,b∉ch->s.heap.get? b=some o->∃o',h'.get? b=some o')
  (tups:∀b xs,H b=some (.tup xs)->H' b=some (.tup xs)) (frzs:∀b o u,H b=some (.frz o u)->H' b=some (.frz o u)) (tbls:∀b ps,H b=some (.tbl ps)->∃more,H' b=some (.tbl (ps++more)))
  (ns:∀m,s.heap.Ns X.env.locals m->h'.Ns X.env.locals m) (hok:HOk X.prog X.w H' h') (hg:AllBare g'):
  Inv X pins σ H' {s with heap:=h',gens:=g',drawn:=d',toks:=t'}:=by
 have neL:∀b o,X.s₀.heap.get? b=some o->b≠X.env.locals:=fun b o e=>lJo (lJz (Heap.lt_size e) I.ok.above)
 have neC:∀b o,X.s₀.heap.get? b=some o->b∉X.ex->b∉ch:=fun b o e hx hb=>by
  rcases (hch b hb).1 with z | z
  ·exact hx z
  ·exact absurd (lJz (Heap.lt_size e) z) (lK5 _)
 have cellK:∀x c,X.env.cells.lookup x=some c->∀v,s.heap.IsCell c v->h'.IsCell c v:=fun x c e v ⟨o,ho,hd⟩=>by
  have nch:c∉ch:=fun z=>(hch c z).2.2.1 x c e rfl
  by_cases hc:c∈X.fs
  ·obtain⟨sl,q⟩:=slot c o (I.cne x c e) hc nch ho (I.freeC x c e)
   exact⟨_,q,hd⟩
  ·exact⟨o,keep c o (I.cne x c e) hc nch ho (I.freeC x c e),hd⟩
 refine⟨I.ok,I.os,hg,⟨fun b o e n hb hx=> ?_,fun b o e n hb hx=> ?_,fun b o e n hx=> ?_,fun b o e hx=> ?_,fun b xs e=>tups b xs (I.base.tups b xs e),fun b o xs e=>frzs b o xs (I.base.frzs b o xs e),fun b ps e=> ?_⟩,?_,fun x c e=> ?_,?_,fun x c e=> ?_,fun p hp=> ?_,hok,I.len⟩
 ·exact keep b o (neL b o e) hb (neC b o e hx) (I.base.keep b o e n hb hx) (I.base.free b o e n hx)
 ·obtain⟨sl,e1⟩:=I.base.slot b o e n hb hx
  obtain⟨sl',e2⟩:=slot b _ (neL b o e) hb (neC b o e hx) e1 (I.base.free b o e n hx)
  exact⟨sl',e2⟩
 ·obtain⟨o',e1⟩:=I.base.there b o e hx
  exact free b o' (neC b o e hx) e1 (I.base.free b o e n hx)
 ·obtain⟨o',e1⟩:=I.base.there b o e hx
  exact there b o' (neC b o e hx) e1
 ·obtain⟨m1,e1⟩:=I.base.tbls b ps e
  obtain⟨m2,e2⟩:=tbls b _ e1
  exact⟨m1++m2,by rw[e2,Array.append_assoc]⟩
 ·obtain⟨m,hn,hl⟩:=I.loc
  refine⟨m,ns m hn,fun i x v e1 e2 e3=> ?_⟩
  obtain⟨u,r,l⟩:=hl i x v e1 e2 e3
  refine⟨u,r,?_⟩
  rcases l with l | ⟨k,c,e,z⟩
  ·exact .inl l
  ·exact .inr ⟨k,c,e,cellK x c e _ z⟩
 ·obtain⟨v,z⟩:=I.cell x c e
  exact⟨v,cellK x c e v z⟩
 ·obtain⟨m,⟨o,_,_,ho,_⟩,_⟩:=I.loc
  exact free _ o (fun z=>(hch _ z).2.1 rfl) ho I.free
 ·obtain⟨v,o,ho,hd⟩:=I.cell x c e
  exact free c o (fun z=>(hch c z).2.2.1 x c e rfl) ho (I.freeC x c e)
 ·obtain⟨e,n,ne,nf,d⟩:=I.pin p hp
  have nch:p.1∉ch:=fun z=>(hch p.1 z).2.2.2 p hp rfl
  exact⟨keep p.1 p.2 ne nf nch e n,free p.1 p.2 nch e n,ne,nf,d⟩
theorem Inv.un {t':Nat} (I:Inv X pins σ H s) (u:Un X.fs [] H H' s.heap h') (hok:HOk X.prog X.w H' h'):Inv X pins σ H' {s with heap:=h',toks:=t'}:=by
 obtain⟨m,⟨o,es,ep,ho,r⟩,_⟩:=id I.loc
 obtain⟨sl,hL⟩:=u.any ho I.free (by simp)
 exact I.step (g':=s.gens) (d':=s.drawn) (ch:=[]) (fun _ z=>nomatch z) (fun b o _ hb _ e n=>u.keep b o e n hb (by simp)) (fun b o _ hb _ e n=>u.slot b o e n hb (by simp)) (fun b o _ e n=>u.free b o e n (by simp)) (fun b o _ e=>u.there b o e (by simp)) u.tups u.frzs u.tbls (fun m' hm=>by
  obtain⟨o',es',ep',ho',r'⟩:=hm
  rw[ho] at ho';cases ho'
  exact⟨_,es',ep',hL,r'⟩) hok I.bare
theorem Inv.call {g':Array GenState} {t':Nat} {d':Drawn} {ch:List Addr} (I:Inv X pins σ H s) (u:Un (frs X.stack) ch H H' s.heap h') (hok:HOk X.prog X.w H' h') (hg:AllBare g')
  (hch:∀b∈ch,(b∈X.ex\/X.s₀.heap.objs.size<=b)/\b≠X.env.locals/\(∀x c,X.env.cells.lookup x=some c->c≠b)/\∀p∈X.pn++pins,p.1≠b):
  Inv X pins σ H' {s with heap:=h',gens:=g',drawn:=d',toks:=t'}:=by
 obtain⟨m,⟨o,es,ep,ho,r⟩,_⟩:=id I.loc
 obtain⟨sl,hL⟩:=u.any ho I.free fun z=>(hch _ z).2.1 rfl
 exact I.step (ch:=ch) hch (fun b o hL hb hc e n=>u.keep b o e n (fun z=>(lJi.mp (I.stkSub b z)).elim hL hb) hc) (fun b o _ _ hc e n=>u.any e n hc) (fun b o hc e n=>u.free b o e n hc) (fun b o hc e=>u.there b o e hc) u.tups u.frzs u.tbls (fun m' hm=>by
  obtain⟨o',es',ep',ho',r'⟩:=hm
  rw[ho] at ho';cases ho'
  exact⟨_,es',ep',hL,r'⟩) hok hg
theorem Inv.turned {t':Nat} {it:Addr} (I:Inv X pins σ H s) (k:∀b o,b≠it->s.heap.get? b=some o->h'.get? b=some o) (hn:H it=none) (hL:it≠X.env.locals)
  (h1:it∈X.ex\/X.s₀.heap.objs.size<=it) (h2:∀x c,X.env.cells.lookup x=some c->c≠it) (h3:∀p∈X.pn++pins,p.1≠it):Inv X pins σ H {s with heap:=h',toks:=t'}:=by
 have nit:∀b u,H b=some u->b≠it:=fun b u e z=>by rw[z,hn] at e;cases e
 refine I.step (g':=s.gens) (d':=s.drawn) (ch:=[it]) (fun b hb=> ?_) (fun b o _ _ hc e _=>k b o (fun z=>hc (by simp[z])) e) (fun b o _ _ hc e _=>⟨o.slots,k b o (fun z=>hc (by simp[z])) e⟩) (fun _ _ _ _ n=>n)
  (fun b o hc e=>⟨o,k b o (fun z=>hc (by simp[z])) e⟩) (fun _ _ e=>e) (fun _ _ _ e=>e) (fun b ps e=>⟨#[],by rw[e];simp⟩) (fun m hm=> ?_) (fun b u e=> ?_) I.bare
 ·have e:b=it:=by simpa using hb
  subst e
  exact⟨h1,hL,h2,h3⟩
 ·obtain⟨o,es,ep,ho,r⟩:=hm
  exact⟨o,es,ep,k _ o (Ne.symm hL) ho,r⟩
 ·refine (I.hok b u e).stay (fun c v hc q=>k c v ?_ q) (fun _ q=>q) fun _ _ q=>q
  rcases hc with z | z
  ·rw[z];exact nit b u e
  ·exact nit c _ z
theorem Inv.tok (I:Inv X pins σ H s) (t:Nat):Inv X pins σ H {s with toks:=t}:=I.un (h':=s.heap) (t':=t) Un.refl I.hok
theorem Inv.kept {t':Nat} (I:Inv X pins σ H s) (k:∀b u,s.heap.get? b=some u->h'.get? b=some u):Inv X pins σ H {s with heap:=h',toks:=t'}:=I.un (Un.kept k) (I.hok.kept k)
theorem Inv.laid {a:Addr} {o:HO} {t':Nat} (I:Inv X pins σ H s) (k:∀b u,s.heap.get? b=some u->h'.get? b=some u) (hp:s.heap.objs.size<=a) (new:ObjOk X.prog X.w (upd H a o) h' a o):
  Inv X pins σ (upd H a o) {s with heap:=h',toks:=t'}:=I.un (Un.laid k hp (I.hok.fresh hp)) (I.hok.laid k hp new)
theorem Inv.write {x e:Addr} {o:HO} {t':Nat} (I:Inv X pins σ H s) (mu:Mut (H x)) (he:e=x\/H e=some (.own x)) (k:∀b u,b≠e->s.heap.get? b=some u->h'.get? b=some u) (heo:∃u,h'.get? e=some u)
  (new:ObjOk X.prog X.w (upd H x o) h' x o):Inv X pins σ (upd H x o) {s with heap:=h',toks:=t'}:=I.un (Un.write mu he k heo) (I.hok.write mu he k heo new)
theorem Inv.weak {σ':List (Option V)} (I:Inv X pins σ H s) (hl:σ'.length=σ.length) (w:∀(i:Nat) v,σ'[i]? =some (some v)->σ[i]? =some (some v)):Inv X pins σ' H s:=
 ⟨I.ok,I.os,I.bare,I.base,let ⟨m,hn,hl'⟩:=I.loc;⟨m,hn,fun i x v e1 e2 e3=>hl' i x v e1 (w i v e2) e3⟩,I.cell,I.free,I.freeC,I.pin,I.hok,hl.trans I.len⟩
theorem Inv.pins_of {pins':List (Addr×Obj)} (I:Inv X pins σ H s) (h:∀p∈pins',s.heap.get? p.1=some p.2/\H p.1=none/\p.1≠X.env.locals/\p.1∉X.fs/\∀v,p.2.data≠ .cell v):Inv X pins' σ H s:=
 ⟨I.ok,I.os,I.bare,I.base,I.loc,I.cell,I.free,I.freeC,fun p hp=>(lJ4.mp hp).elim (fun z=>I.pin p (lKp _ z)) (h p),I.hok,I.len⟩
theorem nodup_ix {N:List Str} (hN:N.Nodup) {i j:Nat} {x:Str} (a:N[i]? =some x) (b:N[j]? =some x):i=j:=by
 obtain⟨h1,e1⟩:=lJb.mp a
 obtain⟨h2,e2⟩:=lJb.mp b
 exact (List.getElem_inj hN).mp (e1.trans e2.symm)
theorem store_ok2 {M:Model} {A:Around} {E:Value->Shared->Prop} {i:Nat} {x:Str} {v:V} {u:Value} {Q:Unit->Shared->Prop} (I:Inv X pins σ H s) (hN:X.N.Nodup) (hi:X.N[i]? =some x) (hx:Loc X.env.scope x) (r:RelV v u)
  (h:∀s',Inv X pins (σ.set i (some v)) H s'->(∃a,Heap.SameBut a s.heap s'.heap/\(a=X.env.locals\/X.env.cells.lookup x=some a))->Q () s') (hf:X.fn x=true\/X.env.scope.names.lookup x=some .local:=by first | exact .inl rfl | exact .inr rfl | assumption):wpAny M A (storeName X.env x u) Q E s:=by
 obtain⟨m,hn,hl⟩:=id I.loc
 have hcls:(X.env.scope.kind == .class||(X.env.scope.kind == .module&&X.env.locals != X.env.globals))=false:=by rw[I.ok.kind];rfl
 have hiσ:i<σ.length:=by rw[I.len];exact (lJb.mp hi).1
 have cne:=I.cne
 have tracked:∀ {a:Addr} {h':Heap},(∃o,s.heap.get? a=some o/\H a=none)->Heap.SameBut a s.heap h'->HOk X.prog X.w H h':=fun {a h'} ha hs b ob e=>by
  obtain⟨_,_,hfree⟩:=ha
  refine (I.hok b ob e).stay (fun c w' hc q=>(hs.2 c ?_).trans q) (fun _ q=>q) fun _ _ q=>q
  rintro rfl
  rcases hc with rfl | hc
  ·rw[hfree] at e;cases e
  ·rw[hfree] at hc;cases hc
 rcases hx with hk | hk
 ·refine wpAny_storeName_local hk hn (fun h' hn' hs=> ?_) hcls
  obtain⟨oL,_,_,hoL,_⟩:=id hn
  refine h _ ⟨I.ok,I.os,I.bare,⟨fun b o e n hb hx=> ?_,fun b o e n hb hx=> ?_,I.base.free,fun b o e hx=> ?_,I.base.tups,I.base.frzs,I.base.tbls⟩,⟨_,hn',fun j y v' e1 e2 e3=> ?_⟩,fun y c e=> ?_,I.free,I.freeC,fun p hp=> ?_,tracked ⟨oL,hoL,I.free⟩ hs,by simpa using I.len⟩ ⟨_,hs,.inl rfl⟩
  ·exact (hs.2 b (lJo (lJz (Heap.lt_size e) I.ok.above))).trans (I.base.keep b o e n hb hx)
  ·obtain⟨sl,e1⟩:=I.base.slot b o e n hb hx
   exact⟨sl,(hs.2 b (lJo (lJz (Heap.lt_size e) I.ok.above))).trans e1⟩
  ·obtain⟨o',e1⟩:=I.base.there b o e hx
   exact⟨o',(hs.2 b (lJo (lJz (Heap.lt_size e) I.ok.above))).trans e1⟩
  ·by_cases hj:j=i
   ·subst hj
    rw[hi] at e1;cases e1
    rw[lJ6 hiσ] at e2
    cases e2
    exact⟨u,r,.inl ⟨hk,by simp⟩⟩
   ·rw[lJ3 (Ne.symm hj)] at e2
    obtain⟨u',r',q⟩:=hl j y v' e1 e2 e3
    refine⟨u',r',?_⟩
    rcases q with ⟨k,e⟩ | ⟨k,c,e,z⟩
    ·refine .inl ⟨k,?_⟩
     have:y≠x:=fun e=>hj (nodup_ix hN e1 (e▸hi))
     simp[this,e]
    ·exact .inr ⟨k,c,e,z.sameBut hs (cne y c e)⟩
  ·obtain⟨w',z⟩:=I.cell y c e
   exact⟨w',z.sameBut hs (cne y c e)⟩
  ·obtain⟨e,n,ne,nf,d⟩:=I.pin p hp
   exact⟨(hs.2 p.1 ne).trans e,n,ne,nf,d⟩
 ·have hfn:X.fn x=true:=by
   rcases hf with z | z
   ·exact z
   ·rw[z] at hk;cases hk
  obtain⟨c,hc⟩:=I.ok.has x (.inl hk)
  obtain⟨w',z⟩:=I.cell x c hc
  refine wpAny_storeName_cell I.ok.kind hk hc z (fun h' hc' hs=> ?_)
  obtain⟨oc,hoc,hocd⟩:=id z
  refine h {s with heap:=h'} ⟨I.ok,I.os,I.bare,⟨fun b o e n hb hx=> ?_,fun b o e n hb hx=> ?_,I.base.free,fun b o e hx=> ?_,I.base.tups,I.base.frzs,I.base.tbls⟩,⟨m,hn.sameBut hs (Ne.symm (cne x c hc)),fun j y v' e1 e2 e3=> ?_⟩,fun y c' e=> ?_,I.free,I.freeC,fun p hp=> ?_,tracked ⟨oc,hoc,I.freeC x c hc⟩ hs,by simpa using I.len⟩ ⟨c,hs,.inr hc⟩
  ·exact (hs.2 b (lJo (lJz (Heap.lt_size e) (I.ok.cab x c hfn hc)))).trans (I.base.keep b o e n hb hx)
  ·obtain⟨sl,e1⟩:=I.base.slot b o e n hb hx
   exact⟨sl,(hs.2 b (lJo (lJz (Heap.lt_size e) (I.ok.cab x c hfn hc)))).trans e1⟩
  ·obtain⟨o',e1⟩:=I.base.there b o e hx
   exact⟨o',(hs.2 b (lJo (lJz (Heap.lt_size e) (I.ok.cab x c hfn hc)))).trans e1⟩
  ·by_cases hj:j=i
   ·subst hj
    rw[hi] at e1;cases e1
    rw[lJ6 hiσ] at e2
    cases e2
    exact⟨u,r,.inr ⟨.inl hk,c,hc,hc'⟩⟩
   ·rw[lJ3 (Ne.symm hj)] at e2
    obtain⟨u',r',q⟩:=hl j y v' e1 e2 e3
    refine⟨u',r',?_⟩
    rcases q with q | ⟨k,c',e,z'⟩
    ·exact .inl q
    ·refine .inr ⟨k,c',e,z'.sameBut hs ?_⟩
     rintro rfl
     exact hj (nodup_ix hN e1 (I.ok.inj _ _ _ e hc▸hi))
  ·by_cases hcc:c'=c
   ·subst hcc;exact⟨_,hc'⟩
   ·obtain⟨w2,z2⟩:=I.cell y c' e
    exact⟨w2,z2.sameBut hs hcc⟩
  ·obtain⟨e,n,ne,nf,d⟩:=I.pin p hp
   refine⟨(hs.2 p.1 ?_).trans e,n,ne,nf,d⟩
   intro q
   rw[q,hoc] at e
   have q':oc=p.2:=lJr e
   exact d w' (by rw[<-q'];exact hocd)
theorem jYq {M:Model} {A:Around} {E:Value->Shared->Prop} {i:Nat} {x:Str} {v:V} {u:Value} {Q:Unit->Shared->Prop} (I:Inv X pins σ H s) (hN:X.N.Nodup) (hi:X.N[i]? =some x) (hx:Loc X.env.scope x) (r:RelV v u)
  (h:∀s',Inv X pins (σ.set i (some v)) H s'->Q () s') (hf:X.fn x=true\/X.env.scope.names.lookup x=some .local:=by first | exact .inl rfl | exact .inr rfl | assumption):wpAny M A (storeName X.env x u) Q E s:=
 store_ok2 I hN hi hx r (fun s' I' _=>h s' I') hf
theorem Inv.call' {s':Shared} {ch:List Addr} (I:Inv X pins σ H s) (ho:s'.os=s.os) (u:Un (frs X.stack) ch H H' s.heap s'.heap) (hok:HOk X.prog X.w H' s'.heap) (hg:AllBare s'.gens)
  (hch:∀b∈ch,(b∈X.ex\/X.s₀.heap.objs.size<=b)/\b≠X.env.locals/\(∀x c,X.env.cells.lookup x=some c->c≠b)/\∀p∈X.pn++pins,p.1≠b):Inv X pins σ H' s':=by
 obtain⟨h',g',d',t',o'⟩:=s'
 have e:o'=s.os:=ho
 subst e
 exact I.call (g':=g') (t':=t') (d':=d') u hok hg hch
end
noncomputable abbrev XK:=Value->Option Addr->Hp->Prop
noncomputable abbrev St:=List (Option V)
noncomputable abbrev VK:=V->Hp->Prop
noncomputable abbrev TE:=St->Hp->VK->Prop
noncomputable abbrev TT:=St->Hp->(Bool->Hp->Prop)->Prop
noncomputable abbrev TA:=St->Hp->(List V->Hp->Prop)->Prop
structure Ends where
 nx:St->Hp->Prop
 rt:VK
 bk:St->Hp->Prop:=fun _ _=>False
 ct:St->Hp->Prop:=fun _ _=>False
noncomputable abbrev TS:=Ends->St->Hp->Prop
def EP (X:Cx) (pins:List (Addr×Obj)) (σ:St) (Q:VK) (u:Value) (s':Shared):Prop:=∃v H',Inv X pins σ H' s'/\RelV v u/\Q v H'
def TP (X:Cx) (pins:List (Addr×Obj)) (σ:St) (Q:Bool->Hp->Prop) (b:Bool) (s':Shared):Prop:=∃H',Inv X pins σ H' s'/\Q b H'
def SP (X:Cx) (pins:List (Addr×Obj)) (D:Ends) (f:Flow) (s':Shared):Prop:=
 match f with
 | .next=>∃ σ' H',Inv X pins σ' H' s'/\D.nx σ' H'
 | .brk=>∃ σ' H',Inv X pins σ' H' s'/\D.bk σ' H'
 | .cont=>∃ σ' H',Inv X pins σ' H' s'/\D.ct σ' H'
 | .ret u=>∃v σ' H',Inv X pins σ' H' s'/\RelV v u/\D.rt v H'
def PE (X:Cx) (e:Expr) (t:TE):Prop:=
 ∀(pins:List (Addr×Obj)) (s:Shared) (σ:St) (H:Hp) (Q:VK),Inv X pins σ H s->t σ H Q->wpAny (model X.prog X.w) X.A (eval e X.env) (EP X pins σ Q) X.xe s
def PSs (X:Cx) (st:List Stmt) (t:TS):Prop:=
 ∀(pins:List (Addr×Obj)) (s:Shared) (σ:St) (H:Hp) (D:Ends),Inv X pins σ H s->t D σ H->wpAny (model X.prog X.w) X.A (execs st X.env) (SP X pins D) X.xe s
theorem thn {α:Type} {t:Sem α} {Q Q':α->Shared->Prop} {M:Model} {A:Around} {E:Value->Shared->Prop} {s:Shared} (h:wpAny M A t Q E s) (hQ:∀a s,Q a s->Q' a s):wpAny M A t Q' E s:=wpAny_mono h hQ fun _ _ x=>x
end L2
namespace L2
open PySem PySem.Spec PyProof.Rows
section
variable {X:Cx}
noncomputable def tVar (i:Nat):TE:=fun σ H Q=>∃v,σ[i]? =some (some v)/\Q v H
noncomputable def tC (v:V):TE:=fun _ H Q=>Q v H
theorem pe_var {i:Nat} {x:Str} {pos:Pos} (hN:X.N[i]? =some x) (hv:Vis X.env.scope x) (hd:(x == ("__debug__":Str))=false:=by decide) (hcd:(x == ("__classdict__":Str))=false:=by decide):PE X (.Name x pos) (tVar i):=by
 intro pins s σ H Q I h
 obtain⟨v,e,h⟩:=h
 obtain⟨m,hn,hl⟩:=I.loc
 obtain⟨u,r,l⟩:=hl i x v hN e hv
 have fin:EP X pins σ Q u s:=⟨v,H,I,r,h⟩
 rcases l with ⟨hk,hm⟩ | ⟨hk,c,hc,hcell⟩
 ·exact wpAny_Name (wpAny_loadName_local I.ok.kind hk hn hm fin) hd
 ·rcases hk with hk | hk
  ·exact wpAny_Name (wpAny_loadName_cell I.ok.kind hk hc hcell fin) hd
  ·exact wpAny_Name (wpAny_loadName_free I.ok.kind hk hc hcell fin hcd) hd
theorem pe_int {i j pos}:PE X (.Constant (.int i) j pos) (tC (.int i)):=fun _ _ _ H _ I h=>wpAny_Constant_int ⟨.int i,H,I.tok _,⟨_,rfl⟩,h⟩
theorem pe_bl {b j pos}:PE X (.Constant (.bool b) j pos) (tC (.bl b)):=fun _ _ _ H _ I h=>Constant_bool ⟨.bl b,H,I,rfl,h⟩
theorem pe_non {j pos}:PE X (.Constant .none j pos) (tC .non):=fun _ _ _ H _ I h=>Constant_none ⟨.non,H,I,rfl,h⟩
def Gl (X:Cx) (x:Str):Prop:=X.env.kindOf x=some .globalImplicit
theorem ld_glob {E:Value->Shared->Prop} {pins:List (Addr×Obj)} {s:Shared} {σ:St} {H:Hp} {x:Str} {u:Value} {pos:Pos} {Q:Value->Shared->Prop} (I:Inv X pins σ H s) (hg:Gl X x) (hm:X.mg x=some u) (h:Q u s)
  (hd:(x == ("__debug__":Str))=false:=by decide):wpAny (model X.prog X.w) X.A (eval (.Name x pos) X.env) Q E s:=
 Calls.Name_function_global I.ok.kind hg (Calls.loadGlobal_global (by rw[I.ok.glob];exact I.mod.glob.keeps I.bk) hm h) hd
theorem jV2 {E:Value->Shared->Prop} {pins:List (Addr×Obj)} {s:Shared} {σ:St} {H:Hp} {x:Str} {u:Value} {pos:Pos} {Q:Value->Shared->Prop} (I:Inv X pins σ H s) (hg:Gl X x) (hm:X.mg x=none) (hv:bootBuiltins x=some u) (h:Q u s)
  (hn:x≠"__name__":=by decide) (hd:(x == ("__debug__":Str))=false:=by decide):wpAny (model X.prog X.w) X.A (eval (.Name x pos) X.env) Q E s:=by
 obtain⟨mb,h1,h2⟩:=I.mod.blt
 exact Calls.Name_function_global I.ok.kind hg (Calls.loadGlobal_builtin (by rw[I.ok.glob];exact I.mod.glob.keeps I.bk) hm (by rw[I.ok.blt];exact h1.keeps I.bk) ((h2 x hn).trans hv) h) hd
theorem pe_bltn {x:Str} {v:V} {u:Value} {pos:Pos} (hg:Gl X x) (hm:X.mg x=none) (hv:bootBuiltins x=some u) (r:RelV v u) (hn:x≠"__name__":=by decide) (hd:(x == ("__debug__":Str))=false:=by decide):PE X (.Name x pos) (tC v):=
 fun _ _ _ H _ I h=>jV2 I hg hm hv ⟨v,H,I,r,h⟩ hn hd
variable {a b:Expr} {ta tb:TE} {pos:Pos}
noncomputable def tB (t:TE):TT:=fun σ H Q=>t σ H fun x H1=>∃c,x= .bl c/\Q c H1
variable {tA tB':TT} {rest:List Expr}
noncomputable def tAnd (t u:TT):TT:=fun σ H Q=>t σ H fun c H1=>if c=true then u σ H1 Q else Q false H1
noncomputable def tOr (t u:TT):TT:=fun σ H Q=>t σ H fun c H1=>if c=true then Q true H1 else u σ H1 Q
noncomputable def tNot (t:TT):TT:=fun σ H Q=>t σ H fun c H1=>Q (!c) H1
noncomputable def tAndV (ta tb:TE):TE:=fun σ H Q=>ta σ H fun x H1=>∃c,x= .bl c/\if c=true then tb σ H1 Q else Q (.bl false) H1
noncomputable def tOrV (ta tb:TE):TE:=fun σ H Q=>ta σ H fun x H1=>∃c,x= .bl c/\if c=true then Q (.bl true) H1 else tb σ H1 Q
noncomputable def tNotV (ta:TE):TE:=fun σ H Q=>ta σ H fun x H1=>∃c,x= .bl c/\Q (.bl (!c)) H1
noncomputable def tIf (t:TT) (ta tb:TE):TE:=fun σ H Q=>t σ H fun c H1=>if c=true then ta σ H1 Q else tb σ H1 Q
end
end L2
namespace L2
open PySem PySem.Spec PyProof.Rows
def SqL (K:PySem.W.Frag) (H:Hp) (a:Addr) (xs:List V):Prop:=
 Rd H a (.lst xs)\/
  ∃(o:Obj) (its:Array Value) (n:Nat),K.lookup a=some o/\o.cls= .type "list"/\o.dict=none/\o.data= .seq its n/\its.size<=sizeLine/\Vals xs its.toList
def SqT (K:PySem.W.Frag) (H:Hp) (a:Addr) (xs:List V):Prop:=
 Rd H a (.tup xs)\/
  ∃(o:Obj) (its:Array Value) (n:Nat),K.lookup a=some o/\o.cls= .type "tuple"/\o.data= .seq its n/\its.size<=sizeLine/\Vals xs its.toList
noncomputable def absV:Value->Option V
 | .none=>some .non
 | .bool b=>some (.bl b)
 | .int i _=>some (.int i)
 | .str x _=>some (.str x)
 | .bytes b _=>some (.byt b)
 | .float b _=>some (.flt b)
 | .ref a=>some (.ref a)
 | .type n=>some (.ty n)
 | _=>none
theorem RelV.abs {x:V} {u:Value} (r:RelV x u):absV u=some x:=by
 cases x with
 | non=>cases r;rfl
 | bl _=>cases r;rfl
 | int _=>obtain⟨t,rfl⟩:=r;rfl
 | str _=>obtain⟨t,rfl⟩:=r;rfl
 | byt _=>obtain⟨t,rfl⟩:=r;rfl
 | flt _=>obtain⟨t,rfl⟩:=r;rfl
 | ref _=>cases r;rfl
 | ty _=>cases r;rfl
theorem RelV.inj {x y:V} {u:Value} (r:RelV x u) (q:RelV y u):x=y:=lJr (r.abs.symm.trans q.abs)
theorem Vals.inj {xs ys:List V} {us:List Value} (h:Vals xs us) (g:Vals ys us):xs=ys:=by
 induction h generalizing ys with
 | nil=>(cases g;rfl)
 | cons r _ ih=>(cases g with | cons r' t'=>rw[r.inj r',ih t'])
section
variable {X:Cx} {pins:List (Addr×Obj)} {σ:St} {H:Hp} {s:Shared} {a:Addr} {xs ys:List V}
theorem SqL.of {K:PySem.W.Frag} (h:H a=some (.lst xs)):SqL K H a xs:= .inl (.inl h)
theorem SqT.of {K:PySem.W.Frag} (h:H a=some (.tup xs)):SqT K H a xs:= .inl (.inl h)
theorem Inv.list (I:Inv X pins σ H s) (h:SqL X.K H a xs):∃its:List Value,Vals xs its/\PlainL s.heap a its.toArray/\xs.length<=sizeLine:=by
 rcases h with h | ⟨o,its,n,hk,hc,hd,hs,hz,r⟩
 ·obtain⟨z,its,n,r,e⟩:=h.ok I.hok
  exact⟨its,r,⟨_,n,e,rfl,rfl,rfl⟩,z⟩
 ·refine⟨its.toList,r,⟨o,n,I.kIn a o hk,hc,hd,by simpa using hs⟩,?_⟩
  have e:=r.length
  simp only[lJ7] at e
  omega
theorem Inv.tuple (I:Inv X pins σ H s) (h:SqT X.K H a xs):∃its:List Value,Vals xs its/\IsTup s.heap a its.toArray/\xs.length<=sizeLine:=by
 rcases h with h | ⟨o,its,n,hk,hc,hs,hz,r⟩
 ·obtain⟨z,its,r,p⟩:=h.ok I.hok
  exact⟨its,r,p.is,z⟩
 ·refine⟨its.toList,r,⟨o,I.kIn a o hk,hc,n,by simpa using hs⟩,?_⟩
  have e:=r.length
  simp only[lJ7] at e
  omega
theorem Inv.list_inj (I:Inv X pins σ H s) (h:SqL X.K H a xs) (h':SqL X.K H a ys):xs=ys:=by
 obtain⟨its,r,⟨o,n,e,_,_,d⟩,_⟩:=I.list h
 obtain⟨its',r',⟨o',n',e',_,_,d'⟩,_⟩:=I.list h'
 rw[e] at e';cases e'
 rw[d] at d'
 injection d' with d1 _
 have:its=its':=by simpa using congrArg Array.toList d1
 subst this
 exact r.inj r'
theorem Inv.tuple_inj (I:Inv X pins σ H s) (h:SqT X.K H a xs) (h':SqT X.K H a ys):xs=ys:=by
 obtain⟨its,r,⟨o,e,_,n,d⟩,_⟩:=I.tuple h
 obtain⟨its',r',⟨o',e',_,n',d'⟩,_⟩:=I.tuple h'
 rw[e] at e';cases e'
 rw[d] at d'
 injection d' with d1 _
 have:its=its':=by simpa using congrArg Array.toList d1
 subst this
 exact r.inj r'
end
noncomputable abbrev Cx.wish (X:Cx) (E:Value->Shared->Prop):Cx:={X with xe:=E}
noncomputable abbrev Cx.nox (X:Cx):Cx:=X.wish fun _ _=>False
theorem Cx.Ok.wish {X:Cx} (ok:X.Ok) (E:Value->Shared->Prop):(X.wish E).Ok:=
 ⟨ok.mod,ok.kind,ok.glob,ok.blt,ok.above,ok.inj,ok.has,ok.cab,ok.hd,ok.gd,ok.frames,ok.stk,ok.exf,ok.bs,ok.bsz,ok.noex,ok.exfs,ok.funs,ok.frf⟩
theorem Cx.Ok.unwish {X:Cx} {E:Value->Shared->Prop} (ok:(X.wish E).Ok):X.Ok:=
 ⟨ok.mod,ok.kind,ok.glob,ok.blt,ok.above,ok.inj,ok.has,ok.cab,ok.hd,ok.gd,ok.frames,ok.stk,ok.exf,ok.bs,ok.bsz,ok.noex,ok.exfs,ok.funs,ok.frf⟩
section
variable {X:Cx} {pins:List (Addr×Obj)} {σ:St} {H:Hp} {s:Shared} {E:Value->Shared->Prop}
theorem Inv.wish (I:Inv X pins σ H s) (E:Value->Shared->Prop):Inv (X.wish E) pins σ H s:=⟨I.ok.wish E,I.os,I.bare,I.base,I.loc,I.cell,I.free,I.freeC,I.pin,I.hok,I.len⟩
theorem Inv.unwish (I:Inv (X.wish E) pins σ H s):Inv X pins σ H s:=⟨I.ok.unwish,I.os,I.bare,I.base,I.loc,I.cell,I.free,I.freeC,I.pin,I.hok,I.len⟩
theorem SP.unwish {D:Ends} {f:Flow} {s':Shared} (h:SP (X.wish E) pins D f s'):SP X pins D f s':=by
 cases f with
 | next=>obtain⟨σ',H',I,q⟩:=h;exact⟨σ',H',I.unwish,q⟩
 | brk=>obtain⟨σ',H',I,q⟩:=h;exact⟨σ',H',I.unwish,q⟩
 | cont=>obtain⟨σ',H',I,q⟩:=h;exact⟨σ',H',I.unwish,q⟩
 | ret u=>obtain⟨v,σ',H',I,r,q⟩:=h;exact⟨v,σ',H',I.unwish,r,q⟩
theorem PSs.nox {st:List Stmt} {t:TS} (h:PSs X.nox st t):PSs X st t:=fun pins s σ H D I hw=>
 wpAny_mono (h pins s σ H D (I.wish _) hw) (fun _ _ q=>q.unwish) fun _ _ z=>False.elim z
end
section
variable {X:Cx} {st:Stmt} {rest:List Stmt} {t u:TS} {e:Expr} {te:TE} {pos:Pos}
noncomputable def jQn:TS:=fun D σ H=>D.nx σ H
noncomputable def tSeq (t u:TS):TS:=fun D σ H=>t {D with nx:=u D} σ H
theorem Inv.quiet {pins:List (Addr×Obj)} {σ:St} {H:Hp} {s:Shared} (I:Inv X pins σ H s):interactive X.env=false:=by simp[interactive,I.ok.kind]
noncomputable def jV7 (te:TE):TS:=fun D σ H=>te σ H fun _ H1=>D.nx σ H1
noncomputable def tRet (te:TE):TS:=fun D σ H=>te σ H D.rt
noncomputable def tRetN:TS:=fun D _ H=>D.rt .non H
noncomputable def tIfS (c:TT) (t u:TS):TS:=fun D σ H=>c σ H fun b H1=>if b=true then t D σ H1 else u D σ H1
end
noncomputable abbrev TG:=V->St->Hp->(St->Hp->Prop)->Prop
noncomputable abbrev TGs:=List V->St->Hp->(St->Hp->Prop)->Prop
noncomputable abbrev TSet:=V->V->V->Hp->(Hp->Prop)->Prop
def PSet (X:Cx) (t:TSet):Prop:=
 ∀(pins:List (Addr×Obj)) (s:Shared) (σ:St) (H:Hp) (o i v:V) (ov iv u:Value) (Q:Hp->Prop),Inv X pins σ H s->RelV o ov->RelV i iv->RelV v u->t o i v H Q->
  wpAny (model X.prog X.w) X.A (setItem ov iv u) (fun _ s'=>∃H',Inv X pins σ H' s'/\Q H') X.xe s
section
variable {X:Cx} {pos:Pos}
noncomputable def jJj (i:Nat):TG:=fun v σ H Q=>Q (σ.set i (some v)) H
noncomputable def gNil:TGs:=fun vs σ H Q=>vs=[]/\Q σ H
noncomputable def jKg (t:TG) (u:TGs):TGs:=fun vs σ H Q=>∃v r,vs=v::r/\t v σ H fun σ' H'=>u r σ' H' Q
noncomputable def gTup (K:PySem.W.Frag) (n:Nat) (t:TGs):TG:=fun v σ H Q=>∃a xs,v= .ref a/\SqT K H a xs/\xs.length=n/\t xs σ H Q
noncomputable def gSub (to ti:TE) (t:TSet):TG:=fun v σ H Q=>to σ H fun o H1=>ti σ H1 fun i H2=>t o i v H2 fun H3=>Q σ H3
noncomputable def tAsg (te:TE) (g:TG):TS:=fun D σ H=>te σ H fun x H1=>g x σ H1 D.nx
noncomputable def tPar (i j:Nat) (ta:TA):TS:=fun D σ H=>ta σ H fun vs H1=>∃v w,vs=[v,w]/\D.nx ((σ.set i (some v)).set j (some w)) H1
end
section
variable {X:Cx} {pos:Pos}
noncomputable def kQe (c:TT) (tb:TS):TS:=fun D σ H=>∃W:Nat->St->Hp->Prop,(∃m,W m σ H)/\∀m σ H,W m σ H->
 c σ H fun b H1=>if b=true then ∃N:St->Hp->Prop,(∀ σ' H',N σ' H'->∃m',m'<m/\W m' σ' H')/\tb {D with nx:=N,ct:=N,bk:=D.nx} σ H1 else D.nx σ H1
end
structure It where
 go:Nat->Hp->Prop
 yld:Nat->Hp->V->Hp->Prop
 stop:Nat->Hp->Prop
def FpOk (X:Cx) (pins:List (Addr×Obj)) (H:Hp) (b:Addr):Prop:=
 H b=none/\b≠X.env.locals/\b∉X.fs/\(b∈X.ex\/X.s₀.heap.objs.size<=b)/\(∀x c,X.env.cells.lookup x=some c->c≠b)/\∀p∈X.pn++pins,p.1≠b
theorem Inv.fpOk {X:Cx} {pins:List (Addr×Obj)} {σ:St} {H H':Hp} {s:Shared} {b:Addr} (I:Inv X pins σ H s) (hb:s.heap.objs.size<=b) (hn:H' b=none):FpOk X pins H' b:=by
 refine⟨hn,lKv (lJz I.lt hb),I.nofs hb,.inr (lKb I.sz hb),fun x c e z=> ?_,fun p hp z=> ?_⟩
 ·obtain⟨v,q⟩:=I.cell x c e
  exact absurd (lJz q.lt (by rw[z];exact hb)) (lK5 _)
 ·exact absurd (lJz (Heap.lt_size (I.pin p hp).1) (by rw[z];exact hb)) (lK5 _)
structure Turn (P:Program) (w:World) (K:PySem.W.Frag) (tg:Expr) (J:It) (fp:List Addr) (it:Addr) (tn:Nat->Heap->Prop):Prop where
 mem:it∈fp
 obj:∀i h,tn i h->∀b∈fp,∃o,h.get? b=some o/\∀v,o.data≠ .cell v
 keep:∀i h h',tn i h->(∀b∈fp,∀o,h.get? b=some o->h'.get? b=some o)->tn i h'
 item:∀(X:Cx),X.prog=P->X.w=w->X.K=K->X.calm=true->∀(i:Nat) (pins:List (Addr×Obj)) (s:Shared) (σ:St) (H:Hp) (E:Value->Shared->Prop),Inv X pins σ H s->(∀b∈fp,FpOk X pins H b)->tn i s.heap->J.go i H->
  wpAny (model P w) X.A (pyNext (.ref it)) (fun r s1=>∃u,r=some u/\
   wpAny (model P w) X.A (letOwnedTupleGo tg (.ref it) u) (fun _ s2=>∃x H',Inv X pins σ H' s2/\RelV x u/\J.yld i H x H'/\tn (i+1) s2.heap/\∀b∈fp,H' b=none) E s1) E s
 done:∀(X:Cx),X.prog=P->X.w=w->X.K=K->X.calm=true->∀(i:Nat) (pins:List (Addr×Obj)) (s:Shared) (σ:St) (H:Hp) (E:Value->Shared->Prop),Inv X pins σ H s->(∀b∈fp,FpOk X pins H b)->tn i s.heap->J.stop i H->
  wpAny (model P w) X.A (pyNext (.ref it)) (fun r s1=>r=none/\Inv X pins σ H s1) E s
 self:∀(A:Around) (i:Nat) (s:Shared) (Q:Value->Shared->Prop) (E:Value->Shared->Prop),tn i s.heap->Q (.ref it) s->wpAny (model P w) A (pyIter (.ref it)) Q E s
noncomputable abbrev TI:=St->Hp->(It->Hp->Prop)->Prop
def PIE (X:Cx) (pins:List (Addr×Obj)) (σ:St) (tg:Expr) (R:It->Hp->Prop) (itv:Value) (s2:Shared):Prop:=
 ∃(it:Addr) (fp:List Addr) (tn:Nat->Heap->Prop) (J:It) (H':Hp),itv= .ref it/\Inv X pins σ H' s2/\Turn X.prog X.w X.K tg J fp it tn/\tn 0 s2.heap/\(∀b∈fp,FpOk X pins H' b)/\R J H'
def PI (X:Cx) (tg iter:Expr) (wi:TI):Prop:=
 ∀(pins:List (Addr×Obj)) (s:Shared) (σ:St) (H:Hp) (R:It->Hp->Prop),Inv X pins σ H s->wi σ H R->
  wpAny (model X.prog X.w) X.A (eval iter X.env) (fun v s1=>wpAny (model X.prog X.w) X.A (pyIter v) (PIE X pins σ tg R) X.xe s1) X.xe s
theorem go_of {M:Model} {A:Around} {E:Value->Shared->Prop} {s:Shared} {tg:Expr} {it:Addr} {u:Value} {o:Obj} {n:String} {vs:Array Value} {Q:Unit->Shared->Prop} (ho:s.heap.get? it=some o) (hc:o.cls= .type n) (hd:o.data= .fields vs)
  (hn:["enumerate","zip","dict_itemiterator","dict_reverseitemiterator","odict_iterator","itertools.zip_longest","itertools.pairwise"].contains n=false) (hQ:Q () s):wpAny M A (letOwnedTupleGo tg (.ref it) u) Q E s:=by
 unfold letOwnedTupleGo
 cases tg<;>first
  | exact wpAny_pure hQ
  | (cases u<;>first
    | exact wpAny_pure hQ
    | (refine wpAny_bind (wpAny_load ho ?_)
       rw[hc,hd]
       show wpAny M A (if (["enumerate","zip","dict_itemiterator","dict_reverseitemiterator","odict_iterator","itertools.zip_longest","itertools.pairwise"].contains n&&vs[0]? == some (rawInt _))=true then _ else _) Q E s
       rw[if_neg (by intro h;rw[hn,Bool.false_and] at h;cases h)]
       exact wpAny_pure hQ))
noncomputable def Itl (K:PySem.W.Frag) (a:Addr):It:=
 ⟨fun i H=>∃xs x,SqL K H a xs/\xs[i]? =some x,fun i H x H'=>H'=H/\∀xs,SqL K H a xs->xs[i]? =some x,fun i H=>∃xs,SqL K H a xs/\xs.length<=i⟩
noncomputable def Itt (K:PySem.W.Frag) (a:Addr):It:=
 ⟨fun i H=>∃xs x,SqT K H a xs/\xs[i]? =some x,fun i H x H'=>H'=H/\∀xs,SqT K H a xs->xs[i]? =some x,fun i H=>∃xs,SqT K H a xs/\xs.length<=i⟩
noncomputable def Itr (lo:Int) (n:Nat):It:=⟨fun i _=>i<n,fun i H x H'=>H'=H/\x= .int (lo+i),fun i _=>n<=i⟩
theorem turn_list {P:Program} {w:World} {K:PySem.W.Frag} {tg:Expr} (a it:Addr):Turn P w K tg (Itl K a) [it] it (fun i h=>h.IsListIter it a i) where
 mem:=by simp
 obj:=fun i h st b hb=>by
  have e:b=it:=by simpa using hb
  subst e
  obtain⟨o,e,c,d⟩:=st
  exact⟨o,e,fun v z=>by rw[d] at z;cases z⟩
 keep:=fun i h h' st k=>st.at fun o e=>k it (by simp) o e
 item:=by
  intro X hP hw hK hc i pins s σ H E I hf st hg
  subst hP hw hK
  obtain⟨xs,x,hq,hx⟩:=hg
  obtain⟨its,rv,p,hz⟩:=I.list hq
  obtain⟨u,hu,ru⟩:=rv.get hx
  obtain⟨f0,f1,f2,f3,f4,f5⟩:=hf it (by simp)
  refine wpAny_pyNext_list_item st p.isList (x:=u) (by simpa using hu) fun h' st' sb=> ?_
  have I1:Inv X pins σ H {s with heap:=h'}:=I.turned (t':=s.toks) (fun b o hb e=>(sb.2 b hb).trans e) f0 f1 f3 f4 f5
  obtain⟨o,e,c,d⟩:=id st'
  exact⟨u,rfl,go_of (s:={s with heap:=h'}) e c d (by decide) ⟨x,H,I1,ru,⟨rfl,fun ys hy=>by rw[I.list_inj hy hq];exact hx⟩,st',fun b hb=>(hf b hb).1⟩⟩
 done:=by
  intro X hP hw hK hc i pins s σ H E I hf st hg
  subst hP hw hK
  obtain⟨xs,hq,hx⟩:=hg
  obtain⟨its,rv,p,hz⟩:=I.list hq
  obtain⟨f0,f1,f2,f3,f4,f5⟩:=hf it (by simp)
  have hl:=rv.length
  exact wpAny_pyNext_list_end (I.ok.hd hc) st p.isList (by simp;omega) fun h' eb=>⟨rfl,I.turned (t':=s.toks) (fun b o hb e=>eb b o hb e) f0 f1 f3 f4 f5⟩
 self:=fun _ _ _ _ _ st h=>wpAny_pyIter_listiter st h
theorem turn_tuple {P:Program} {w:World} {K:PySem.W.Frag} {tg:Expr} (a it:Addr):Turn P w K tg (Itt K a) [it] it (fun i h=>h.IsTupleIter it a i) where
 mem:=by simp
 obj:=fun i h st b hb=>by
  have e:b=it:=by simpa using hb
  subst e
  obtain⟨o,e,c,d⟩:=st
  exact⟨o,e,fun v z=>by rw[d] at z;cases z⟩
 keep:=fun i h h' st k=>st.at fun o e=>k it (by simp) o e
 item:=by
  intro X hP hw hK hc i pins s σ H E I hf st hg
  subst hP hw hK
  obtain⟨xs,x,hq,hx⟩:=hg
  obtain⟨its,rv,p,hz⟩:=I.tuple hq
  obtain⟨u,hu,ru⟩:=rv.get hx
  obtain⟨f0,f1,f2,f3,f4,f5⟩:=hf it (by simp)
  refine wpAny_pyNext_tuple_item st (show s.heap.IsTuple a its.toArray from p) (x:=u) (by simpa using hu) fun h' st' sb=> ?_
  have I1:Inv X pins σ H {s with heap:=h'}:=I.turned (t':=s.toks) (fun b o hb e=>(sb.2 b hb).trans e) f0 f1 f3 f4 f5
  obtain⟨o,e,c,d⟩:=id st'
  exact⟨u,rfl,go_of (s:={s with heap:=h'}) e c d (by decide) ⟨x,H,I1,ru,⟨rfl,fun ys hy=>by rw[I.tuple_inj hy hq];exact hx⟩,st',fun b hb=>(hf b hb).1⟩⟩
 done:=by
  intro X hP hw hK hc i pins s σ H E I hf st hg
  subst hP hw hK
  obtain⟨xs,hq,hx⟩:=hg
  obtain⟨its,rv,p,hz⟩:=I.tuple hq
  obtain⟨f0,f1,f2,f3,f4,f5⟩:=hf it (by simp)
  have hl:=rv.length
  exact wpAny_pyNext_tuple_end (I.ok.hd hc) st (show s.heap.IsTuple a its.toArray from p) (by simp;omega) fun h' eb=>⟨rfl,I.turned (t':=s.toks) (fun b o hb e=>eb b o hb e) f0 f1 f3 f4 f5⟩
 self:=fun _ _ _ _ _ st h=>wpAny_pyIter_tupleiter st h
theorem turn_range {P:Program} {w:World} {K:PySem.W.Frag} {tg:Expr} (it:Addr) (lo:Int) (n:Nat):Turn P w K tg (Itr lo n) [it] it (fun i h=>IsRangeIter h it (lo+(i:Nat)*1) ((n:Int)-(i:Nat)) 1) where
 mem:=by simp
 obj:=fun i h st b hb=>by
  have e:b=it:=by simpa using hb
  subst e
  exact⟨_,st,fun v z=>by
   have z':Data.fields _=Data.cell v:=z
   cases z'⟩
 keep:=fun i h h' st k=>k it (by simp) _ st
 item:=by
  intro X hP hw hK hc i pins s σ H E I hf st hg
  subst hP hw hK
  obtain⟨f0,f1,f2,f3,f4,f5⟩:=hf it (by simp)
  have W:=Walks.range (prog:=X.prog) (w:=X.w) (I.ok.hd hc) it lo 1 n
  refine W.item i s _ _ hg st fun v h' tk hv st' kk=> ?_
  obtain⟨t,rfl⟩:=hv
  have I1:Inv X pins σ H {s with heap:=h',toks:=tk}:=I.turned (fun b o hb e=>kk b o (by simpa using hb) e) f0 f1 f3 f4 f5
  refine⟨_,rfl,go_of (s:={s with heap:=h',toks:=tk}) (n:="range_iterator") st' rfl rfl (by decide) ⟨.int (lo+i),H,I1,⟨t,?_⟩,⟨rfl,rfl⟩,st',fun b hb=>(hf b hb).1⟩⟩
  rw[Int.mul_one]
 done:=by
  intro X hP hw hK hc i pins s σ H E I hf st hg
  subst hP hw hK
  obtain⟨f0,f1,f2,f3,f4,f5⟩:=hf it (by simp)
  exact wpAny_pyNext_range_end (I.ok.hd hc) st (by have:n<=i:=hg;omega) fun h' eb=>⟨rfl,I.turned (t':=s.toks) (fun b o hb e=>eb b o hb e) f0 f1 f3 f4 f5⟩
 self:=fun _ _ _ _ _ st h=>wpAny_pyIter_rangeiter st h
end L2
namespace L2
open PySem PySem.Spec PyProof.Rows
section
variable {X:Cx} {tg:Expr}
theorem range_it {pins:List (Addr×Obj)} {σ:St} {H:Hp} {s:Shared} {R:It->Hp->Prop} {E:Value->Shared->Prop} {lo hi:Int} {t u v:Tok} {tk:Nat} (I:Inv X pins σ H s) (h1: -(2^62)<=lo) (h2:lo<2^62) (h3: -(2^62)<=hi) (h4:hi<2^62)
  (q:R (Itr lo (hi-lo).toNat) H):wpAny (model X.prog X.w) X.A (pyIter (.ref s.heap.objs.size)) (PIE X pins σ tg R) E {s with heap:=s.heap.push {cls:= .type "range",data:= .fields #[.int lo t,.int hi u,.int 1 v]},toks:=tk}:=by
 refine wpAny_pyIter_range (IsRange.new ..) (small_one h1 h2 h3 h4) ?_
 have I1:Inv X pins σ H {s with heap:=s.heap.push {cls:= .type "range",data:= .fields #[.int lo t,.int hi u,.int 1 v]},toks:=tk}:=I.kept fun b o e=>Heap.get?_push_of_some _ e
 refine⟨(s.heap.push {cls:= .type "range",data:= .fields #[.int lo t,.int hi u,.int 1 v]}).objs.size,[(s.heap.push {cls:= .type "range",data:= .fields #[.int lo t,.int hi u,.int 1 v]}).objs.size],_,_,H,rfl,
  I1.kept (t':=tk) fun b o e=>Heap.get?_push_of_some _ e,turn_range _ lo (hi-lo).toNat,?_,fun b hb=> ?_,q⟩
 ·have e1:lo+((0:Nat):Int)*1=lo:=by simp
  have e2:(((hi-lo).toNat:Nat):Int)-((0:Nat):Int)=Builtin.Range.rangeSize lo hi 1:=by rw[rangeSize_one];split<;>omega
  show IsRangeIter _ _ (lo+((0:Nat):Int)*1) ((((hi-lo).toNat:Nat):Int)-((0:Nat):Int)) 1
  rw[e1,e2]
  exact Heap.get?_push_size _ rfl
 ·have e:b=(s.heap.push {cls:= .type "range",data:= .fields #[.int lo t,.int hi u,.int 1 v]}).objs.size:=by simpa using hb
  subst e
  exact I1.fpOk (lJd _) (I1.hok.fresh (lJd _))
noncomputable def jKt (ta:TA):TI:=fun σ H R=>ta σ H fun vs H1=>∃j:Int,vs=[.int j]/\ -(2^62)<=j/\j<2^62/\R (Itr 0 j.toNat) H1
noncomputable def iRng2 (ta:TA):TI:=fun σ H R=>ta σ H fun vs H1=>∃i j:Int,vs=[.int i,.int j]/\(-(2^62)<=i/\i<2^62/\ -(2^62)<=j/\j<2^62)/\R (Itr i (j-i).toNat) H1
noncomputable def tFor (wi:TI) (g:TG) (tb:TS):TS:=fun D σ H=>wi σ H fun J H1=>∃W:Nat->Nat->St->Hp->Prop,(∃m,W 0 m σ H1)/\∀i m σ H,W i m σ H->
 (J.stop i H/\D.nx σ H)\/(J.go i H/\∃N:St->Hp->Prop,(∀ σ' H',N σ' H'->∃m',m'<m/\W (i+1) m' σ' H')/\∀x H',J.yld i H x H'->g x σ H' fun σ2 H2=>tb {D with nx:=N,ct:=N,bk:=D.nx} σ2 H2)
noncomputable def jYj (fp:List Addr) (h:Heap):List (Addr×Obj):=fp.filterMap fun b=>(h.get? b).map fun o=>(b,o)
theorem jYc {fp:List Addr} {h:Heap} {b:Addr} {o:Obj} (hb:b∈fp) (e:h.get? b=some o):(b,o)∈jYj fp h:=lQh.mpr ⟨b,hb,by rw[e];rfl⟩
theorem of_pinsAt {fp:List Addr} {h:Heap} {p:Addr×Obj} (hp:p∈jYj fp h):p.1∈fp/\h.get? p.1=some p.2:=by
 obtain⟨b,hb,e⟩:=lQh.mp hp
 cases q:h.get? b with
 | none=>rw[q] at e;cases e
 | some o=>
  rw[q] at e
  have e':(b,o)=p:=lJr e
  subst e'
  exact⟨hb,q⟩
theorem Inv.pinned {pins:List (Addr×Obj)} {σ:St} {H:Hp} {s:Shared} {fp:List Addr} (I:Inv X pins σ H s) (hf:∀b∈fp,FpOk X pins H b) (ho:∀b∈fp,∃o,s.heap.get? b=some o/\∀v,o.data≠ .cell v):Inv X (pins++jYj fp s.heap) σ H s:=
 I.pins_of fun p hp=>(lJ4.mp hp).elim (fun z=>I.pin p (lKc _ z)) fun z=>by
  obtain⟨hb,e⟩:=of_pinsAt z
  obtain⟨f0,f1,f2,_⟩:=hf p.1 hb
  obtain⟨o,e',d⟩:=ho p.1 hb
  rw[e] at e';cases e'
  exact⟨e,f0,f1,f2,d⟩
theorem Inv.unpinned {pins pl:List (Addr×Obj)} {σ:St} {H:Hp} {s:Shared} (I:Inv X (pins++pl) σ H s):Inv X pins σ H s:=I.pins_of fun p hp=>I.pin p (lKc _ (lKp _ hp))
end
end L2
namespace L2
open PySem PySem.Spec PyProof.Rows
noncomputable abbrev R2:=V->V->Hp->VK->Prop
def OpR (X:Cx) (f:Value->Value->Sem Value) (r:R2):Prop:=
 ∀(pins:List (Addr×Obj)) (s:Shared) (σ:St) (H:Hp) (x y:V) (v u:Value) (Q:VK),Inv X pins σ H s->RelV x v->RelV y u->r x y H Q->
  wpAny (model X.prog X.w) X.A (f v u) (EP X pins σ Q) X.xe s
def UnR (X:Cx) (f:Value->Sem Value) (r:V->Hp->VK->Prop):Prop:=
 ∀(pins:List (Addr×Obj)) (s:Shared) (σ:St) (H:Hp) (x:V) (v:Value) (Q:VK),Inv X pins σ H s->RelV x v->r x H Q->
  wpAny (model X.prog X.w) X.A (f v) (EP X pins σ Q) X.xe s
def kU8 (X:Cx) (f:Value) (r:List V->Hp->VK->Prop):Prop:=
 ∀(pins:List (Addr×Obj)) (s:Shared) (σ:St) (H:Hp) (xs:List V) (us:List Value) (Q:VK),Inv X pins σ H s->Vals xs us->r xs H Q->
  wpAny (model X.prog X.w) X.A (call f us) (EP X pins σ Q) X.xe s
def TruR (X:Cx) (r:V->Hp->(Bool->Hp->Prop)->Prop):Prop:=
 ∀(pins:List (Addr×Obj)) (s:Shared) (σ:St) (H:Hp) (x:V) (v:Value) (Q:Bool->Hp->Prop),Inv X pins σ H s->RelV x v->r x H Q->
  wpAny (model X.prog X.w) X.A (truthy v) (TP X pins σ Q) X.xe s
noncomputable def tOp (r:R2) (ta tb:TE):TE:=fun σ H Q=>ta σ H fun x H1=>tb σ H1 fun y H2=>r x y H2 Q
noncomputable def tUn (r:V->Hp->VK->Prop) (ta:TE):TE:=fun σ H Q=>ta σ H fun x H1=>r x H1 Q
noncomputable def rI (C:Int->Int->Prop) (g:Int->Int->V):R2:=fun x y H Q=>∃i j,x= .int i/\y= .int j/\C i j/\Q (g i j) H
noncomputable def rI0 (g:Int->Int->V):R2:=fun x y H Q=>∃i j,x= .int i/\y= .int j/\Q (g i j) H
noncomputable def rU (g:Int->V):V->Hp->VK->Prop:=fun x H Q=>∃i,x= .int i/\Q (g i) H
section
variable {X:Cx} {a b c:Expr} {ta tb tc:TE} {pos:Pos}
theorem opI {f:Value->Value->Sem Value} {C:Int->Int->Prop} {g:Int->Int->Int}
  (rule:∀(i j:Int) (t u:Tok) (s:Shared) (Q:Value->Shared->Prop) (E:Value->Shared->Prop),C i j->Q (.int (g i j) s.toks) {s with toks:=s.toks+1}->wpAny (model X.prog X.w) X.A (f (.int i t) (.int j u)) Q E s):
  OpR X f (rI C fun i j=> .int (g i j)):=by
 intro pins s σ H x y v u Q I rx ry h
 obtain⟨i,j,rfl,rfl,hc,q⟩:=h
 obtain⟨t,rfl⟩:=rx
 obtain⟨t',rfl⟩:=ry
 exact rule i j t t' s _ _ hc ⟨.int (g i j),H,I.tok _,⟨_,rfl⟩,q⟩
theorem opI0 {f:Value->Value->Sem Value} {g:Int->Int->Int}
  (rule:∀(i j:Int) (t u:Tok) (s:Shared) (Q:Value->Shared->Prop) (E:Value->Shared->Prop),Q (.int (g i j) s.toks) {s with toks:=s.toks+1}->wpAny (model X.prog X.w) X.A (f (.int i t) (.int j u)) Q E s):
  OpR X f (rI0 fun i j=> .int (g i j)):=by
 intro pins s σ H x y v u Q I rx ry h
 obtain⟨i,j,rfl,rfl,q⟩:=h
 obtain⟨t,rfl⟩:=rx
 obtain⟨t',rfl⟩:=ry
 exact rule i j t t' s _ _ ⟨.int (g i j),H,I.tok _,⟨_,rfl⟩,q⟩
theorem opB0 {f:Value->Value->Sem Value} {g:Int->Int->Bool}
  (rule:∀(i j:Int) (t u:Tok) (s:Shared) (Q:Value->Shared->Prop) (E:Value->Shared->Prop),Q (.bool (g i j)) s->wpAny (model X.prog X.w) X.A (f (.int i t) (.int j u)) Q E s):
  OpR X f (rI0 fun i j=> .bl (g i j)):=by
 intro pins s σ H x y v u Q I rx ry h
 obtain⟨i,j,rfl,rfl,q⟩:=h
 obtain⟨t,rfl⟩:=rx
 obtain⟨t',rfl⟩:=ry
 exact rule i j t t' s _ _ ⟨.bl (g i j),H,I,rfl,q⟩
def CDiv (i j:Int):Prop:=0<j/\j<1073741824
def CPow (i j:Int):Prop:=0<=j/\j<=1000000/\i.natAbs<2^64
def CMul (i j:Int):Prop:=(-(2^64)<i/\i<2^64)\/(-(2^64)<j/\j<2^64)
theorem CMul.ok {i j:Int} (h:CMul i j):IntMulOk i j:=by
 rcases h with ⟨h1,h2⟩ | ⟨h1,h2⟩
 ·exact .of_left (intBits_le_64 h1 h2)
 ·exact .of_right (intBits_le_64 h1 h2)
theorem op_add:OpR X (binaryOp .Add) (rI0 fun i j=> .int (i+j)):=opI0 fun _ _ _ _ _ _ _ q=>add_int q
theorem op_sub:OpR X (binaryOp .Sub) (rI0 fun i j=> .int (i-j)):=opI0 fun _ _ _ _ _ _ _ q=>sub_int q
theorem op_mul:OpR X (binaryOp .Mult) (rI CMul fun i j=> .int (i*j)):=opI fun _ _ _ _ _ _ _ hc q=>mul_int q hc.ok
theorem op_fdiv:OpR X (binaryOp .FloorDiv) (rI CDiv fun i j=> .int (i / j)):=opI fun i j _ _ _ _ _ hc q=>by
 have h1:(0:Int)<j:=hc.1
 have h2:j<1073741824:=hc.2
 exact floordiv_int (by omega) (by rw[Int.fdiv_eq_ediv_of_nonneg i (by omega)];exact q) (.inl (PyProof.noPylong_small (by omega)))
theorem op_mod:OpR X (binaryOp .Mod) (rI (fun _ j=>0<j) fun i j=> .int (i%j)):=opI fun i j _ _ _ _ _ hc q=>by
 have h1:(0:Int)<j:=hc
 exact mod_int' (by omega) (by rw[Int.fmod_eq_emod_of_nonneg i (by omega)];exact q)
theorem op_pow:OpR X (binaryOp .Pow) (rI CPow fun i j=> .int (i^j.toNat)):=opI fun _ _ _ _ _ _ _ hc q=>pow_int_small hc.1 hc.2.1 hc.2.2 q
theorem unI {f:Value->Sem Value} {g:Int->Int}
  (rule:∀(i:Int) (t:Tok) (s:Shared) (Q:Value->Shared->Prop) (E:Value->Shared->Prop),Q (.int (g i) s.toks) {s with toks:=s.toks+1}->wpAny (model X.prog X.w) X.A (f (.int i t)) Q E s):
  UnR X f (rU fun i=> .int (g i)):=by
 intro pins s σ H x v Q I rx h
 obtain⟨i,rfl,q⟩:=h
 obtain⟨t,rfl⟩:=rx
 exact rule i t s _ _ ⟨.int (g i),H,I.tok _,⟨_,rfl⟩,q⟩
theorem un_neg:UnR X (unaryOp .USub) (rU fun i=> .int (-i)):=unI fun _ _ _ _ _ q=>neg_int q
end
section
variable {X:Cx} {a b c:Expr} {ta tb tc:TE} {pos:Pos}
theorem fin_bl {pins:List (Addr×Obj)} {σ:St} {H:Hp} {s:Shared} {Q:VK} {k k':Bool} (I:Inv X pins σ H s) (q:Q (.bl k) H) (e:k=k'):EP X pins σ Q (.bool k') s:=by
 subst e
 exact⟨.bl k,H,I,rfl,q⟩
theorem op_lt:OpR X (compareOp .Lt) (rI0 fun i j=> .bl (decide (i<j))):=opB0 fun _ _ _ _ _ _ _ q=>lt_int q
theorem op_le:OpR X (compareOp .LtE) (rI0 fun i j=> .bl (decide (i<=j))):=opB0 fun _ _ _ _ _ _ _ q=>le_int q
theorem op_gt:OpR X (compareOp .Gt) (rI0 fun i j=> .bl (decide (j<i))):=opB0 fun _ _ _ _ _ _ _ q=>gt_int q
theorem op_ge:OpR X (compareOp .GtE) (rI0 fun i j=> .bl (decide (j<=i))):=opB0 fun _ _ _ _ _ _ _ q=>ge_int q
theorem op_isN:OpR X (compareOp .Is) (fun x y H Q=>y= .non/\Q (.bl (decide (x= .non))) H):=by
 intro pins s σ H x y v u Q I rx ry h
 obtain⟨rfl,q⟩:=h
 cases ry
 refine is_none_gen (fin_bl I q ?_)
 cases x<;>first
  | (cases rx;rfl)
  | (obtain⟨t,rfl⟩:=rx;rfl)
theorem nomark (b:Expr) {op:CmpOp} (h:op≠ .In:=by decide) (h2:op≠ .NotIn:=by decide):behindInMarks op b=false:=by
 have e1:(op == CmpOp.In)=false:=by cases op<;>first | rfl | exact absurd rfl h
 have e2:(op == CmpOp.NotIn)=false:=by cases op<;>first | rfl | exact absurd rfl h2
 cases b<;>simp[behindInMarks,e1,e2]
noncomputable def jKw (t:TE):TT:=fun σ H Q=>t σ H fun x H'=>∃k,x= .bl k/\Q k H'
def TruV (K:PySem.W.Frag) (x:V) (H:Hp) (k:Bool):Prop:=
 match x with
 | .non=>k=false
 | .bl b=>k=b
 | .int i=>k=(i != 0)
 | .str y=>y.length<=sizeLine/\k=((y.length:Int) != 0)
 | .byt y=>y.size<=sizeLine/\k=((y.size:Int) != 0)
 | .ref p=>(∃xs,SqL K H p xs/\k= !xs.isEmpty)\/(∃xs,SqT K H p xs/\k= !xs.isEmpty)\/∃kvs,H p=some (.dK kvs)/\k= !kvs.isEmpty
 | _=>False
theorem isEmpty_kv {κ:Type} {kvs:List (κ×V)} {vs:List (κ×Value)} (r:KV kvs vs):(!vs.isEmpty)= !kvs.isEmpty:=by
 cases r<;>rfl
theorem kQm {xs:List V} {its:List Value} (r:Vals xs its):(!its.toArray.isEmpty)= !xs.isEmpty:=by
 cases r<;>simp
theorem jZ1:(sizeLine:Nat)<2^63:=by rw[sizeLine_eq];decide
theorem tru_ok:TruR X (fun x H Q=>∃k,TruV X.K x H k/\Q k H):=by
 intro pins s σ H x v Q I rx h
 obtain⟨k,e,q⟩:=h
 have hl:=jZ1
 have hs:sizeLine=16777216:=sizeLine_eq
 cases x with
 | non=>
  cases rx
  have e':k=false:=e
  subst e'
  exact truthy_none ⟨H,I,q⟩
 | bl b=>
  cases rx
  have e':k=b:=e
  subst e'
  exact wpAny_truthy_bool ⟨H,I,q⟩
 | int i=>
  obtain⟨t,rfl⟩:=rx
  have e':k=(i != 0):=e
  subst e'
  exact PySem.P.truthy_int ⟨H,I,q⟩
 | str y=>
  obtain⟨t,rfl⟩:=rx
  obtain⟨hy,e'⟩:y.length<=sizeLine/\k=((y.length:Int) != 0):=e
  subst e'
  exact PySem.P.truthy_str (by omega) ⟨H,I.tok _,q⟩
 | byt y=>
  obtain⟨t,rfl⟩:=rx
  obtain⟨hy,e'⟩:y.size<=sizeLine/\k=((y.size:Int) != 0):=e
  subst e'
  exact PySem.W.truthy_bytes (by omega) ⟨H,I.tok _,q⟩
 | ref p=>
  cases rx
  have e':(∃xs,SqL X.K H p xs/\k= !xs.isEmpty)\/(∃xs,SqT X.K H p xs/\k= !xs.isEmpty)\/∃kvs,H p=some (.dK kvs)/\k= !kvs.isEmpty:=e
  rcases e' with ⟨xs,hx,e'⟩ | ⟨xs,hx,e'⟩ | ⟨kvs,hx,e'⟩
  ·subst e'
   obtain⟨its,r,pl,hz⟩:=I.list hx
   have hlen:=r.length
   exact wpAny_truthy_list pl.isList (by simp only[lJp];omega) ⟨H,I.tok _,by rw[kQm r];exact q⟩
  ·subst e'
   obtain⟨its,r,pl,hz⟩:=I.tuple hx
   have hlen:=r.length
   exact truthy_tuple pl (by simp only[lJp];omega) ⟨H,I.tok _,by rw[kQm r];exact q⟩
  ·subst e'
   obtain⟨hz,hS,vs,r,m⟩:kvs.length<=sizeLine/\(p == sysModules)=false/\∃vs,KV kvs vs/\s.heap.DictOf (jQg X.prog X.w) p vs:=I.hok p _ hx
   have hlen:kvs.length=vs.length:=Paired.length r
   exact wpAny_truthy_dict hS m (by omega) ⟨H,I.tok _,by rw[isEmpty_kv r];exact q⟩
 | _=>exact (show False from e).elim
theorem vals1 {x:V} {us:List Value} (r:Vals [x] us):∃u,us=[u]/\RelV x u:=by
 cases r with
 | cons r1 r2=>cases r2;exact⟨_,rfl,r1⟩
theorem vals2 {x y:V} {us:List Value} (r:Vals [x,y] us):∃u w',us=[u,w']/\RelV x u/\RelV y w':=by
 cases r with
 | cons r1 r2=>
  cases r2 with
  | cons r3 r4=>cases r4;exact⟨_,_,rfl,r1,r3⟩
theorem call_abs:kU8 X (.builtin "abs") (fun xs H Q=>∃i,xs=[.int i]/\Q (.int (if i<0 then -i else i)) H):=by
 intro pins s σ H xs us Q I r h
 obtain⟨i,rfl,q⟩:=h
 obtain⟨u,rfl,t,rfl⟩:=vals1 r
 exact call_abs_int fun u tk=>⟨.int (if i<0 then -i else i),H,I.tok _,⟨_,rfl⟩,q⟩
theorem call_min2 (hc:X.calm=true):kU8 X (.builtin "min") (fun xs H Q=>∃i j,xs=[.int i,.int j]/\Q (.int (if j<i then j else i)) H):=by
 intro pins s σ H xs us Q I r h
 obtain⟨i,j,rfl,q⟩:=h
 obtain⟨u,w',rfl,⟨t,rfl⟩,⟨t',rfl⟩⟩:=vals2 r
 refine min_two_ints (I.ok.hd hc) fun h' tk k=>⟨_,H,I.kept k,?_,q⟩
 by_cases hj:j<i
 ·rw[if_pos hj,if_pos hj];exact⟨_,rfl⟩
 ·rw[if_neg hj,if_neg hj];exact⟨_,rfl⟩
theorem call_int1:kU8 X (.type "int") (fun xs H Q=>(∃i,xs=[.int i]/\Q (.int i) H)\/∃k,xs=[.bl k]/\Q (.int (if k then 1 else 0)) H):=by
 intro pins s σ H xs us Q I r h
 rcases h with ⟨i,rfl,q⟩ | ⟨k,rfl,q⟩
 ·obtain⟨u,rfl,t,rfl⟩:=vals1 r
  exact call_int_int ⟨.int i,H,I,⟨_,rfl⟩,q⟩
 ·obtain⟨u,rfl,r1⟩:=vals1 r
  cases r1
  exact call_int_bool ⟨.int (if k then 1 else 0),H,I.tok _,⟨_,rfl⟩,q⟩
theorem call_divmod:kU8 X (.builtin "divmod") (fun xs H Q=>∃i j,xs=[.int i,.int j]/\CDiv i j/\∀p,H p=none->Q (.ref p) (upd H p (.tup [.int (i / j),.int (i%j)]))):=by
 intro pins s σ H xs us Q I r h
 obtain⟨i,j,rfl,⟨h1,h2⟩,q⟩:=h
 obtain⟨u,w',rfl,⟨t,rfl⟩,⟨t',rfl⟩⟩:=vals2 r
 refine divmod_int (by omega) ?_ (.inl (PyProof.noPylong_small (by omega)))
 rw[Int.fdiv_eq_ediv_of_nonneg i (by omega),Int.fmod_eq_emod_of_nonneg i (by omega)]
 have hn:H s.heap.objs.size=none:=I.hok.fresh (lJd _)
 refine⟨.ref s.heap.objs.size,_,?_,rfl,q _ hn⟩
 refine I.laid (fun b o e=>Heap.get?_push_of_some _ e) (lJd _) ⟨by simp only[lJy,lKn];rw[sizeLine_eq];decide,[.int (i / j) s.toks,.int (i%j) (s.toks+1)],.cons ⟨_,rfl⟩ (.cons ⟨_,rfl⟩ .nil),?_⟩
 exact⟨_,Heap.get?_push_size s.heap rfl,rfl,0,rfl,rfl⟩
end
end L2
namespace L2
open PySem PySem.Spec PyProof.Rows
section
variable {prog:Program} {w:World} {A:Around} {E:Value->Shared->Prop} {s:Shared} {K:PySem.W.Frag} {x dx C f:Addr} {mA:Str->Option Value} {name:Str} {v:Value}
end
theorem RelO.some_of {v:V} {o:Option Value} (r:RelO (some v) o):∃u,o=some u/\RelV v u:=by
 cases o with
 | none=>exact (show False from r).elim
 | some u=>exact⟨u,rfl,r⟩
section
variable {P:Program} {w:World} {H H':Hp} {h h':Heap} {a C dx:Addr} {fs fs':List (Str×V)}
end
section
variable {X:Cx} {pins:List (Addr×Obj)} {σ:St} {H:Hp} {s:Shared} {a C dx:Addr} {fs:List (Str×V)} {f:Str} {v:V} {A:Around} {E:Value->Shared->Prop}
end
section
variable {X:Cx} {o e value:Expr} {f:Str} {pos pos' tpos:Pos} {ta tv:TE}
noncomputable def rSub:V->V->Hp->VK->Prop:=fun x y H Q=>∃i j,x= .int i/\y= .int j/\Q (.int (i-j)) H
end
section
variable {X:Cx} {pins:List (Addr×Obj)} {σ:St} {H:Hp} {s:Shared} {A:Around} {E:Value->Shared->Prop} {Q:Value->Shared->Prop} {c:Value} {b:Bool}
end
end L2
namespace L2
open PySem PySem.Spec PyProof.Rows
structure Room (k:Nat) (A:Around):Prop where
 hd:A.handled=none
 gd:A.guards=some []
 dp:A.depth+3*k+5<recursionLimit
 un:A.units+16*k+200<cLine
theorem Room.mono {j k:Nat} {A:Around} (r:Room k A) (h:j<=k):Room j A:=⟨r.hd,r.gd,by have:=r.dp;omega,by have:=r.un;omega⟩
theorem Room.deeper {k:Nat} {A:Around} (r:Room (k+1) A) (env:Env):Room k (A.deeper env):=
 ⟨r.hd,r.gd,by have:=r.dp;show A.depth+1+3*k+5<_;omega,by have:=r.un;show A.units+3+16*k+200<_;omega⟩
theorem Room.depth {k:Nat} {A:Around} (r:Room k A):A.depth<recursionLimit:=by have:=r.dp;omega
theorem Room.units {k:Nat} {A:Around} (r:Room k A):A.units+64<cLine:=by have:=r.un;omega
noncomputable def tNil:TA:=fun _ H Q=>Q [] H
noncomputable def jJc (ta:TE) (tr:TA):TA:=fun σ H Q=>ta σ H fun x H1=>tr σ H1 fun xs H2=>Q (x::xs) H2
section
variable {X:Cx} {e:Expr} {es:List Expr} {te:TE} {t:TA} {pos:Pos}
noncomputable def tTup (t:TA):TE:=fun σ H Q=>t σ H fun xs H1=>xs.length<=sizeLine/\∀p,H1 p=none->Q (.ref p) (upd H1 p (.tup xs))
noncomputable def tLst (t:TA):TE:=fun σ H Q=>t σ H fun xs H1=>xs.length<=sizeLine/\∀p,H1 p=none->Q (.ref p) (upd H1 p (.lst xs))
end
noncomputable abbrev Sp:=List V->Hp->VK->XK->Prop
noncomputable abbrev CXT:=List Env->Hp->Shared->XK->Value->Shared->Prop
structure Env0 (P:Program) (w:World) (K:PySem.W.Frag) (mg:Str->Option Value) (base:Heap) (A:Around) (outer:List Env) (s:Shared) (H:Hp):Prop where
 frames:A.frames=some outer
 mod:Mod K mg base
 bs:∀b o,base.get? b=some o->s.heap.get? b=some o/\H b=none
 bsz:base.objs.size<=s.heap.objs.size
 funs:s.heap.FunFrames base outer
 frf:∀b∈frs outer,H b=none
 hok:HOk P w H s.heap
 bare:AllBare s.gens
def CE (outer:List Env) (P:Program) (w:World) (H:Hp) (s:Shared) (Q:VK) (u:Value) (s':Shared):Prop:=
 ∃v H',s'.os=s.os/\AllBare s'.gens/\Un (frs outer) [] H H' s.heap s'.heap/\HOk P w H' s'.heap/\RelV v u/\Q v H'
def CR (CX:CXT) (outer:List Env) (P:Program) (w:World) (H:Hp) (s:Shared) (Q:VK) (E:XK) (r:Result) (s':Shared):Prop:=
 match r with
 | .ok (.ret u)=>CE outer P w H s Q u s'
 | .ok _=>False
 | .error e=>CX outer H s E e s'
structure FnOk (P:Program) (w:World) (K:PySem.W.Frag) (mg:Str->Option Value) (base:Heap) (CX:CXT) (k:Nat) (f:Addr) (fd:FuncData) (ps:List Str) (sp:Sp):Prop where
 len:∀vs H Q E,sp vs H Q E->vs.length=ps.length
 run:∀(A:Around) (outer:List Env) (s:Shared) (H:Hp) (args:Args) (us:List Value) (vs:List V) (Q:VK) (E:XK),Room k A->Env0 P w K mg base A outer s H->BindsTo s fd args (ps.zip us)->Vals vs us->sp vs H Q E->
  codeAny (model P w) A (.call (.ref f) args) (CR CX outer P w H s Q E) s
section
variable {X:Cx} {pins:List (Addr×Obj)} {σ:St} {H:Hp} {s s':Shared}
theorem Inv.env0 (I:Inv X pins σ H s):Env0 X.prog X.w X.K X.mg X.base X.A X.stack s H:=
 ⟨I.ok.frames,I.ok.mod,I.bs,lKb I.ok.bsz I.sz,I.stack,I.stkFree,I.hok,I.bare⟩
theorem Inv.after {Q:VK} {u:Value} (I:Inv X pins σ H s) (h:CE X.stack X.prog X.w H s Q u s'):EP X pins σ Q u s':=by
 obtain⟨v,H',os,bare,un,hok,r,q⟩:=h
 obtain⟨hh,g,d,t,os'⟩:=s'
 obtain rfl:os'=s.os:=os
 exact⟨v,H',I.call (h':=hh) (g':=g) (d':=d) (t':=t) (ch:=[]) un hok bare (fun b z=>absurd z (by simp)),r,q⟩
end
noncomputable def jJy (sp:Sp) (dvs:List V) (E:XK) (t:TA):TE:=fun σ H Q=>t σ H fun vs H1=>sp (vs++dvs) H1 Q E
def Binds (K:PySem.W.Frag) (fd:FuncData) (ps:List Str) (ds:List Value):Prop:=
 ∀(s:Shared) (us:List Value),K.In s.heap->(us++ds).length=ps.length->BindsTo s fd ⟨us,[]⟩ (ps.zip (us++ds))
theorem Binds.all {K:PySem.W.Frag} {fd:FuncData} {ps:List Str} (h:∀us:List Value,us.length=ps.length->bindArgs fd ⟨us,[]⟩=pure (ps.zip us)):Binds K fd ps []:=fun s us _ hl=>by
 rw[lQg] at hl ⊢
 exact .of_eq (h us hl)
def Passes (CX:CXT) (X:Cx) (E:XK):Prop:=∀(pins:List (Addr×Obj)) (σ:St) (H:Hp) (s:Shared) (e:Value) (s':Shared),Inv X pins σ H s->CX X.stack H s E e s'->X.xe e s'
section
variable {X:Cx} {CX:CXT} {k:Nat} {f C:Addr} {fd:FuncData} {ps:List Str} {sp:Sp} {dvs:List V} {ds:List Value} {E:XK} {x m:Str} {p pos apos:Pos} {e o:Expr} {es:List Expr} {ta:TE} {t:TA}
theorem run_fn {pins:List (Addr×Obj)} {σ:St} {H:Hp} {s:Shared} {Q:VK} {us:List Value} {vs:List V} (F:FnOk X.prog X.w X.K X.mg X.base CX k f fd ps sp) (hr:Room k X.A) (hb:Binds X.K fd ps ds) (hd:Vals dvs ds) (hx:Passes CX X E)
  (I:Inv X pins σ H s) (r:Vals vs us) (h:sp (vs++dvs) H Q E):wpAny (model X.prog X.w) X.A (call (.ref f) us) (EP X pins σ Q) X.xe s:=by
 have r2:Vals (vs++dvs) (us++ds):=r.append hd
 have hl:(us++ds).length=ps.length:=by rw[<-r2.length];exact F.len _ _ _ _ h
 refine wpAny_call (codeAny_mono (F.run X.A X.stack s H ⟨us,[]⟩ (us++ds) (vs++dvs) Q E hr I.env0 (hb s us I.kIn hl) r2 h) fun r s' hq=> ?_)
 cases r with
 | error e=>exact hx pins σ H s e s' I hq
 | ok fl=>
  cases fl with
  | ret u=>exact I.after hq
  | next=>exact False.elim hq
  | brk=>exact False.elim hq
  | cont=>exact False.elim hq
end
section
variable {X:Cx} {CX:CXT} {k:Nat} {f C:Addr} {fd:FuncData} {ps ks:List Str} {sp:Sp} {E:XK} {x m:Str} {p pos apos kpos:Pos} {e o:Expr} {es:List Expr} {kws:List Keyword} {te ta:TE} {t tk:TA} {nm:Option Str}
variable {g:List Value->List Value->List Value} {gV:List V->List V->List V}
end
structure FnScope (N P:List Str) (sc:Scope):Prop where
 kind:sc.kind= .function
 co:sc.isCoroutine=false
 gen:sc.isGenerator=false
 nd:N.Nodup
 pre:N.take P.length=P
 par:∀x∈P,sc.names.lookup x=some .local\/sc.names.lookup x=some .cell
 nofree:∀y∈sc.names,y.2≠ .free
theorem bindL_out {kindOf:Str->Option NameKind} {x:Str}:∀ {binds:List (Str×Value)} {m:Str->Option Value},(∀v,(x,v)∉binds)->bindL kindOf binds m x=m x
 | [],_,_=>rfl
 | (n,v)::r,m,h=>by
  unfold bindL
  rw[bindL_out fun w hw=>h w (lJs _ hw)]
  split
  ·have:x≠n:=by rintro rfl;exact h v lJq
   simp[this]
  ·rfl
theorem bindC_out {kindOf:Str->Option NameKind} {x:Str}:∀ {binds:List (Str×Value)} {m:Str->Option Value},(∀v,(x,v)∉binds)->bindC kindOf binds m x=m x
 | [],_,_=>rfl
 | (n,v)::r,m,h=>by
  unfold bindC
  rw[bindC_out fun w hw=>h w (lJs _ hw)]
  split
  ·rfl
  ·have:x≠n:=by rintro rfl;exact h v lJq
   simp[this]
theorem bindL_get {kindOf:Str->Option NameKind} {x:Str} {v:Value}:∀ {P:List Str} {vs:List Value} {i:Nat} {m:Str->Option Value},P.Nodup->P[i]? =some x->vs[i]? =some v->kindOf x=some .local->
  bindL kindOf (P.zip vs) m x=some v
 | [],_,_,_,_,h,_,_=>by simp at h
 | _::_,[],_,_,_,_,h,_=>by simp at h
 | p::P,w::vs,0,m,nd,h1,h2,hk=>by
  simp at h1 h2;subst h1;subst h2
  show bindL kindOf ((p,w)::P.zip vs) m p=_
  unfold bindL
  rw[bindL_out fun v hv=>(lJ8.mp nd).1 (List.of_mem_zip hv).1,if_pos hk]
  simp
 | p::P,w::vs,i+1,m,nd,h1,h2,hk=>by
  show bindL kindOf ((p,w)::P.zip vs) m x=_
  unfold bindL
  exact bindL_get (i:=i) (lJ8.mp nd).2 (by simpa using h1) (by simpa using h2) hk
theorem bindC_get {kindOf:Str->Option NameKind} {x:Str} {v:Value}:∀ {P:List Str} {vs:List Value} {i:Nat} {m:Str->Option Value},P.Nodup->P[i]? =some x->vs[i]? =some v->kindOf x≠some .local->
  bindC kindOf (P.zip vs) m x=some v
 | [],_,_,_,_,h,_,_=>by simp at h
 | _::_,[],_,_,_,_,h,_=>by simp at h
 | p::P,w::vs,0,m,nd,h1,h2,hk=>by
  simp at h1 h2;subst h1;subst h2
  show bindC kindOf ((p,w)::P.zip vs) m p=_
  unfold bindC
  rw[bindC_out fun v hv=>(lJ8.mp nd).1 (List.of_mem_zip hv).1,if_neg hk]
  simp
 | p::P,w::vs,i+1,m,nd,h1,h2,hk=>by
  show bindC kindOf ((p,w)::P.zip vs) m x=_
  unfold bindC
  exact bindC_get (i:=i) (lJ8.mp nd).2 (by simpa using h1) (by simpa using h2) hk
noncomputable def start (N:List Str) (vs:List V):St:=vs.map some++List.replicate (N.length-vs.length) none
noncomputable def cxOf (CX:CXT) (P:Program) (w:World) (K:PySem.W.Frag) (mg:Str->Option Value) (base:Heap) (N:List Str) (qual:Str) (scope:Scope) (f:Addr) (cd:Value) (A:Around) (outer:List Env) (s:Shared) (H:Hp) (E:XK):Cx where
 prog:=P
 w:=w
 K:=K
 mg:=mg
 base:=base
 A:=A.deeper (envOfC qual scope s.heap.objs.size f cd)
 N:=N
 s₀:=s
 H₀:=H
 env:=envOfC qual scope s.heap.objs.size f cd
 outer:=outer
 stack:=envOfC qual scope s.heap.objs.size f cd::outer
 ex:=[]
 calm:=true
 fn:=fun _=>true
 pn:=[]
 xe:=fun e s'=>wpAny (model P w) (A.deeper (envOfC qual scope s.heap.objs.size f cd)) (leaving (envOfC qual scope s.heap.objs.size f cd) e) (fun _ s''=>CX outer H s E e s'') (fun e' s''=>CX outer H s E e' s'') s'
theorem cell_has {sc:Scope} {n:Nat} {x:Str} (h:sc.names.lookup x=some .cell):∃c,(cellsFrom n sc.names []).lookup x=some c:=by
 have q:=PySem.W.cellsFrom_some sc.names n [] (.inl h)
 exact Option.isSome_iff_exists.mp q
theorem inv_start {CX:CXT} {P:Program} {w:World} {K:PySem.W.Frag} {mg:Str->Option Value} {base:Heap} {N ps:List Str} {qual:Str} {scope:Scope} {f:Addr} {cd:Value} {A:Around} {outer:List Env} {s s1:Shared} {H:Hp} {E:XK} {us:List Value} {vs:List V}
  (S:FnScope N ps scope) (hd:A.handled=none/\A.guards=some []) (e0:Env0 P w K mg base A outer s H) (hl:vs.length=ps.length) (r:Vals vs us)
  (x:InCallC s s.heap.objs.size (bindL (envOfC qual scope s.heap.objs.size f cd).kindOf (ps.zip us) fun _=>none) (cellsFrom (s.heap.objs.size+1) scope.names []) (bindC (envOfC qual scope s.heap.objs.size f cd).kindOf (ps.zip us) fun _=>none) s1):
  Inv (cxOf CX P w K mg base N qual scope f cd A outer s H E) [] (start N vs) H s1:=by
 have hpl:ps.length<=N.length:=by have:=congrArg List.length S.pre;rw[lK9] at this;omega
 obtain⟨h1,tk,rfl,hk⟩:=x.done
 have noA:∀b:Addr,b∉(cxOf CX P w K mg base N qual scope f cd A outer s H E).ex:=fun b z=>absurd (show b∈([]:List Addr) from z) (by simp)
 refine⟨⟨e0.mod,S.kind,rfl,rfl,lJd _,fun y z c h1 h2=> ?_,fun y hy=> ?_,fun y c _ h=> ?_,fun _=>hd.1,fun _=>hd.2,Around.frames_deeper e0.frames,.inr ⟨rfl,rfl⟩,fun b z=>absurd z (noA b),e0.bs,e0.bsz,fun b _ _=>noA b,fun b z=>absurd z (noA b),e0.funs,e0.frf⟩,
  rfl,e0.bare,Un.kept hk,⟨_,x.toInCall.ns,fun i y v h1 h2 h3=> ?_⟩,fun y c h=>⟨_,x.cell y c h⟩,e0.hok.fresh (lJd _),fun y c h=> ?_,fun p hp=>absurd (show p∈([]:List (Addr×Obj)) from hp) (by simp),e0.hok.kept hk,?_⟩
 ·exact name_of_addr x.apart (PySem.mem_of_lookup h1) (PySem.mem_of_lookup h2)
 ·have hy:scope.names.lookup y=some .cell\/scope.names.lookup y=some .free:=hy
  rcases hy with hy | hy
  ·exact cell_has hy
  ·exact absurd rfl (S.nofree _ (PySem.mem_of_lookup hy))
 ·exact Nat.le_of_lt (x.above y c (PySem.mem_of_lookup h))
 ·have hi:i<vs.length:=by
   unfold start at h2
   by_cases hi:i<vs.length
   ·exact hi
   ·rw[lQa (by simpa using hi)] at h2
    rw[lQ0] at h2
    split at h2<;>cases h2
  have ha:vs[i]? =some v:=by
   unfold start at h2
   rw[lKh (by simpa using hi),lJe] at h2
   cases e:vs[i]? with
   | none=>rw[e] at h2;cases h2
   | some a=>rw[e] at h2;cases h2;rfl
  obtain⟨u,hu,rv⟩:=r.get ha
  have hp:ps[i]? =some y:=by
   rw[<-S.pre,List.getElem?_take_of_lt (by omega)];exact h1
  have ndP:ps.Nodup:=by rw[<-S.pre];exact S.nd.sublist (List.take_sublist _ _)
  refine⟨u,rv,?_⟩
  rcases S.par y (lJf hp) with k | k
  ·exact .inl ⟨k,bindL_get ndP hp hu k⟩
  ·obtain⟨c,e⟩:=cell_has (n:=s.heap.objs.size+1) k
   refine .inr ⟨.inl k,c,e,?_⟩
   have q:=x.cell y c e
   rw[bindC_get ndP hp hu (by show scope.names.lookup y≠_;rw[k];decide)] at q
   exact q
 ·exact e0.hok.fresh (Nat.le_of_lt (x.above y c (PySem.mem_of_lookup h)))
 ·unfold start
  show _=N.length
  rw[lJ2,lJc,List.length_replicate]
  omega
theorem fn_of {CX:CXT} {P:Program} {w:World} {K:PySem.W.Frag} {mg:Str->Option Value} {base:Heap} {k:Nat} {f:Addr} {name qual:Str} {params:Arguments} {body:List Stmt} {scope:Scope} {dV kV doc pm cdv ct oc:Value} {an od:Option Addr}
  {osl:Array (Option Value)} {N ps:List Str} {sp:Sp} (lk:K.lookup f=some ⟨oc,od,.func (PySem.W.fnOf name qual params body scope dV kV doc pm an cdv ct),osl⟩) (hcd:PySem.W.codeIn K cdv qual=true) (S:FnScope N ps scope)
  (len:∀vs H Q E,sp vs H Q E->vs.length=ps.length)
  (hbody:∀(A:Around) (outer:List Env) (s:Shared) (H:Hp) (vs:List V) (Q:VK) (E:XK),Room k (A.deeper (envOfC qual scope s.heap.objs.size f cdv))->sp vs H Q E->
   ∃t,PSs (cxOf CX P w K mg base N qual scope f cdv A outer s H E) body t/\t {nx:=fun _ H'=>Q .non H',rt:=Q} (start N vs) H):
  FnOk P w K mg base CX (k+1) f (PySem.W.fnOf name qual params body scope dV kV doc pm an cdv ct) ps sp:=by
 refine⟨len,fun A outer s H args us vs Q E hr e0 hb r hsp=> ?_⟩
 have hl:=len _ _ _ _ hsp
 have KX:K.In s.heap:=e0.mod.kin.keeps fun b o e=>(e0.bs b o e).1
 have lim:s.heap.NoLimit:=e0.mod.nolimit.keeps fun b o e=>(e0.bs b o e).1
 have hkind:∀y∈ps.zip us,scope.names.lookup y.1=some .local\/(scope.names.lookup y.1=some .cell/\((cellsFrom (s.heap.objs.size+1) scope.names []).lookup y.1).isSome=true):=fun ⟨n,v⟩ hy=>by
  rcases S.par n (List.of_mem_zip hy).1 with q | q
  ·exact .inl q
  ·exact .inr ⟨q,PySem.W.cellsFrom_some _ _ _ (.inl q)⟩
 refine codeAny_call_function hr.depth (KX _ _ lk) rfl S.co S.gen rfl (PySem.W.codeRec_of KX hcd) (hb _ _ _ _ ?_)
 refine wpAny_newFunctionEnv_cells S.kind hkind fun env he s1 x=> ?_
 subst he
 refine⟨lim.keeps x.toInCall.keep,codeAny_func ?_⟩
 obtain⟨t,ht,hq⟩:=hbody A outer s H vs Q E (hr.deeper _) hsp
 have I:Inv (cxOf CX P w K mg base N qual scope f cdv A outer s H E) [] (start N vs) H s1:=inv_start S ⟨hr.hd,hr.gd⟩ e0 hl r x
 refine wpAny_mono (ht [] s1 (start N vs) H _ I hq) (fun fl s' hs=> ?_) fun e s' hs=>hs
 have fin:∀ {σ':St} {H':Hp} {v:V} {u:Value},Inv (cxOf CX P w K mg base N qual scope f cdv A outer s H E) [] σ' H' s'->RelV v u->Q v H'->CE outer P w H s Q u s':=
  fun {σ' H' v u} J rv q=>⟨v,H',J.os,J.bare,J.base,J.hok,rv,q⟩
 cases fl with
 | ret u=>
  obtain⟨v,σ',H',J,rv,q⟩:=hs
  exact fin J rv q
 | next=>
  obtain⟨σ',H',J,q⟩:=hs
  exact fin (v:=V.non) (u:=Value.none) J rfl q
 | brk=>
  obtain⟨_,_,_,q⟩:=hs
  exact False.elim q
 | cont=>
  obtain⟨_,_,_,q⟩:=hs
  exact False.elim q
end L2
namespace L2
open PySem PySem.Spec PyProof.Rows
section
variable {X:Cx} {x:Str} {p pos:Pos} {e:Expr} {es:List Expr} {t:TA} {id T:String} {r:List V->Hp->VK->Prop}
noncomputable def tCB (r:List V->Hp->VK->Prop) (t:TA):TE:=fun σ H Q=>t σ H fun vs H1=>r vs H1 Q
end
end L2
namespace HT
open PySem PyProof.Rows
noncomputable def lexLt:List Int->List Int->Bool
 | [],[]=>false
 | [],_::_=>true
 | _::_,[]=>false
 | x::xs,y::ys=>if x=y then lexLt xs ys else decide (x<y)
theorem eqAt_int (A:Around) (s:Shared) (a:Int) (t:Tok) (c:Int) (u:Tok):∃e,SeqAt.EqAt A s (.int a t) (.int c u) e/\(e=true↔a=c):=
 ⟨(a == c),SeqAt.EqAt.int_int a t c u,by simp⟩
section
open PySem.SeqAt
open PySem.AutoSeq1 (wpAny_loadPart')
open PySem.MeetsSeq PySem.MeetsSeq2 PySem.MeetsSeq3
end
section
variable {prog:Program} {w:World} {A:Around} {E:Value->Shared->Prop} {s:Shared}
theorem cat_tup {t b:Addr} {vs ws:List Value} {Q:Value->Shared->Prop} (ht:IsTup s.heap t vs.toArray) (hb:IsTup s.heap b ws.toArray) (hv:vs≠[])
  (h1:ws=[]->Q (.ref t) s) (h2:ws≠[]->Q (.ref s.heap.objs.size) {s with heap:=s.heap.push {cls:= .type "tuple",data:= .seq (vs++ws).toArray} })
  (hsz:vs.length+ws.length<=sizeLine):wpAny (model prog w) A (binaryOp .Add (.ref t) (.ref b)) Q E s:=by
 obtain⟨⟨cls,dd,data,sl⟩,ho,hc,n,hd⟩:=id ht
 obtain⟨⟨cls2,dd2,data2,sl2⟩,ho2,hc2,n2,hd2⟩:=id hb
 simp only at hc hd hc2 hd2
 subst hc hd hc2 hd2
 have e:vs.toArray++ws.toArray=(vs++ws).toArray:=by simp
 by_cases hw:ws=[]
 ·exact concat_meets ⟨_,ho,rfl⟩ ⟨_,ho2,rfl⟩ noFill_tuple_add seq_tuple_add PySem.F.slot_tuple_add PySem.F.entry_tuple_add (PySem.F.args_tuple_add_2 _ _)
   (tuple_addW1 t b vs.toArray ws.toArray n n2 dd dd2 sl sl2 (by simpa using hv) (by simp[hw])) ⟨ho,ho2,h1 hw⟩
 ·refine concat_meets ⟨_,ho,rfl⟩ ⟨_,ho2,rfl⟩ noFill_tuple_add seq_tuple_add PySem.F.slot_tuple_add PySem.F.entry_tuple_add (PySem.F.args_tuple_add_2 _ _)
   (tuple_addW2 t b vs.toArray ws.toArray n n2 dd dd2 sl sl2 (by simpa using hv) (by simpa using hw) (by rw[lJp,lJp];exact hsz)) ⟨ho,ho2,?_⟩
  rw[e]
  exact h2 hw
end
end HT
namespace L2
open PySem PySem.Spec PyProof.Rows
noncomputable abbrev TO:=St->Hp->(Option Int->Hp->Prop)->Prop
theorem kQn {ns:List Int}:∀ {us:List Value},Vals (ns.map V.int) us->IntsAre us ns:=by
 induction ns with
 | nil=>intro us r;rw[List.map_nil] at r;cases r;exact .nil
 | cons n ns ih=>
  intro us r
  rw[lJh] at r
  cases r with
  | cons r1 r2=>
   obtain⟨t,e⟩:=r1
   subst e
   exact .cons n t (ih r2)
section
variable {X:Cx} {e:Expr} {te:TE} {lo hi:Option Expr} {tl th:TO} {pos p2:Pos}
noncomputable def rCatT (K:PySem.W.Frag):R2:=fun x y H Q=>∃a b xs ys,x= .ref a/\y= .ref b/\SqT K H a xs/\SqT K H b ys/\xs≠[]/\xs.length+ys.length<=sizeLine/\
 (ys=[]->Q (.ref a) H)/\(ys≠[]->∀p,H p=none->Q (.ref p) (upd H p (.tup (xs++ys))))
theorem Vals.nil_iff {xs:List V} {us:List Value} (r:Vals xs us):us=[]↔xs=[]:=by
 cases r with
 | nil=>simp
 | cons _ _=>simp
theorem op_catT:OpR X (binaryOp .Add) (rCatT X.K):=by
 intro pins s σ H x y v u Q I rx ry h
 obtain⟨a,b,xs,ys,rfl,rfl,ha,hb,hx,hz,q1,q2⟩:=h
 cases rx
 cases ry
 obtain⟨its,r1,p1,_⟩:=I.tuple ha
 obtain⟨its2,r2,p2,_⟩:=I.tuple hb
 refine HT.cat_tup p1 p2 (fun z=>hx (r1.nil_iff.mp z)) (fun z=>⟨.ref a,H,I,rfl,q1 (r2.nil_iff.mp z)⟩) (fun z=> ?_) (by rw[<-r1.length,<-r2.length];exact hz)
 refine⟨.ref s.heap.objs.size,_,I.laid (t':=s.toks) (o:= .tup (xs++ys)) (fun b ob q=>Heap.get?_push_of_some _ q) (lJd _) ?_,rfl,q2 (fun w=>z (r2.nil_iff.mpr w)) _ (I.hok.fresh (lJd _))⟩
 exact⟨by rw[lJ2];exact hz,_,r1.append r2,TupD.new _ _⟩
end
end L2
namespace L2
open PySem PySem.Spec PyProof.Rows
noncomputable def ixN (n:Nat) (i:Int):Option Nat:=if 0<=i then (if i<n then some i.toNat else none) else if -(n:Int)<=i then some (i+n).toNat else none
noncomputable def atI {α:Type} (xs:List α) (i:Int):Option α:=(ixN xs.length i).bind fun j=>xs[j]?
theorem ixN_seq {n:Nat} {i:Int} {j:Nat} (h:ixN n i=some j):seqIndex? i n=some j/\j<n/\ -(n:Int)<=i/\i<n:=by
 unfold ixN at h
 by_cases h0:0<=i
 ·rw[if_pos h0] at h
  by_cases h1:i<n
  ·rw[if_pos h1] at h
   have e:i.toNat=j:=lJr h
   exact⟨by rw[seqIndex_of h0 h1,e],by omega,by omega,h1⟩
  ·rw[if_neg h1] at h;cases h
 ·rw[if_neg h0] at h
  by_cases h1: -(n:Int)<=i
  ·rw[if_pos h1] at h
   have e:(i+n).toNat=j:=lJr h
   exact⟨by rw[seqIndex_neg (by omega) h1,e],by omega,h1,by omega⟩
  ·rw[if_neg h1] at h;cases h
theorem atI_get {α:Type} {xs:List α} {i:Int} {v:α} (h:atI xs i=some v):∃j,seqIndex? i xs.length=some j/\xs[j]? =some v/\j<xs.length/\ -(xs.length:Int)<=i/\i<xs.length:=by
 unfold atI at h
 cases e:ixN xs.length i with
 | none=>rw[e] at h;cases h
 | some j=>
  rw[e] at h
  obtain⟨h1,h2,h3,h4⟩:=ixN_seq e
  exact⟨j,h1,h,h2,h3,h4⟩
def PlainIx (b:Expr):Prop:=∀o i,subscripted b false o i=operate [o,i] (getItem o i)
def IxR (X:Cx) (r:R2):Prop:=
 ∀(value slice:Expr) (pins:List (Addr×Obj)) (s:Shared) (σ:St) (H:Hp) (x y:V) (v u:Value) (Q:VK),Inv X pins σ H s->RelV x v->RelV y u->r x y H Q->
  subscripted slice false v u=operate [v,u] (getItem v u)->wpAny (model X.prog X.w) X.A (subscriptTail value slice v u) (EP X pins σ Q) X.xe s
def MtR (X:Cx) (id:String) (r:V->List V->Hp->VK->Prop):Prop:=
 ∀(pins:List (Addr×Obj)) (s:Shared) (σ:St) (H:Hp) (x:V) (xs:List V) (v:Value) (us:List Value) (Q:VK),Inv X pins σ H s->RelV x v->Vals xs us->r x xs H Q->
  wpAny (model X.prog X.w) X.A (call (.builtin id) (v::us)) (EP X pins σ Q) X.xe s
section
variable {X:Cx} {a b:Expr} {ta tb:TE} {pos:Pos}
theorem IxR.or {r r':R2} (h:IxR X r) (h':IxR X r'):IxR X (fun x y H Q=>r x y H Q\/r' x y H Q):=by
 intro value slice pins s σ H x y v u Q I rx ry q hs
 rcases q with q | q
 ·exact h value slice pins s σ H x y v u Q I rx ry q hs
 ·exact h' value slice pins s σ H x y v u Q I rx ry q hs
noncomputable def rIxL (K:PySem.W.Frag):R2:=fun x y H Q=>∃p xs i v,x= .ref p/\y= .int i/\SqL K H p xs/\atI xs i=some v/\Q v H
noncomputable def rIxT (K:PySem.W.Frag):R2:=fun x y H Q=>∃p xs i v,x= .ref p/\y= .int i/\SqT K H p xs/\atI xs i=some v/\Q v H
noncomputable def rIxS:R2:=fun x y H Q=>∃z i c,x= .str z/\y= .int i/\z.length<=sizeLine/\atI z.cps.toList i=some c/\Q (.str ⟨#[c]⟩) H
theorem ix_list:IxR X (rIxL X.K):=by
 intro value slice pins s σ H x y v u Q I rx ry h hs
 obtain⟨p,xs,i,z,rfl,rfl,hq,he,q⟩:=h
 cases rx
 obtain⟨t,rfl⟩:=ry
 obtain⟨its,r,pl,hz⟩:=I.list hq
 obtain⟨j,h1,h2,h3,h4,h5⟩:=atI_get he
 obtain⟨w,ew,rw'⟩:=r.get h2
 have hl:=r.length
 have hn:=jZ1
 have fin:EP X pins σ Q w s:=⟨z,H,I,rw',q⟩
 by_cases h0:0<=i
 ·have hj:i.toNat=j:=by
   rw[seqIndex_of h0 h5] at h1
   exact lJr h1
  exact item_listR pl.isList h0 (by omega) (by rw[hj];simpa using ew) fin hs
 ·have hj:(i+(its.toArray.size:Int)).toNat=j:=by
   rw[seqIndex_neg (by omega) h4] at h1
   rw[lJp,<-hl]
   exact lJr h1
  exact subscriptTail_builtinR (x:=w) pl.isList.typeIs slot_list_getitem.lookup
   (wpAny_getItem_list_neg (Q:=fun r s'=>r=w/\EP X pins σ Q r s') pl.isList (by omega) (by rw[lJp]<;>omega) (by omega) (by rw[hj];simpa using ew) ⟨rfl,fin⟩) hs
theorem ix_tup:IxR X (rIxT X.K):=by
 intro value slice pins s σ H x y v u Q I rx ry h hs
 obtain⟨p,xs,i,z,rfl,rfl,hq,he,q⟩:=h
 cases rx
 obtain⟨t,rfl⟩:=ry
 obtain⟨its,r,pl,hz⟩:=I.tuple hq
 obtain⟨j,h1,h2,h3,h4,h5⟩:=atI_get he
 obtain⟨w,ew,rw'⟩:=r.get h2
 have hl:=r.length
 have hn:=jZ1
 have fin:EP X pins σ Q w s:=⟨z,H,I,rw',q⟩
 exact subscriptTail_builtinR (x:=w) pl.typeIs slot_tuple_getitem.lookup
  (getItem_tuple (j:=j) (Q:=fun r s'=>r=w/\EP X pins σ Q r s') pl (by omega) (by omega) (by rw[lJp,<-hl];exact h1) (by simpa using ew) ⟨rfl,fin⟩) hs
noncomputable def rIx (K:PySem.W.Frag):R2:=fun x y H Q=>rIxL K x y H Q\/rIxT K x y H Q\/rIxS x y H Q
theorem mapSeq_set (its:List Value) (n j:Nat) (u:Value):Obj.mapSeq (·.setIfInBounds j u) {cls:= .type "list",data:= .seq its.toArray n}={cls:= .type "list",data:= .seq (its.set j u).toArray n}:=by
 simp[Obj.mapSeq]
theorem Inv.lst {pins:List (Addr×Obj)} {σ:St} {H:Hp} {s:Shared} {p:Addr} {xs:List V} (I:Inv X pins σ H s) (h:H p=some (.lst xs)):
  ∃(its:List Value) (n:Nat),Vals xs its/\s.heap.get? p=some {cls:= .type "list",data:= .seq its.toArray n}/\xs.length<=sizeLine:=by
 obtain⟨z,its,n,r,e⟩:=I.hok p _ h
 exact⟨its,n,r,e,z⟩
theorem Inv.lstUpd {pins:List (Addr×Obj)} {σ:St} {H:Hp} {s:Shared} {p:Addr} {xs ys:List V} {its its':List Value} {n n':Nat} {f:Obj->Obj} (I:Inv X pins σ H s) (h:H p=some (.lst xs))
  (ho:s.heap.get? p=some {cls:= .type "list",data:= .seq its.toArray n}) (hf:f {cls:= .type "list",data:= .seq its.toArray n}={cls:= .type "list",data:= .seq its'.toArray n'}) (r:Vals ys its') (hz:ys.length<=sizeLine) (t:Nat):
  Inv X pins σ (upd H p (.lst ys)) {s with heap:=s.heap.update p f,toks:=t}:=by
 have e:(s.heap.update p f).get? p=some {cls:= .type "list",data:= .seq its'.toArray n'}:=by
  rw[Heap.get?_update_self f ho (by rw[hf]<;>rfl),hf]
 refine I.write (x:=p) (e:=p) (by rw[h];trivial) (.inl rfl) (fun b u hb q=>(Heap.get?_update_other _ _ (Ne.symm hb)).trans q) ⟨_,e⟩ ?_
 exact⟨hz,its',n',r,e⟩
noncomputable def rSetL:V->V->V->Hp->(Hp->Prop)->Prop:=fun o i v H Q=>∃p xs k j,o= .ref p/\i= .int k/\H p=some (.lst xs)/\ixN xs.length k=some j/\Q (upd H p (.lst (xs.set j v)))
theorem kQ8:PSet X rSetL:=by
 intro pins s σ H o i v ov iv u Q I ro ri rv h
 obtain⟨p,xs,k,j,rfl,rfl,hp,hj,q⟩:=h
 cases ro
 obtain⟨t,rfl⟩:=ri
 obtain⟨its,n,r,ho,hz⟩:=I.lst hp
 obtain⟨h1,h2,h3,h4⟩:=ixN_seq hj
 have hl:=r.length
 have hn:=jZ1
 have I':Inv X pins σ (upd H p (.lst (xs.set j v))) {s with heap:=s.heap.update p (Obj.mapSeq (·.setIfInBounds j u))}:=
  I.lstUpd hp ho (mapSeq_set its n j u) (r.set rv j) (by rw[lKq];exact hz) s.toks
 by_cases h0:0<=k
 ·have hk:k.toNat=j:=by
   rw[seqIndex_of h0 h4] at h1
   exact lJr h1
  exact PySem.W.ki_setAt ho h0 (by omega) (by rw[lJp,<-hl];exact h4) (by rw[hk];exact⟨_,I',q⟩)
 ·have hk:(k+(its.toArray.size:Int)).toNat=j:=by
   rw[seqIndex_neg (by omega) h3] at h1
   rw[lJp,<-hl]
   exact lJr h1
  exact PySem.W.ki_setBack ho (by omega) (by rw[lJp,<-hl];exact h3) (by omega) (by rw[hk];exact⟨_,I',q⟩)
noncomputable def kQd:V->Bool
 | .non=>true
 | .bl _=>true
 | .int _=>true
 | .str _=>true
 | _=>false
noncomputable def eqV:V->V->Bool
 | .non,.non=>true
 | .bl a,.bl b=>a == b
 | .bl a,.int b=>(if a then 1 else 0) == b
 | .int a,.bl b=>a == (if b then 1 else 0)
 | .int a,.int b=>a == b
 | .str a,.str b=>a == b
 | _,_=>false
theorem eqAt_V {A:Around} {s:Shared} {y x:V} {u v:Value} (ry:RelV y u) (rx:RelV x v) (fy:kQd y=true) (fx:kQd x=true):SeqAt.EqAt A s u v (eqV y x):=by
 cases y with
 | non=>
  cases ry
  cases x with
  | non=>cases rx;exact SeqAt.EqAt.same _
  | bl b=>cases rx;exact SeqAt.EqAt.none_bool b
  | int b=>obtain⟨t,rfl⟩:=rx;exact SeqAt.EqAt.none_int b t
  | str b=>obtain⟨t,rfl⟩:=rx;exact SeqAt.EqAt.none_str b t
  | _=>exact absurd (show false=true from fx) lJl
 | bl a=>
  cases ry
  cases x with
  | non=>cases rx;exact SeqAt.EqAt.bool_none a
  | bl b=>cases rx;exact SeqAt.EqAt.bool_bool a b
  | int b=>obtain⟨t,rfl⟩:=rx;exact SeqAt.EqAt.bool_int a b t
  | str b=>obtain⟨t,rfl⟩:=rx;exact SeqAt.EqAt.bool_str a b t
  | _=>exact absurd (show false=true from fx) lJl
 | int a=>
  obtain⟨t',rfl⟩:=ry
  cases x with
  | non=>cases rx;exact SeqAt.EqAt.int_none a t'
  | bl b=>cases rx;exact SeqAt.EqAt.int_bool a t' b
  | int b=>obtain⟨t,rfl⟩:=rx;exact SeqAt.EqAt.int_int a t' b t
  | str b=>obtain⟨t,rfl⟩:=rx;exact SeqAt.EqAt.int_str a t' b t
  | _=>exact absurd (show false=true from fx) lJl
 | str a=>
  obtain⟨t',rfl⟩:=ry
  cases x with
  | non=>cases rx;exact SeqAt.EqAt.str_none a t'
  | bl b=>cases rx;exact SeqAt.EqAt.str_bool a t' b
  | int b=>obtain⟨t,rfl⟩:=rx;exact SeqAt.EqAt.str_int a t' b t
  | str b=>obtain⟨t,rfl⟩:=rx;exact SeqAt.EqAt.str_str a t' b t
  | _=>exact absurd (show false=true from fx) lJl
 | _=>exact absurd (show false=true from fy) lJl
noncomputable def eqU (x:V) (u:Value):Bool:=match u with
 | .none=>eqV .non x
 | .bool b=>eqV (.bl b) x
 | .int i _=>eqV (.int i) x
 | .str z _=>eqV (.str z) x
 | _=>false
theorem eqU_of {x y:V} {u:Value} (r:RelV y u) (f:kQd y=true):eqU x u=eqV y x:=by
 cases y with
 | non=>cases r;rfl
 | bl b=>cases r;rfl
 | int i=>obtain⟨t,rfl⟩:=r;rfl
 | str z=>obtain⟨t,rfl⟩:=r;rfl
 | _=>exact absurd (show false=true from f) lJl
theorem any_eqU {x:V}:∀ {xs:List V} {us:List Value},Vals xs us->xs.all kQd=true->us.any (eqU x)=xs.any fun y=>eqV y x
 | _,_,.nil,_=>rfl
 | y::xs,u::us,.cons r t,f=>by
  rw[lKw,lKe] at f
  rw[lKx,lKx,eqU_of r f.1,any_eqU t f.2]
theorem jZa {A:Around} {s:Shared} {x:V} {v:Value} (rx:RelV x v) (fx:kQd x=true):∀ {xs:List V} {us:List Value},Vals xs us->xs.all kQd=true->∀u∈us,SeqAt.EqAt A s u v (eqU x u)
 | _,_,.nil,_=>fun u hu=>by cases hu
 | y::xs,u::us,.cons r t,f=>fun u' hu=>by
  rw[lKw,lKe] at f
  rcases (lJi.mp hu) with rfl | hu
  ·rw[eqU_of r f.1];exact eqAt_V r rx f.1 fx
  ·exact jZa rx fx t f.2 u' hu
noncomputable def inV (x:V) (xs:List V):Bool:=xs.any fun y=>eqV y x
noncomputable def rIn (K:PySem.W.Frag) (neg:Bool):R2:=fun x y H Q=>∃p xs,y= .ref p/\(SqL K H p xs\/SqT K H p xs)/\kQd x=true/\xs.all kQd=true/\Q (.bl (if neg then !inV x xs else inV x xs)) H
theorem op_notIn_seq:OpR X (compareOp .NotIn) (rIn X.K true):=by
 intro pins s σ H x y v u Q I rx ry h
 obtain⟨p,xs,rfl,hq,fx,fs,q⟩:=h
 cases ry
 rcases hq with hq | hq
 ·obtain⟨its,r,pl,hz⟩:=I.list hq
  refine SeqAt.notIn_listAt (eqU x) pl.isList (fun w hw=>jZa rx fx r fs w (by simpa using hw)) ⟨.bl _,H,I,rfl,?_⟩
  rw[show its.toArray.any (eqU x)=its.any (eqU x) by simp,any_eqU r fs]
  exact q
 ·obtain⟨its,r,pl,hz⟩:=I.tuple hq
  refine SeqAt.notIn_tupleAt (eqU x) pl (fun w hw=>jZa rx fx r fs w (by simpa using hw)) ⟨.bl _,H,I,rfl,?_⟩
  rw[show its.toArray.any (eqU x)=its.any (eqU x) by simp,any_eqU r fs]
  exact q
theorem call_len_seq:kU8 X (.builtin "len") (fun xs H Q=>∃p ys,xs=[.ref p]/\(SqL X.K H p ys\/SqT X.K H p ys)/\Q (.int ys.length) H):=by
 intro pins s σ H xs us Q I r h
 obtain⟨p,ys,rfl,hq,q⟩:=h
 obtain⟨u,rfl,rx⟩:=vals1 r
 cases rx
 have hn:=jZ1
 rcases hq with hq | hq
 ·obtain⟨its,r',pl,hz⟩:=I.list hq
  have hlen:=r'.length
  exact Calls.call_len_list pl.isList (by simp only[lJp]<;>omega) ⟨.int ys.length,H,I.tok _,⟨s.toks+1,by rw[lJp,hlen]⟩,q⟩
 ·obtain⟨its,r',pl,hz⟩:=I.tuple hq
  have hlen:=r'.length
  exact len_tuple pl (by simp only[lJp]<;>omega) ⟨.int ys.length,H,I.tok _,⟨s.toks+1,by rw[lJp,hlen]⟩,q⟩
theorem call_list_of:kU8 X (.type "list") (fun xs H Q=>∃p ys,xs=[.ref p]/\(SqL X.K H p ys\/SqT X.K H p ys)/\∀l,H l=none->Q (.ref l) (upd H l (.lst ys))):=by
 intro pins s σ H xs us Q I r h
 obtain⟨p,ys,rfl,hq,q⟩:=h
 obtain⟨u,rfl,rx⟩:=vals1 r
 cases rx
 have fin:∀(its:List Value),Vals ys its->ys.length<=sizeLine->∀(h':Heap) (c':Nat),(∀b o',s.heap.get? b=some o'->h'.get? b=some o')->
   h'.get? s.heap.objs.size=some {cls:= .type "list",dict:=none,data:= .seq its.toArray c',slots:= #[]}->EP X pins σ Q (.ref s.heap.objs.size) {s with heap:=h'}:=fun its r' hz h' c' kp e=>
  ⟨.ref s.heap.objs.size,_,I.laid (t':=s.toks) kp (lJd _) (show ObjOk X.prog X.w _ h' _ (.lst ys) from⟨hz,its,c',r',e⟩),rfl,q _ (I.hok.fresh (lJd _))⟩
 rcases hq with hq | hq
 ·obtain⟨its,r',pl,hz⟩:=I.list hq
  have hlen:=r'.length
  obtain⟨o,ho,hc,n,hd⟩:=pl.isList
  exact call_list_seq p (.inl rfl) ho hc hd (fun h' c' kp e=>fin its r' hz h' c' kp e) (by simp only[lJp]<;>omega)
 ·obtain⟨its,r',pl,hz⟩:=I.tuple hq
  have hlen:=r'.length
  obtain⟨o,ho,hc,n,hd⟩:=pl
  exact call_list_seq p (.inr rfl) ho hc hd (fun h' c' kp e=>fin its r' hz h' c' kp e) (by simp only[lJp]<;>omega)
theorem kU5:kU8 X (.type "tuple") (fun xs H Q=>∃p ys,xs=[.ref p]/\((SqL X.K H p ys/\∀l,H l=none->Q (.ref l) (upd H l (.tup ys)))\/(SqT X.K H p ys/\Q (.ref p) H))):=by
 intro pins s σ H xs us Q I r h
 obtain⟨p,ys,rfl,h⟩:=h
 obtain⟨u,rfl,rx⟩:=vals1 r
 cases rx
 rcases h with ⟨hq,q⟩ | ⟨hq,q⟩
 ·obtain⟨its,r',pl,hz⟩:=I.list hq
  have hlen:=r'.length
  refine call_tuple_list pl.isList (fun h' kp=> ?_) (by simp only[lJp]<;>omega)
  have I1:Inv X pins σ H {s with heap:=h'}:=I.kept (t':=s.toks) kp
  have I2:Inv X pins σ (upd H h'.objs.size (.tup ys)) {s with heap:=h'.push {cls:= .type "tuple",data:= .seq its.toArray} }:=
   I1.laid (t':=s.toks) (fun b o e=>Heap.get?_push_of_some _ e) (lJd _) (show ObjOk X.prog X.w _ _ _ (.tup ys) from⟨hz,its,r',TupD.new _ _⟩)
  exact⟨.ref h'.objs.size,_,I2,rfl,q _ (I1.hok.fresh (lJd _))⟩
 ·obtain⟨its,r',pl,hz⟩:=I.tuple hq
  exact call_tuple_same pl ⟨.ref p,H,I,rfl,q⟩
def tyV (K:PySem.W.Frag) (T:String) (x:V) (H:Hp):Prop:=match x with
 | .str _=>T="str"
 | .int _=>T="int"
 | .ref p=>(T="list"/\∃xs,SqL K H p xs)\/(T="tuple"/\∃o,K.lookup p=some o/\o.cls= .type "tuple"/\o.dict=none)\/
   (T="dict"/\((∃kvs,H p=some (.dK kvs))\/∃kvs,H p=some (.dT kvs)))\/(T="set"/\∃S n,H p=some (.set S n))
 | _=>False
theorem tyV_is {pins:List (Addr×Obj)} {σ:St} {H:Hp} {s:Shared} {T:String} {x:V} {v:Value} (I:Inv X pins σ H s) (r:RelV x v) (ty:tyV X.K T x H):
  s.TypeIs v T/\∀a,v= .ref a->∃ob,s.heap.get? a=some ob/\ob.dict=none:=by
 cases x with
 | str z=>
  obtain⟨t,rfl⟩:=r
  cases (show T="str" from ty)
  exact⟨typeIs_str s z t,fun _ e=>nomatch e⟩
 | int i=>
  obtain⟨t,rfl⟩:=r
  cases (show T="int" from ty)
  exact⟨typeIs_int s i t,fun _ e=>nomatch e⟩
 | ref p=>
  cases r
  rcases ty with ⟨rfl,xs,hq⟩ | ⟨rfl,o,hk,hc,hd⟩ | ⟨rfl,hk⟩ | ⟨rfl,S,n,hk⟩
  ·obtain⟨its,_,pl,_⟩:=I.list hq
   refine⟨pl.isList.typeIs,fun a e=> ?_⟩
   cases e
   obtain⟨o,n,e,c,hd,_⟩:=pl
   exact⟨o,e,hd⟩
  ·refine⟨⟨o,I.kIn p o hk,hc⟩,fun a e=> ?_⟩
   cases e
   exact⟨o,I.kIn _ o hk,hd⟩
  ·have z:∃o,s.heap.get? p=some o/\o.ExactDict:=by
    rcases hk with ⟨kvs,hk⟩ | ⟨kvs,hk⟩
    ·obtain⟨_,_,_,_,o,_,_,e,ex,_⟩:=I.hok p _ hk
     exact⟨o,e,ex⟩
    ·obtain⟨_,_,_,_,o,_,_,e,ex,_⟩:=I.hok p _ hk
     exact⟨o,e,ex⟩
   obtain⟨o,e,ex⟩:=z
   refine⟨⟨o,e,ex.1⟩,fun a e2=> ?_⟩
   cases e2
   exact⟨o,e,ex.2.1⟩
  ·obtain⟨o,_,_,_,e,ex,_⟩:=I.hok p _ hk
   refine⟨⟨o,e,ex.1⟩,fun a e2=> ?_⟩
   cases e2
   exact⟨o,e,ex.2.1⟩
 | _=>exact False.elim ty
noncomputable def tBM (K:PySem.W.Frag) (T:String) (r:V->List V->Hp->VK->Prop) (to:TE) (t:TA):TE:=fun σ H Q=>to σ H fun x H1=>tyV K T x H1/\t σ H1 fun xs H2=>r x xs H2 Q
variable {o e:Expr} {es:List Expr} {to:TE} {t:TA} {name:Str} {apos cpos:Pos} {T id:String} {r:V->List V->Hp->VK->Prop}
end
end L2
namespace L2
open PySem PySem.Spec PyProof.Rows
def MtM (X:Cx) (id:String) (r:V->List V->Hp->VK->Prop):Prop:=
 ∀(pins:List (Addr×Obj)) (s:Shared) (σ:St) (H:Hp) (x:V) (xs:List V) (v:Value) (us:List Value) (Q:VK),Inv X pins σ H s->RelV x v->Vals xs us->r x xs H Q->
  wpAny (model X.prog X.w) X.A (call (.builtin id) (v::us)) (EP X pins σ Q) X.xe s
theorem Vals.one {x:V} {us:List Value} (h:Vals [x] us):∃u,us=[u]/\RelV x u:=by
 cases h with | cons r t=>(cases t;exact⟨_,rfl,r⟩)
theorem Vals.two {x y:V} {us:List Value} (h:Vals [x,y] us):∃u v,us=[u,v]/\RelV x u/\RelV y v:=by
 cases h with | cons r t=>(cases t with | cons q t=>(cases t;exact⟨_,_,rfl,r,q⟩))
theorem Vals.rep {xs:List V} {us:List Value} (h:Vals xs us):∀k:Nat,Vals (List.replicate k xs).flatten (List.replicate k us).flatten
 | 0=> .nil
 | k+1=>by
  rw[lKr,lKr,lQb,lQb]
  exact Vals.append h (Vals.rep h k)
theorem foldl_rep (its:List Value):∀(k:Nat) (acc:List Value),
  List.foldl (fun x1 x2=>x1++x2) acc.toArray (List.replicate k its.toArray)=(acc++(List.replicate k its).flatten).toArray
 | 0,acc=>by simp
 | k+1,acc=>by
  have e:acc.toArray++its.toArray=(acc++its).toArray:=by simp
  have e2:(acc++its)++(List.replicate k its).flatten=acc++(List.replicate (k+1) its).flatten:=by
   rw[lKr,lQb,lQp]
  rw[<-e2,<-foldl_rep its k (acc++its),<-e,lKr,lQi]
section
variable {X:Cx} {pins:List (Addr×Obj)} {σ:St} {H:Hp} {s:Shared} {l b:Addr} {xs ys zs:List V}
theorem Inv.lset {its its':List Value} {n:Nat} {f:Array Value->Array Value} {t':Nat} (I:Inv X pins σ H s) (hH:H l=some (.lst xs))
  (e:s.heap.get? l=some {cls:= .type "list",data:= .seq its.toArray n}) (hf:f its.toArray=its'.toArray) (hv:Vals ys its') (hz:ys.length<=sizeLine):
  Inv X pins σ (upd H l (.lst ys)) {s with heap:=s.heap.update l (Obj.mapSeq f),toks:=t'}:=by
 have q:=PySem.IsL.update e f
 rw[hf] at q
 refine I.write (x:=l) (e:=l) (by rw[hH];exact trivial) (.inl rfl) (fun b' u hb hu=>(Heap.get?_update_other s.heap (Obj.mapSeq f) (Ne.symm hb)).trans hu) ⟨_,q⟩ ?_
 exact⟨hz,its',_,hv,q⟩
theorem Inv.lnew {its:List Value} {t':Nat} (I:Inv X pins σ H s) (hv:Vals ys its) (hz:ys.length<=sizeLine):
  Inv X pins σ (upd H s.heap.objs.size (.lst ys)) {s with heap:=s.heap.push {cls:= .type "list",data:= .seq its.toArray},toks:=t'}:=
 I.laid (fun _ _ q=>Heap.get?_push_of_some _ q) (lJd _) ⟨hz,its,0,hv,Heap.get?_push_size _ rfl⟩
theorem Inv.fresh (I:Inv X pins σ H s):H s.heap.objs.size=none:=I.hok.fresh (lJd _)
theorem Inv.lstM (I:Inv X pins σ H s) (hH:H l=some (.lst xs)):xs.length<=sizeLine/\∃(its:List Value) (n:Nat),Vals xs its/\xs.length=its.length/\s.heap.get? l=some {cls:= .type "list",data:= .seq its.toArray n}:=by
 obtain⟨z,its,n,r,e⟩:=I.hok l _ hH
 exact⟨z,its,n,r,r.length,e⟩
theorem notLongL {n:Nat} (h:n<=sizeLine):Builtin.List.listTooLong n=false:=by
 unfold Builtin.List.listTooLong
 exact decide_eq_false (by omega)
end
section
variable {X:Cx}
noncomputable def jQm:V->List V->Hp->VK->Prop:=fun x vs H Q=>∃l xs y,x= .ref l/\vs=[y]/\H l=some (.lst xs)/\xs.length<sizeLine/\Q .non (upd H l (.lst (xs++[y])))
theorem mt_append:MtM X "list.append" jQm:=by
 intro pins s σ H x vs v us Q I rx rv h
 obtain⟨l,xs,y,rfl,rfl,hH,hz,q⟩:=h
 cases rx
 obtain⟨u,rfl,ru⟩:=rv.one
 obtain⟨z,its,n,r,hl,e⟩:=I.lstM hH
 refine call_meets F.slot_list_append ⟨_,e,rfl⟩ F.entry_list_append (F.args_list_append_2 _ _) (PySem.list_append l its.toArray n u (by rw[lJp];omega)) ⟨e,?_⟩
 refine⟨.non,_,I.lset (its':=its++[u]) hH e (by simp) (r.append (.cons ru .nil)) ?_,rfl,q⟩
 rw[lJ2,List.length_singleton]
 omega
noncomputable def rCat:R2:=fun x y H Q=>∃l b xs zs,x= .ref l/\y= .ref b/\H l=some (.lst xs)/\H b=some (.lst zs)/\xs.length+zs.length<=sizeLine/\∀p,H p=none->Q (.ref p) (upd H p (.lst (xs++zs)))
theorem op_cat:OpR X (binaryOp .Add) rCat:=by
 intro pins s σ H x y v u Q I rx ry h
 obtain⟨l,b,xs,zs,rfl,rfl,hH,hB,hz,q⟩:=h
 cases rx
 cases ry
 obtain⟨z,its,n,r,hl,e⟩:=I.lstM hH
 obtain⟨z2,its2,n2,r2,hl2,e2⟩:=I.lstM hB
 refine PySem.P.add_list e e2 ?_ (by rw[lJp,lJp];omega)
 have ea:its.toArray++its2.toArray=(its++its2).toArray:=by simp
 rw[ea]
 exact⟨.ref _,_,I.lnew (t':=s.toks) (r.append r2) (by rw[lJ2];omega),rfl,q _ I.fresh⟩
noncomputable def rRep:R2:=fun x y H Q=>∃l k xs,x= .ref l/\y= .int k/\H l=some (.lst xs)/\ -(2^63)<=k/\k<2^63/\xs.length*k.toNat<=sizeLine/\
 ∀p,H p=none->Q (.ref p) (upd H p (.lst (List.replicate k.toNat xs).flatten))
theorem len_rep {α:Type} (xs:List α) (k:Nat):(List.replicate k xs).flatten.length=k*xs.length:=by
 induction k with
 | zero=>simp
 | succ k ih=>rw[lKr,lQb,lJ2,ih,lQc,Nat.add_comm]
theorem op_rep:OpR X (binaryOp .Mult) rRep:=by
 intro pins s σ H x y v u Q I rx ry h
 obtain⟨l,k,xs,rfl,rfl,hH,h1,h2,hz,q⟩:=h
 cases rx
 obtain⟨t,rfl⟩:=ry
 obtain⟨z,its,n,r,hl,e⟩:=I.lstM hH
 have hlen:its.toArray.size*k.toNat<=sizeLine:=by rw[lJp,<-hl];exact hz
 have hcap:¬ its.toArray.size*k.toNat>(2^63-1) / 8:=by
  have:(sizeLine:Nat)<=(2^63-1) / 8:=by decide
  omega
 have hfit:¬ (!Builtin.List.listFitsIndex k)=true:=by
  rw[fitsIndex_both h1 h2]
  exact lJl
 have hlong:¬ Builtin.List.listTooLong (its.toArray.size*k.toNat)=true:=by
  rw[notLongL hlen]
  exact lJl
 have hnew:List.foldl (fun x1 x2=>x1++x2) #[] (List.replicate (if its.toArray.isEmpty=true then 0 else k.toNat) its.toArray)=(List.replicate k.toNat its).flatten.toArray:=by
  have f0:∀m:Nat,List.foldl (fun x1 x2=>x1++x2) #[] (List.replicate m its.toArray)=(List.replicate m its).flatten.toArray:=fun m=>by
   have:=foldl_rep its m []
   rw[List.nil_append] at this
   exact this
  rw[f0]
  cases its with
  | nil=>simp
  | cons a r'=>rw[if_neg (by simp)]
 refine wpAny_binaryOp_repeat_ref (T:="list") (U:="int") (by decide) ⟨_,e,rfl⟩ (fun s'=>typeIs_int s' k t) noFill_list_mul F.fills_int_mul F.slot_int_rmul repeat_list F.slot_int_index.lookup
  (call_meets F.slot_int_rmul (typeIs_int s k t) F.entry_int_rmul (F.args_int_rmul_2 _ _) (int___rmul___int_list k t l its.toArray n)
   ⟨e,rfl,⟨_,e,rfl⟩,call_meets F.slot_list_mul ⟨_,e,rfl⟩ F.entry_list_mul (F.args_list_mul_2 _ _) (AutoListH.list___mul___list_int_3 l its.toArray n k t hfit hcap hlong) ⟨e,?_⟩⟩)
 rw[hnew]
 exact⟨.ref _,_,I.lnew (t':=s.toks) (r.rep k.toNat) (by rw[len_rep,Nat.mul_comm];exact hz),rfl,q _ I.fresh⟩
end
section
variable {prog:Program} {w:World} {A:Around} {E:Value->Shared->Prop} {s:Shared}
end
section
variable {X:Cx}
end
end L2
namespace L2
open PySem PySem.Spec PyProof.Rows
section
variable {κ:Type} [DecidableEq κ]
noncomputable def valV (kvs:List (κ×V)) (k:κ):Option V:=(kvs.find? fun kv=>decide (kv.1=k)).map (·.2)
noncomputable def putK (kvs:List (κ×V)) (k:κ) (v:V):List (κ×V):=
 if (kvs.any fun kv=>decide (kv.1=k))=true then kvs.map (fun kv=>if kv.1=k then (kv.1,v) else kv) else kvs++[(k,v)]
theorem kJh {p:κ×V} {r:List (κ×V)} {k:κ} (e:p.1=k):valV (p::r) k=some p.2:=by simp[valV,lKs,e]
theorem kJi {p:κ×V} {r:List (κ×V)} {k:κ} (e:¬ p.1=k):valV (p::r) k=valV r k:=by simp[valV,lKs,e]
theorem valV_any (k:κ):∀kvs:List (κ×V),(kvs.any fun kv=>decide (kv.1=k))=(valV kvs k).isSome
 | []=>rfl
 | p::r=>by
  rw[lKx]
  by_cases e:p.1=k
  ·simp only[kJh e,decide_eq_true e,Bool.true_or,Option.isSome_some]
  ·rw[kJi e,decide_eq_false e,Bool.false_or];exact valV_any k r
theorem kKa (kvs:List (κ×V)) (k:κ) (v:V):(putK kvs k v).length<=kvs.length+1:=by
 unfold putK
 split
 ·rw[lJc];omega
 ·rw[lJ2,lJy,lKn];omega
theorem RelO.isSome_eq {o:Option V} {u:Option Value} (r:RelO o u):o.isSome=u.isSome:=by
 cases o with
 | none=>cases u with
  | none=>rfl
  | some _=>exact (show False from r).elim
 | some _=>cases u with
  | none=>exact (show False from r).elim
  | some _=>rfl
theorem KV.val {kvs:List (κ×V)} {vs:List (κ×Value)} (r:KV kvs vs) (k:κ):RelO (valV kvs k) (valueAt vs k):=by
 unfold KV at r
 induction r with
 | nil=>exact True.intro
 | @cons p q ps qs h t ih=>
  obtain⟨h1,h2⟩:=h
  by_cases e:p.1=k
  ·have e':q.1=k:=h1.symm.trans e
   have b:valueAt (q::qs) k=some q.2:=by simp[valueAt,lKs,e']
   rw[kJh e,b];exact h2
  ·have e':¬ q.1=k:=fun z=>e (h1.trans z)
   have b:valueAt (q::qs) k=valueAt qs k:=by simp[valueAt,lKs,e']
   rw[kJi e,b];exact ih
theorem KV.any {kvs:List (κ×V)} {vs:List (κ×Value)} (r:KV kvs vs) (k:κ):(kvs.any fun kv=>decide (kv.1=k))=vs.any fun kv=>decide (kv.1=k):=by
 unfold KV at r
 induction r with
 | nil=>rfl
 | cons h t ih=>rw[lKx,lKx,ih,h.1]
theorem KV.repl {kvs:List (κ×V)} {vs:List (κ×Value)} (r:KV kvs vs) (k:κ) {y:V} {u:Value} (ry:RelV y u):
  KV (kvs.map fun kv=>if kv.1=k then (kv.1,y) else kv) (vs.map fun kv=>if kv.1=k then (kv.1,u) else kv):=by
 unfold KV at r ⊢
 induction r with
 | nil=>exact .nil
 | @cons p q ps qs h t ih=>
  rw[lJh,lJh]
  refine .cons ?_ ih
  obtain⟨h1,h2⟩:=h
  by_cases e:p.1=k
  ·rw[if_pos e,if_pos (h1.symm.trans e)];exact⟨h1,ry⟩
  ·rw[if_neg e,if_neg (fun z=>e (h1.trans z))];exact⟨h1,h2⟩
theorem KV.put {kvs:List (κ×V)} {vs:List (κ×Value)} (r:KV kvs vs) (k:κ) {y:V} {u:Value} (ry:RelV y u):KV (putK kvs k y) (stored vs k u):=by
 unfold putK stored
 rw[r.any k]
 by_cases e:(vs.any fun kv=>decide (kv.1=k))=true
 ·rw[if_pos e,if_pos e];exact r.repl k ry
 ·rw[if_neg e,if_neg e];exact Paired.snoc r ⟨rfl,ry⟩
theorem KV.keys {kvs:List (κ×V)} {vs:List (κ×Value)} (r:KV kvs vs):kvs.map (·.1)=vs.map (·.1):=by
 unfold KV at r
 induction r with
 | nil=>rfl
 | cons h t ih=>rw[lJh,lJh,ih,h.1]
theorem KV.length {kvs:List (κ×V)} {vs:List (κ×Value)} (r:KV kvs vs):kvs.length=vs.length:=Paired.length r
end
theorem kV_is {P:Program} {w:World} {k:Key} {u:Value} (r:RelV (kV k) u):(jQg P w).is k u=true:=by
 cases k with
 | inl i=>obtain⟨t,e⟩:=(show ∃t,u=Value.int i t from r);subst e;exact mixKind_int P w i t
 | inr x=>obtain⟨t,e⟩:=(show ∃t,u=Value.str x t from r);subst e;exact mixKind_str P w x t
noncomputable abbrev KT (H:Hp):List (TKey×V)->List (TKey×Addr×Value)->Prop:=Paired fun p q=>p.1=q.1/\TKeyAt H p.1 q.2.1/\RelV p.2 q.2.2
theorem KT.val {H:Hp} {kvs:List (TKey×V)} {xs:List (TKey×Addr×Value)} (r:KT H kvs xs) (k:TKey):RelO (valV kvs k) ((atKey xs k).map (·.2)):=by
 induction r with
 | nil=>exact True.intro
 | @cons p q ps qs h t ih=>
  obtain⟨h1,_,h2⟩:=h
  by_cases e:p.1=k
  ·have e':q.1=k:=h1.symm.trans e
   have b:atKey (q::qs) k=some q.2:=by simp[atKey,lKs,e']
   rw[kJh e,b];exact h2
  ·have e':¬ q.1=k:=fun z=>e (h1.trans z)
   have b:atKey (q::qs) k=atKey qs k:=by simp[atKey,lKs,e']
   rw[kJi e,b];exact ih
theorem KT.repl {H:Hp} {kvs:List (TKey×V)} {xs:List (TKey×Addr×Value)} (r:KT H kvs xs) (k:TKey) {y:V} {u:Value} (ry:RelV y u):
  KT H (kvs.map fun kv=>if kv.1=k then (kv.1,y) else kv) (xs.map (putAt k u)):=by
 induction r with
 | nil=>exact .nil
 | @cons p q ps qs h t ih=>
  rw[lJh,lJh]
  refine .cons ?_ ih
  obtain⟨h1,h2,h3⟩:=h
  unfold putAt
  by_cases e:p.1=k
  ·rw[if_pos e,if_pos (h1.symm.trans e)];exact⟨h1,h2,ry⟩
  ·rw[if_neg e,if_neg (fun z=>e (h1.trans z))];exact⟨h1,h2,h3⟩
theorem KT.put {H:Hp} {kvs:List (TKey×V)} {xs:List (TKey×Addr×Value)} (r:KT H kvs xs) (k:TKey) {b:Addr} {y:V} {u:Value} (hb:TKeyAt H k b) (ry:RelV y u):
  KT H (putK kvs k y) (storedH xs k b u):=by
 have e:(kvs.any fun kv=>decide (kv.1=k))=(atKey xs k).isSome:=by
  rw[valV_any,(r.val k).isSome_eq,Option.isSome_map]
 unfold putK storedH
 rw[e]
 by_cases q:(atKey xs k).isSome=true
 ·rw[if_pos q,if_pos q];exact r.repl k ry
 ·rw[if_neg q,if_neg q];exact Paired.snoc r ⟨rfl,hb,ry⟩
theorem KT.keeps {H H':Hp} {kvs:List (TKey×V)} {xs:List (TKey×Addr×Value)} (r:KT H kvs xs) (ht:∀b ys,H b=some (.tup ys)->H' b=some (.tup ys)):KT H' kvs xs:=
 Paired.mapP r fun _ _ z=>⟨z.1,z.2.1.mono ht,z.2.2⟩
section
variable {P:Program} {w:World} {H:Hp} {h:Heap} {a:Addr}
theorem rd_of {u:HO} (ok:HOk P w H h) (e:Rd H a u):ObjOk P w H h a u:=e.ok ok
theorem dk_rd {kvs:List (Key×V)} (ok:HOk P w H h) (e:Rd H a (.dK kvs)):kvs.length<=sizeLine/\(a == sysModules)=false/\∃vs,KV kvs vs/\h.DictOf (jQg P w) a vs:=
 show ObjOk P w H h a (.dK kvs) from rd_of ok e
theorem dk_of {kvs:List (Key×V)} (ok:HOk P w H h) (e:H a=some (.dK kvs)):kvs.length<=sizeLine/\(a == sysModules)=false/\∃vs,KV kvs vs/\h.DictOf (jQg P w) a vs:=dk_rd ok (.inl e)
theorem items_of {K:Type} [DecidableEq K] {c:Nat} {T:KeyV P w K c} {R:K->V->Prop} (hR:∀k x u,R k x->RelV x u->T.is h k u):∀ {ks:List K} {xs:List V} {us:List Value},Paired R ks xs->Vals xs us->ItemsV T h ks us
 | _,_,_,.nil,.nil=> .nil
 | _,_,_,.cons r t,.cons q z=> .cons (hR _ _ _ r q) (items_of hR t z)
theorem tupV_of {K:Type} [DecidableEq K] {c:Nat} {T:KeyV P w K c} {R:K->V->Prop} {ks:List K} {xs:List V} {p:Addr} (ok:HOk P w H h) (hR:∀k x u,R k x->RelV x u->T.is h k u) (e:H p=some (.tup xs)) (r:Paired R ks xs):kKw T h ks (.ref p):=by
 obtain⟨_,its,q,o,h1,h2,n,h3,_⟩:=(show ObjOk P w H h p (.tup xs) from ok p _ e)
 exact⟨p,o,its.toArray,n,rfl,h1,h2,h3,by simpa using items_of hR r q⟩
theorem r1_of (ok:HOk P w H h) (k:K1) (x:V) (u:Value) (r:Rk1 H k x) (q:RelV x u):(vk1 P w).is h k u:=by
 cases k with
 | inl k=>cases (show x=kV k from r);exact kV_is (P:=P) (w:=w) q
 | inr ks=>
  obtain⟨p,vs,rfl,e,t⟩:=(show ∃p vs,x= .ref p/\H p=some (.tup vs)/\Paired (fun k v=>v=kV k) ks vs from r)
  cases (show u=Value.ref p from q)
  exact tupV_of (T:=jZ6 P w) ok (fun k x u r q=>by subst r;exact kV_is (P:=P) (w:=w) q) e t
theorem r2_of (ok:HOk P w H h) (k:K2) (x:V) (u:Value) (r:Rk2 H k x) (q:RelV x u):(vk2 P w).is h k u:=by
 cases k with
 | inl k=>cases (show x=kV k from r);exact kV_is (P:=P) (w:=w) q
 | inr ks=>
  obtain⟨p,vs,rfl,e,t⟩:=(show ∃p vs,x= .ref p/\H p=some (.tup vs)/\Paired (Rk1 H) ks vs from r)
  cases (show u=Value.ref p from q)
  exact tupV_of (T:=vk1 P w) ok (r1_of ok) e t
theorem kKc {ks:TKey} (ok:HOk P w H h) (e:TKeyAt H ks a):(jJg P w).is h ks a:=by
 obtain⟨vs,h1,t⟩:=e
 exact tupV_of (T:=vk2 P w) ok (r2_of ok) h1 t
theorem dt_rd {kvs:List (TKey×V)} (ok:HOk P w H h) (e:Rd H a (.dT kvs)):kvs.length<=sizeLine/\(a == sysModules)=false/\
  ∃xs,KT H kvs xs/\h.DictOfH (jJg P w) a xs:=by
 obtain⟨z,y,xs,r,o,es,ep,h1,h2,h3,h4,h5⟩:=(show ObjOk P w H h a (.dT kvs) from rd_of ok e)
 refine⟨z,y,xs,r,o,es,ep,h1,h2,h3,h4,fun x hx=> ?_,h5⟩
 have all:∀ {l:List (TKey×V)} {m:List (TKey×Addr×Value)},KT H l m->∀x∈m,(jJg P w).is h x.1 x.2.1:=by
  intro l m q
  induction q with
  | nil=>intro x hx;exact nomatch hx
  | @cons p q ps qs hq t ih=>
   intro x hx
   rcases (lJi.mp hx) with e | hx
   ·subst e
    exact kKc ok (by rw[<-hq.1];exact hq.2.1)
   ·exact ih x hx
 exact all r x hx
theorem dt_of {kvs:List (TKey×V)} (ok:HOk P w H h) (e:H a=some (.dT kvs)):kvs.length<=sizeLine/\(a == sysModules)=false/\
  ∃xs,KT H kvs xs/\h.DictOfH (jJg P w) a xs:=dt_rd ok (.inl e)
end
def DGet (H:Hp) (a:Addr) (y:V) (r:Option V):Prop:=
 (∃kvs k,Rd H a (.dK kvs)/\y=kV k/\r=valV kvs k)\/∃kvs k b,Rd H a (.dT kvs)/\y= .ref b/\TKeyAt H k b/\r=valV kvs k
def DPut (H:Hp) (a:Addr) (y v:V) (H':Hp):Prop:=
 (∃kvs k,H a=some (.dK kvs)/\y=kV k/\kvs.length<sizeLine/\H'=upd H a (.dK (putK kvs k v)))\/
 ∃kvs k b,H a=some (.dT kvs)/\y= .ref b/\TKeyAt H k b/\kvs.length<sizeLine/\H'=upd H a (.dT (putK kvs k v))
theorem DGet.k {H:Hp} {a:Addr} {kvs:List (Key×V)} {k:Key} (e:H a=some (.dK kvs)):DGet H a (kV k) (valV kvs k):= .inl ⟨kvs,k,.inl e,rfl,rfl⟩
theorem DGet.t {H:Hp} {a b:Addr} {kvs:List (TKey×V)} {k:TKey} (e:H a=some (.dT kvs)) (eb:TKeyAt H k b):DGet H a (.ref b) (valV kvs k):= .inr ⟨kvs,k,b,.inl e,rfl,eb,rfl⟩
theorem DPut.k {H:Hp} {a:Addr} {kvs:List (Key×V)} {k:Key} {v:V} (e:H a=some (.dK kvs)) (hl:kvs.length<sizeLine):DPut H a (kV k) v (upd H a (.dK (putK kvs k v))):= .inl ⟨kvs,k,e,rfl,hl,rfl⟩
theorem DPut.t {H:Hp} {a b:Addr} {kvs:List (TKey×V)} {k:TKey} {v:V} (e:H a=some (.dT kvs)) (eb:TKeyAt H k b) (hl:kvs.length<sizeLine):
  DPut H a (.ref b) v (upd H a (.dT (putK kvs k v))):= .inr ⟨kvs,k,b,e,rfl,eb,hl,rfl⟩
section
variable {X:Cx} {pins:List (Addr×Obj)} {σ:St} {H:Hp} {s:Shared} {a:Addr} {y v:V} {u r:Value} {o:Option V} {A:Around} {E:Value->Shared->Prop}
theorem Inv.big (I:Inv X pins σ H s):sysModules<s.heap.objs.size:=by
 have h:mainGlobals<s.heap.objs.size:=(I.mod.glob.keeps I.bk).lt
 exact Nat.lt_trans (by decide) h
theorem d_getItem {Q:Value->Shared->Prop} (hu:A.units+20<cLine) (I:Inv X pins σ H s) (g:DGet H a y (some v)) (ry:RelV y u) (h:∀w' s',Inv X pins σ H s'->RelV v w'->Q w' s'):
  wpAny (model X.prog X.w) A (getItem (.ref a) u) Q E s:=by
 rcases g with ⟨kvs,k,e,ey,l⟩ | ⟨kvs,k,b,e,ey,eb,l⟩
 ·subst ey
  obtain⟨z,hd,vs,rel,dd⟩:=dk_rd I.hok e
  obtain⟨w',hw,rw'⟩:=RelO.some_of (v:=v) (o:=valueAt vs k) (by rw[l];exact rel.val k)
  exact wpAny_getItem_of (kV_is ry) dd.mapOf hw (h w' _ (I.tok _) rw')
 ·subst ey
  cases (show u=Value.ref b from ry)
  obtain⟨z,hd,xs,rel,dd⟩:=dt_rd I.hok e
  obtain⟨w',hw,rw'⟩:=RelO.some_of (v:=v) (o:=(atKey xs k).map (·.2)) (by rw[l];exact rel.val k)
  obtain⟨p,hp,hp2⟩:=lKi.mp hw
  refine wpAny_getItem_heap (jUj hu) (kKc I.hok eb) dd hp ?_
  rw[hp2]
  exact h w' _ (I.tok _) rw'
theorem d_notIn {Q:Value->Shared->Prop} (hu:A.units+20<cLine) (I:Inv X pins σ H s) (g:DGet H a y o) (ry:RelV y u) (h:∀s',Inv X pins σ H s'->Q (.bool (!o.isSome)) s'):
  wpAny (model X.prog X.w) A (compareOp .NotIn u (.ref a)) Q E s:=by
 rcases g with ⟨kvs,k,e,ey,l⟩ | ⟨kvs,k,b,e,ey,eb,l⟩
 ·subst ey
  obtain⟨z,hd,vs,rel,dd⟩:=dk_rd I.hok e
  refine wpAny_notIn_of (kV_is ry) hd dd.mapOf ?_
  rw[<-(rel.val k).isSome_eq,<-l]
  exact h _ (I.tok _)
 ·subst ey
  cases (show u=Value.ref b from ry)
  obtain⟨z,hd,xs,rel,dd⟩:=dt_rd I.hok e
  refine wpAny_notIn_heap (jUj hu) (kKc I.hok eb) hd dd ?_
  have q:=(rel.val k).isSome_eq
  rw[Option.isSome_map] at q
  rw[<-q,<-l]
  exact h _ (I.tok _)
theorem d_write {h':Heap} {t':Nat} {ob:HO} (I:Inv X pins σ H s) (mu:Mut (H a)) (hs:Heap.SameBut a s.heap h') (he:∃q,h'.get? a=some q) (new:ObjOk X.prog X.w (upd H a ob) h' a ob):
  Inv X pins σ (upd H a ob) {s with heap:=h',toks:=t'}:=
 I.write (x:=a) (e:=a) mu (.inl rfl) (fun b q hb z=>(hs.2 b hb).trans z) he new
theorem dk_new {P:Program} {w:World} {H':Hp} {h':Heap} {kvs:List (Key×V)} {vs:List (Key×Value)} (z:kvs.length<=sizeLine) (hd:(a == sysModules)=false) (rel:KV kvs vs) (dd:h'.DictOf (jQg P w) a vs):
  ObjOk P w H' h' a (.dK kvs):=⟨z,hd,vs,rel,dd⟩
theorem d_setItem {H':Hp} {Q:Unit->Shared->Prop} (hu:A.units+20<cLine) (I:Inv X pins σ H s) (g:DPut H a y v H') (ry:RelV y u) (rv:RelV v r) (h:∀s',Inv X pins σ H' s'->Q () s'):
  wpAny (model X.prog X.w) A (setItem (.ref a) u r) Q E s:=by
 rcases g with ⟨kvs,k,e,ey,l,eH⟩ | ⟨kvs,k,b,e,ey,eb,l,eH⟩
 ·subst ey eH
  obtain⟨z,hd,vs,rel,dd⟩:=dk_of I.hok e
  have hz:vs.length<=sizeLine:=by rw[<-rel.length];exact z
  have hl:(putK kvs k v).length<=sizeLine:=by have:=kKa kvs k v;omega
  refine wpAny_setItem_pairs (hsz:=hz) (kV_is ry) dd fun h' dd' hs=>h _ ?_
  have he:∃q,h'.get? a=some q:=let ⟨q,_,_,hq,_⟩:=dd';⟨q,hq⟩
  exact d_write I (by rw[e];exact True.intro) hs he (dk_new hl hd (rel.put k rv) dd')
 ·subst ey eH
  cases (show u=Value.ref b from ry)
  obtain⟨z,hd,xs,rel,dd⟩:=dt_of I.hok e
  have hz:xs.length<=sizeLine:=by rw[<-Paired.length rel];exact z
  have hl:(putK kvs k v).length<=sizeLine:=by have:=kKa kvs k v;omega
  refine wpAny_setItem_heap (hsz:=hz) (jUj hu) (kKc I.hok eb) dd fun h' dd' hs=>h _ ?_
  obtain⟨q,es,ep,hq,h2,h3,h4,_,h5⟩:=dd'
  refine d_write I (by rw[e];exact True.intro) hs ⟨q,hq⟩ ⟨hl,hd,_,(rel.put k eb rv).keeps fun c ys ec=> ?_,q,es,ep,hq,h2,h3,h4,h5⟩
  rw[jKx (ne_of ec e (fun z=>nomatch z))]
  exact ec
end
section
variable {X:Cx} {pins:List (Addr×Obj)} {σ:St} {H:Hp} {s:Shared} {a:Addr} {kvs:List (Key×V)} {k:Key} {u:Value} {A:Around} {E:Value->Shared->Prop}
end
theorem dict_typeIs {X:Cx} {pins:List (Addr×Obj)} {σ:St} {H:Hp} {s:Shared} {a:Addr} {y:V} {o:Option V} (I:Inv X pins σ H s) (g:DGet H a y o):s.TypeIs (.ref a) "dict":=by
 rcases g with ⟨kvs,k,e,_,_⟩ | ⟨kvs,k,b,e,_,_,_⟩
 ·obtain⟨_,_,vs,_,dd⟩:=dk_rd I.hok e
  exact dd.typeIs
 ·obtain⟨_,_,xs,_,dd⟩:=dt_rd I.hok e
  exact dd.typeIs
section
variable {X:Cx} {o i e value:Expr} {pos pos' tpos:Pos} {td ty tv:TE}
end
theorem dk_empty {P:Program} {w:World} {H:Hp} (h:Heap) (hb:sysModules<h.objs.size):ObjOk P w H (h.push {cls:= .type "dict",data:= .dict #[]}) h.objs.size (.dK []):=
 ⟨lJt _,beq_eq_false_iff_ne.mpr (Ne.symm (lJo hb)),[],.nil,Heap.DictOf.new h⟩
theorem dt_empty {P:Program} {w:World} {H:Hp} (h:Heap) (hb:sysModules<h.objs.size):ObjOk P w H (h.push {cls:= .type "dict",data:= .dict #[]}) h.objs.size (.dT []):=
 ⟨lJt _,beq_eq_false_iff_ne.mpr (Ne.symm (lJo hb)),[],.nil,_,#[],0,Heap.get?_push_size _ rfl,⟨rfl,rfl,rfl⟩,rfl,rfl,lQj⟩
noncomputable def tDNewK:TE:=fun _ H Q=>∀p,H p=none->Q (.ref p) (upd H p (.dK []))
noncomputable def tDNewT:TE:=fun _ H Q=>∀p,H p=none->Q (.ref p) (upd H p (.dT []))
section
variable {X:Cx} {pos:Pos}
theorem pe_dnewK:PE X (.Dict [] [] pos) tDNewK:=fun pins s σ H Q I h=>
 wpAny_Dict_empty ⟨.ref s.heap.objs.size,_,I.laid (a:=s.heap.objs.size) (o:= .dK []) (t':=s.toks) (fun _ _ q=>Heap.get?_push_of_some _ q) (lJd _) (dk_empty s.heap I.big),rfl,h _ (I.hok.fresh (lJd _))⟩
theorem pe_dnewT:PE X (.Dict [] [] pos) tDNewT:=fun pins s σ H Q I h=>
 wpAny_Dict_empty ⟨.ref s.heap.objs.size,_,I.laid (a:=s.heap.objs.size) (o:= .dT []) (t':=s.toks) (fun _ _ q=>Heap.get?_push_of_some _ q) (lJd _) (dt_empty s.heap I.big),rfl,h _ (I.hok.fresh (lJd _))⟩
end
noncomputable abbrev VV:List (V×V)->List (Value×Value)->Prop:=Paired fun p q=>RelV p.1 q.1/\RelV p.2 q.2
noncomputable def mergeK (kvs more:List (Key×V)):List (Key×V):=more.foldl (fun acc kv=>putK acc kv.1 kv.2) kvs
theorem KV.merge:∀ {more:List (Key×V)} {rs:List (Key×Value)} {kvs:List (Key×V)} {vs:List (Key×Value)},KV more rs->KV kvs vs->KV (mergeK kvs more) (merged vs rs):=by
 intro more rs kvs vs r
 unfold KV at r
 induction r generalizing kvs vs with
 | nil=>intro q;exact q
 | @cons p q ps qs h t ih=>
  intro r0
  have e:KV (putK kvs p.1 p.2) (stored vs q.1 q.2):=by
   have:=r0.put p.1 h.2
   rw[<-h.1];exact this
  exact ih e
theorem kQw {P:Program} {w:World}:∀ {kvs:List (Key×V)} {ws:List (Value×Value)},VV (kvs.map fun kv=>(kV kv.1,kv.2)) ws->∃rs,Carries (jQg P w) ws rs/\KV kvs rs
 | [],_,r=>by rw[List.map_nil] at r;cases r;exact⟨[],True.intro,.nil⟩
 | p::kvs,_,r=>by
  rw[lJh] at r
  cases r with
  | @cons a b as bs h t=>
   obtain⟨rs,c,q⟩:=kQw (P:=P) (w:=w) t
   obtain⟨b1,b2⟩:=b
   exact⟨(p.1,b2)::rs,⟨kV_is h.1,rfl,c⟩,.cons ⟨rfl,h.2⟩ q⟩
section
variable {X:Cx} {pins:List (Addr×Obj)} {σ:St} {H:Hp} {s:Shared} {a:Addr} {y d:V} {u r:Value} {o:Option V} {A:Around} {E:Value->Shared->Prop}
end
section
variable {X:Cx} {o e f:Expr} {apos cpos:Pos} {td ty tx:TE}
end
section
variable {X:Cx} {pins:List (Addr×Obj)} {σ:St} {H:Hp} {s:Shared} {a:Addr} {kvs:List (Key×V)} {A:Around} {E:Value->Shared->Prop}
end
section
variable {X:Cx} {pins:List (Addr×Obj)} {σ:St} {H:Hp} {s:Shared} {a:Addr} {y:V} {u:Value} {A:Around} {E:Value->Shared->Prop}
end
end L2
namespace Att
open PySem PySem.W PySem.Calls PyProof.Rows
theorem kKf {P:Params} {h:Heap}:∀(ns:List Int) (vs:List Value),WellAll P h vs (ns.map WData.int)->IntsAre vs ns:=by
 intro ns
 induction ns with
 | nil=>
  intro vs w
  rw[List.map_nil] at w
  cases w
  exact .nil
 | cons n ns ih=>
  intro vs w
  rw[lJh] at w
  cases w with
  | cons a b=>
   cases a
   exact .cons _ _ (ih _ b)
theorem script_of {l:OpenLaw} {n:Nat} (hn:l.most=some n) {P:Params} {h:Heap} {args:List WData} {vals:List Value}
  (hpre:l.row.toRowW.claim.pre args=true) (hwl:WellAll P h vals args):
  ∃a vs ns,vals=[Value.ref a]/\args=[WData.list (ns.map WData.int)]/\h.get? a=some {cls:= .type "list",data:= .seq vs.toArray}/\IntsAre vs ns/\ns.length<=n:=by
 have hsh:WShape.hasAll [] args [.list .int]=true:=(pre_splitW hpre).1
 have hc:l.pre.holds [] {args:=args}=true:=(pre_splitW hpre).2
 obtain⟨d,r,rfl,h1,h2⟩:=hasAllW_cons hsh
 obtain rfl:=hasAllW_nil h2
 obtain⟨xs,rfl,h3⟩:=hasW_list h1
 obtain⟨ns,rfl⟩:=items_int h3
 have hlen:ns.length<=n:=by
  unfold OpenLaw.pre at hc
  have h4:(WTm.not (.lt (.lit (.int (n:Int))) (.len (.arg 0)))).holds [] {args:=[.list (ns.map .int)]}=true:=by
   have h4:=(holds_andW hc).1
   rw[hn] at h4
   exact h4
  have h5:=condW_of h4 (w_not (w_lt w_lit (w_len_list (w_arg rfl))))
  rw[lJc] at h5
  refine Nat.le_of_not_lt fun q=> ?_
  have q':(n:Int)<((ns.length:Nat):Int):=by omega
  first
   | (rw[decide_eq_true q'] at h5;exact absurd h5 (by decide))
   | (simp at h5;omega)
 cases hwl with
 | cons w1 w2=>
  cases w2
  cases w1 with
  | list ho hall=>exact⟨_,_,ns,rfl,rfl,ho,kKf ns _ hall,hlen⟩
theorem post_true (l:OpenLaw) (args:List WData):l.row.toRowW.claim.post args (.bool true) args=true:=
 postW_of (r:=l.row.toRowW) (X:=(true == true))
  (show WShape.has [] (.bool true) .bool=true by first | rfl | decide | simp[WShape.has,WShape.arms,WShape.armsAll])
  (show (WTm.eq .res (.lit (.bool true))).value [] {args:=args,res:=some (.bool true),after:=args}=some (.bool (true == true)) from w_eq_bool (w_res rfl) w_lit) rfl
theorem attach_call {l:OpenLaw} {n:Nat} {q:Program} {loose:List Str} {XP:(Str->Option Value)->Heap->Prop} {YP:World->Heap->Prop} {d:DefRec}
  (hn:l.most=some n) (hdf:d.params.defaults=[])
  (call:∀(w:World) (s₀ s₁:Shared) (mg mb:Str->Option Value) (fa:Addr) (o:Obj) (pm cd doc:Value) (a:Addr) (vs:List Value) (ns:List Int),
   Ground q loose [] XP w s₀ mg mb s₁.heap->YP w s₁.heap->
   s₁.heap.get? fa=some o->o.data= .func (docDef d.name d.params d.body d.scope pm cd doc)->s₁.heap.CodeRec cd d.name->mg d.name=some (.ref fa)->
   s₁.heap.get? a=some {cls:= .type "list",data:= .seq vs.toArray}->IntsAre vs ns->ns.length<=n->s₁.gens= #[]->
   codeAny (model l.prog w) callerA (.call (.ref fa) ⟨[.ref a],[]⟩) (fun r s'=>r= .ok (.ret (.bool true))/\OldK s₁.heap s'.heap/\s'.os=s₁.os/\AllBare s'.gens) s₁):
  WalkO q loose XP YP l.row.toRowW d [] (fun f vs=>PySem.call f vs):=by
 intro w s₀ s₁ mg mb G Y fa o pm cd doc dV kV ho hd hcd hD hmg hg args vals as hpre hlay hrd hwl hlo
 obtain rfl:dV= .none:=Dflts.none hD hdf
 obtain rfl:kV= .none:=Dflts.noKw hD
 obtain⟨a,vs,ns,rfl,rfl,hobj,hints,hlen⟩:=script_of hn hpre hwl
 refine enter_call (codeAny_mono (call w s₀ s₁ mg mb fa o pm cd doc a vs ns G Y ho (fd_plain hd) hcd hmg hobj hints hlen hg) fun r s' hq=> ?_)
 obtain⟨rfl,h2,h3,h4⟩:=hq
 exact⟨.inl ⟨.bool true,.bool true,[],rfl,fun _=>rfl,.bool true,post_true l _,fun _=>⟨List.Pairwise.nil,fun _ hm=>(nomatch hm)⟩⟩,h2,h3,h4⟩
section
variable {prog:Program} {w:World} {A:Around} {E:Value->Shared->Prop} {s:Shared} {K:Frag}
end
end Att
namespace L2
open PySem PySem.Spec PyProof.Rows
theorem jXn:∀ {vs:List Value} {ns:List Int},IntsAre vs ns->Vals (ns.map V.int) vs
 | _,_,.nil=> .nil
 | _,_,.cons n t h=> .cons ⟨t,rfl⟩ (jXn h)
def Only (H:Hp):Prop:=∀b,H b=none\/∃o xs,H b=some (.frz o (.lst xs))
theorem law_call {P:Program} {w:World} {K:PySem.W.Frag} {mg mb:Str->Option Value} {CX:CXT} {k:Nat} {fa a:Addr} {fd:FuncData} {x:Str} {sp:Sp} {s₁:Shared} {vs:List Value} {ns:List Int}
  (KX:K.In s₁.heap) (hns:s₁.heap.Ns mainGlobals mg) (hb:s₁.heap.Ns builtinsNs mb) (hbb:∀x:Str,x≠"__name__"->mb x=bootBuiltins x) (hlim:s₁.heap.NoLimit) (hg:s₁.gens= #[])
  (ha:s₁.heap.get? a=some {cls:= .type "list",data:= .seq vs.toArray}) (hi:IntsAre vs ns) (hl:ns.length<=sizeLine) (hr:Room k callerA)
  (F:∀base:Heap,K.In base->base.Ns mainGlobals mg->FnOk P w K mg base CX k fa fd [x] sp) (hbind:∀(s:Shared) (u:Value),BindsTo s fd ⟨[u],[]⟩ [(x,u)])
  (hsp:∀H:Hp,Only H->SqL K H a (ns.map V.int)->sp [.ref a] H (fun v _=>v= .bl true) fun _ _ _=>False)
  (hCX:∀H e s',CX [] H s₁ (fun _ _ _=>False) e s'->False):
  codeAny (model P w) callerA (.call (.ref fa) ⟨[.ref a],[]⟩) (fun r s'=>r= .ok (.ret (.bool true))/\OldK s₁.heap s'.heap/\s'.os=s₁.os/\AllBare s'.gens) s₁:=by
 have rv:=jXn hi
 have lenV:=hi.length
 have core:∀H:Hp,Only H->SqL K H a (ns.map V.int)->HOk P w H s₁.heap->(∀b,H b≠none->b=a)->(H a≠none->K.lookup a=none)->
   codeAny (model P w) callerA (.call (.ref fa) ⟨[.ref a],[]⟩) (fun r s'=>r= .ok (.ret (.bool true))/\OldK s₁.heap s'.heap/\s'.os=s₁.os/\AllBare s'.gens) s₁:=by
  intro H hO hS hok hA hK
  have base_of:∀ {b:Addr} {o:Obj},s₁.heap.get? b=some o->H b=none->(hidT s₁.heap H).get? b=some o:=fun e n=>hidT_get e n
  have noA:∀ {b:Addr} {o:Obj} {es:Array DictEntry} {ep:Nat},s₁.heap.get? b=some o->o.data= .dict es ep->H b=none:=fun {b o es ep} e d=>by
   cases q:H b with
   | none=>rfl
   | some u=>
    have e':b=a:=hA b (by rw[q];simp)
    subst e'
    rw[ha] at e;cases e
    have d':Data.seq vs.toArray _=Data.dict es ep:=d
    cases d'
  have nsK:∀ {b:Addr} {m:Str->Option Value},s₁.heap.Ns b m->(hidT s₁.heap H).Ns b m:=fun {b m} ⟨o,es,ep,e,d,r⟩=>⟨o,es,ep,base_of e (noA e d),d,r⟩
  have hKb:K.In (hidT s₁.heap H):=fun b o e=>base_of (KX b o e) (by
   cases q:H b with
   | none=>rfl
   | some u=>
    have e':b=a:=hA b (by rw[q];simp)
    subst e'
    rw[hK (by rw[q];simp)] at e;cases e)
  have hM:Mod K mg (hidT s₁.heap H):=⟨hKb,nsK hns,⟨mb,nsK hb,hbb⟩,let ⟨mc,h1,h2⟩:=hlim;⟨mc,nsK h1,h2⟩⟩
  have e0:Env0 P w K mg (hidT s₁.heap H) callerA [] s₁ H:=⟨rfl,hM,fun b o e=>of_hidT e,Nat.le_of_eq (hidT_size _ _),trivial,fun b hb=>absurd (show b∈([]:List Addr) from hb) (by simp),hok,.of_eq hg⟩
  refine codeAny_mono ((F _ hKb (nsK hns)).run callerA [] s₁ H ⟨[.ref a],[]⟩ [.ref a] [.ref a] _ _ hr e0 (hbind s₁ (.ref a)) (.cons rfl .nil) (hsp H hO hS)) fun r s' h=> ?_
  cases r with
  | error e=>exact (hCX H e s' h).elim
  | ok fl=>
   cases fl with
   | next=>exact False.elim h
   | brk=>exact False.elim h
   | cont=>exact False.elim h
   | ret u=>
    obtain⟨v,H',os,bare,un,hok',r',q⟩:=h
    have q':v= .bl true:=q
    subst q'
    obtain rfl:u=Value.bool true:=r'
    refine⟨rfl,OldK.of_keep fun b o e=> ?_,os,bare⟩
    cases q:H b with
    | none=>exact un.keep b o e q (by intro z;exact absurd (show b∈([]:List Addr) from z) (by simp)) (by simp)
    | some u=>
     rcases hO b with z | ⟨ob,xs,z⟩
     ·rw[q] at z;cases z
     ·have z2:=un.frzs b ob _ z
      obtain⟨e1,_⟩:=hok b _ z
      obtain⟨e2,_⟩:=hok' b _ z2
      rw[e] at e1;cases e1
      exact e2
 cases hk:K.lookup a with
 | some o=>
  have e:=KX a o hk
  rw[ha] at e
  cases e
  refine core (fun _=>none) (fun _=> .inl rfl) (.inr ⟨_,vs.toArray,_,hk,rfl,rfl,rfl,by rw[lJp,lenV];exact hl,by simpa using rv⟩) (fun b u z=>by have z':(none:Option HO)=some u:=z;cases z') (fun b z=>absurd rfl z) fun z=>absurd rfl z
 | none=>
  refine core (fun b=>if b=a then some (.frz {cls:= .type "list",data:= .seq vs.toArray} (.lst (ns.map V.int))) else none) (fun b=> ?_) (.inl (.inr ⟨{cls:= .type "list",data:= .seq vs.toArray},if_pos rfl⟩)) (fun b u z=> ?_) (fun b z=> ?_) fun _=>hk
  ·by_cases hb:b=a
   ·exact .inr ⟨_,_,if_pos hb⟩
   ·exact .inl (if_neg hb)
  ·by_cases hb:b=a
   ·have z':=(if_pos hb).symm.trans z
    cases z'
    subst hb
    exact⟨ha,by rw[lJc];exact hl,vs,_,rv,ha⟩
   ·have z':=(if_neg hb).symm.trans z
    cases z'
  ·by_cases hb:b=a
   ·exact hb
   ·exact absurd (if_neg hb) z
end L2
namespace L2
open PySem PySem.Spec PyProof.Rows
theorem walk_of {l:PySem.W.OpenLaw} {n k:Nat} {q:Program} {loose:List Str} {XP:(Str->Option Value)->Heap->Prop} {YP:World->Heap->Prop} {d:DefRec} {K:Params->PySem.W.Frag} {CX:World->CXT} {sp:World->Sp} {x:Str}
  (hn:l.most=some n) (hn2:n<=sizeLine) (hdf:d.params.defaults=[]) (hr:Room k callerA)
  (hY:∀(w:World) (h:Heap),YP w h->(K w.params).In h)
  (F:∀(w:World) (mg:Str->Option Value) (fa:Addr) (h:Heap),(K w.params).In h->h.Ns mainGlobals mg->mg d.name=some (.ref fa)->
   ∃fd:FuncData,(∀(s:Shared) (u:Value),BindsTo s fd ⟨[u],[]⟩ [(x,u)])/\
    ∀base:Heap,(K w.params).In base->base.Ns mainGlobals mg->FnOk l.prog w (K w.params) mg base (CX w) k fa fd [x] (sp w))
  (hsp:∀(w:World) (H:Hp) (a:Addr) (ns:List Int),ns.length<=n->Only H->SqL (K w.params) H a (ns.map V.int)->sp w [.ref a] H (fun v _=>v= .bl true) fun _ _ _=>False)
  (hCX:∀(w:World) (H:Hp) (s:Shared) (e:Value) (s':Shared),CX w [] H s (fun _ _ _=>False) e s'->False):
  PySem.W.WalkO q loose XP YP l.row.toRowW d [] (fun f vs=>PySem.call f vs):=by
 refine Att.attach_call hn hdf fun w s₀ s₁ mg mb fa o pm cd doc a vs ns G Y ho hd hcd hmg hobj hints hlen hg=> ?_
 have KX:=hY w _ Y
 obtain⟨fd,hb,hF⟩:=F w mg fa _ KX G.T.g hmg
 exact law_call KX G.T.g G.T.b G.T.builtins G.T.nolimit hg hobj hints (lKb hlen hn2) hr hF hb (fun H hO hS=>hsp w H a ns hlen hO hS) fun H e s'=>hCX w H s₁ e s'
end L2
namespace L2
open PySem PySem.Spec PyProof.Rows
noncomputable def jJ1 (s:Stmt):Arguments:=match s with
 | .FunctionDef _ a _ _ _ _ _ _ _ _=>a
 | _=>{posonlyargs:=[],args:=[],vararg:=none,kwonlyargs:=[],kw_defaults:=[],kwarg:=none,defaults:=[]}
noncomputable def jJx (s:Stmt):List Stmt:=match s with
 | .FunctionDef _ _ b _ _ _ _ _ _ _=>b
 | _=>[]
noncomputable def jJf (s:Stmt):Scope:=match s with
 | .FunctionDef _ _ _ _ _ _ sc _ _ _=>sc
 | _=>{kind:= .function,names:=[],isGenerator:=false,isCoroutine:=false}
noncomputable abbrev CX0:CXT:=fun _ _ _ _ _ _=>False
noncomputable abbrev E0:XK:=fun _ _ _=>False
theorem pass0 {X:Cx}:Passes CX0 X E0:=fun _ _ _ _ _ _ _ h=>h.elim
structure Fun (K:PySem.W.Frag) (x qual:Str) (st:Stmt) (f:Addr) (fd:FuncData):Prop where
 ex:∃(oc:Value) (od:Option Addr) (kV doc pm:Value) (an:Option Addr) (cdv ct:Value) (osl:Array (Option Value)),
  fd=PySem.W.fnOf x qual (jJ1 st) (jJx st) (jJf st) .none kV doc pm an cdv ct/\K.lookup f=some ⟨oc,od,.func fd,osl⟩/\PySem.W.codeIn K cdv qual=true
 kp:PySem.W.keepIn K (.ref f)=true
section
variable {P:Program} {w:World} {K:PySem.W.Frag} {mg:Str->Option Value} {base:Heap}
theorem Fun.ok {x qual:Str} {st:Stmt} {f:Addr} {fd:FuncData} {N ps:List Str} {k:Nat} {sp:Sp} (F:Fun K x qual st f fd) (S:FnScope N ps (jJf st)) (len:∀vs H Q E,sp vs H Q E->vs.length=ps.length)
  (hbody:∀(cdv:Value) (A:Around) (outer:List Env) (s:Shared) (H:Hp) (vs:List V) (Q:VK) (E:XK),Room k (A.deeper (envOfC qual (jJf st) s.heap.objs.size f cdv))->sp vs H Q E->
   ∃t,PSs (cxOf CX0 P w K mg base N qual (jJf st) f cdv A outer s H E).nox (jJx st) t/\t {nx:=fun _ H'=>Q .non H',rt:=Q} (start N vs) H):FnOk P w K mg base CX0 (k+1) f fd ps sp:=by
 obtain⟨oc,od,kV,doc,pm,an,cdv,ct,osl,rfl,lk,hcd⟩:=F.ex
 refine fn_of lk hcd S len fun A outer s H vs Q E hr hsp=> ?_
 obtain⟨t,h,q⟩:=hbody cdv A outer s H vs Q E hr hsp
 exact⟨t,h.nox,q⟩
theorem Fun.binds {x qual:Str} {st:Stmt} {f:Addr} {fd:FuncData} {ps:List Str} (F:Fun K x qual st f fd)
  (h:∀(kV doc pm:Value) (an:Option Addr) (cdv ct:Value) (us:List Value),us.length=ps.length->bindArgs (PySem.W.fnOf x qual (jJ1 st) (jJx st) (jJf st) .none kV doc pm an cdv ct) ⟨us,[]⟩=pure (ps.zip us)):Binds K fd ps []:=by
 obtain⟨oc,od,kV,doc,pm,an,cdv,ct,osl,rfl,lk,hcd⟩:=F.ex
 exact .all (h kV doc pm an cdv ct)
theorem jKr {x qual:Str} {st:Stmt} {f:Addr} {oc:Value} {od an:Option Addr} {osl:Array (Option Value)} {kV doc pm cdv ct:Value} (l:K.lookup f=some ⟨oc,od,.func (PySem.W.fnOf x qual (jJ1 st) (jJx st) (jJf st) .none kV doc pm an cdv ct),osl⟩)
  (c:PySem.W.codeIn K cdv qual=true) (k:PySem.W.keepIn K (.ref f)=true):Fun K x qual st f (PySem.W.fnOf x qual (jJ1 st) (jJx st) (jJf st) .none kV doc pm an cdv ct):=⟨⟨oc,od,kV,doc,pm,an,cdv,ct,osl,rfl,l,c⟩,k⟩
end
theorem jQ0 {A:Around} {k:Nat} (hr:Room k A):A.units+20<cLine:=Nat.lt_of_le_of_lt (Nat.add_le_add_left (by decide:20<=64) _) hr.units
section
variable {X:Cx}
end
end L2
set_option Elab.async false
set_option linter.all false
set_option maxRecDepth 100000
set_option maxHeartbeats 5000000
namespace L3
open PySem PySem.Spec PyProof.Rows L2
inductive T where
 | non | bl (b:Bool) | int (i:Int) | str (x:Str) | tup (xs:List T) | scr (xs:List T) | ref (a:Addr) | ty (n:String)
structure Ext (H H':Hp):Prop where
 tup:∀b xs,H b=some (.tup xs)->H' b=some (.tup xs)
 frz:∀b ob u,H b=some (.frz ob u)->H' b=some (.frz ob u)
theorem Ext.refl (H:Hp):Ext H H:=⟨fun _ _ h=>h,fun _ _ _ h=>h⟩
theorem Ext.trans {H H1 H2:Hp} (a:Ext H H1) (b:Ext H1 H2):Ext H H2:=⟨fun c o h=>b.tup c o (a.tup c o h),fun c o u h=>b.frz c o u (a.frz c o u h)⟩
def FrL (K:PySem.W.Frag) (H:Hp) (a:Addr) (xs:List V):Prop:=
 (∃ob,H a=some (.frz ob (.lst xs)))\/
  ∃(o:Obj) (its:Array Value) (n:Nat),K.lookup a=some o/\o.cls= .type "list"/\o.dict=none/\o.data= .seq its n/\its.size<=sizeLine/\Vals xs its.toList
theorem FrL.sq {K:PySem.W.Frag} {H:Hp} {a:Addr} {xs:List V} (h:FrL K H a xs):SqL K H a xs:=by
 rcases h with ⟨ob,h⟩ | h
 ·exact .inl (.inr ⟨ob,h⟩)
 ·exact .inr h
theorem FrL.mono {K:PySem.W.Frag} {H H':Hp} {a:Addr} {xs:List V} (e:Ext H H') (h:FrL K H a xs):FrL K H' a xs:=by
 rcases h with ⟨ob,h⟩ | h
 ·exact .inl ⟨ob,e.frz _ _ _ h⟩
 ·exact .inr h
mutual
noncomputable def Rep (K:PySem.W.Frag) (H:Hp):T->V->Prop
 | .non,v=>v= .non
 | .bl b,v=>v= .bl b
 | .int i,v=>v= .int i
 | .str x,v=>v= .str x
 | .ref a,v=>v= .ref a
 | .ty n,v=>v= .ty n
 | .tup xs,v=>∃a vs,v= .ref a/\H a=some (.tup vs)/\Reps K H xs vs
 | .scr xs,v=>∃a vs,v= .ref a/\FrL K H a vs/\Reps K H xs vs
noncomputable def Reps (K:PySem.W.Frag) (H:Hp):List T->List V->Prop
 | [],vs=>vs=[]
 | x::xs,vs=>∃v ws,vs=v::ws/\Rep K H x v/\Reps K H xs ws
end
mutual
theorem Rep.mono {K:PySem.W.Frag} {H H':Hp} (e:Ext H H'):∀(x:T) {v:V},Rep K H x v->Rep K H' x v
 | .non,_,h=>h
 | .bl _,_,h=>h
 | .int _,_,h=>h
 | .str _,_,h=>h
 | .ref _,_,h=>h
 | .ty _,_,h=>h
 | .tup xs,_,⟨a,vs,r1,r2,r3⟩=>⟨a,vs,r1,e.tup _ _ r2,Reps.mono e xs r3⟩
 | .scr xs,_,⟨a,vs,r1,r2,r3⟩=>⟨a,vs,r1,r2.mono e,Reps.mono e xs r3⟩
theorem Reps.mono {K:PySem.W.Frag} {H H':Hp} (e:Ext H H'):∀(xs:List T) {vs:List V},Reps K H xs vs->Reps K H' xs vs
 | [],_,h=>h
 | x::xs,_,⟨v,ws,r1,r2,r3⟩=>⟨v,ws,r1,Rep.mono e x r2,Reps.mono e xs r3⟩
end
section
variable {K:PySem.W.Frag} {H:Hp}
theorem Reps.length:∀ {xs:List T} {vs:List V},Reps K H xs vs->xs.length=vs.length
 | [],_,h=>by cases h;rfl
 | _::_,_,⟨_,_,r1,_,r3⟩=>by subst r1;simp[Reps.length r3]
theorem Reps.get:∀ {xs:List T} {vs:List V} {i:Nat} {x:T},Reps K H xs vs->xs[i]? =some x->∃v,vs[i]? =some v/\Rep K H x v
 | [],_,_,_,_,e=>by simp at e
 | y::ys,_,0,x,⟨v,ws,r1,r2,r3⟩,e=>by subst r1;simp at e;subst e;exact⟨v,rfl,r2⟩
 | y::ys,_,i+1,x,⟨v,ws,r1,r2,r3⟩,e=>by subst r1;simpa using Reps.get r3 (by simpa using e)
theorem Reps.get':∀ {xs:List T} {vs:List V} {i:Nat} {v:V},Reps K H xs vs->vs[i]? =some v->∃x,xs[i]? =some x/\Rep K H x v
 | [],_,_,_,h,e=>by cases h;simp at e
 | y::ys,_,0,x,⟨v,ws,r1,r2,r3⟩,e=>by subst r1;simp at e;subst e;exact⟨y,rfl,r2⟩
 | y::ys,_,i+1,x,⟨v,ws,r1,r2,r3⟩,e=>by subst r1;simpa using Reps.get' r3 (by simpa using e)
theorem Reps.append:∀ {xs ys:List T} {vs ws:List V},Reps K H xs vs->Reps K H ys ws->Reps K H (xs++ys) (vs++ws)
 | [],_,_,_,h,h2=>by cases h;exact h2
 | _::_,_,_,_,⟨v,ws,r1,r2,r3⟩,h2=>by subst r1;exact⟨v,_,rfl,r2,Reps.append r3 h2⟩
theorem Reps.one {x:T} {v:V} (r:Rep K H x v):Reps K H [x] [v]:=⟨v,[],rfl,r,rfl⟩
theorem Reps.set {x:T} {v:V} (r:Rep K H x v):∀ {xs:List T} {vs:List V} (i:Nat),Reps K H xs vs->Reps K H (xs.set i x) (vs.set i v)
 | [],_,_,e=>by cases e;rfl
 | _::_,_,0,⟨_,ws,r1,r2,r3⟩=>by subst r1;exact⟨v,ws,rfl,r,r3⟩
 | _::_,_,i+1,⟨u,ws,r1,r2,r3⟩=>by subst r1;exact⟨u,_,rfl,r2,Reps.set r i r3⟩
theorem Reps.take:∀ {xs:List T} {vs:List V} (n:Nat),Reps K H xs vs->Reps K H (xs.take n) (vs.take n)
 | _,_,0,_=>by simp[Reps]
 | [],_,_+1,h=>by cases h;simp[Reps]
 | _::_,_,n+1,⟨u,ws,r1,r2,r3⟩=>by subst r1;exact⟨u,_,rfl,r2,Reps.take n r3⟩
theorem Reps.drop:∀ {xs:List T} {vs:List V} (n:Nat),Reps K H xs vs->Reps K H (xs.drop n) (vs.drop n)
 | _,_,0,h=>h
 | [],_,_+1,h=>by cases h;simp[Reps]
 | _::_,_,n+1,⟨u,ws,r1,r2,r3⟩=>by subst r1;exact Reps.drop n r3
theorem Reps.rep {xs:List T} {vs:List V} (r:Reps K H xs vs):∀n:Nat,Reps K H (List.replicate n xs).flatten (List.replicate n vs).flatten
 | 0=>by simp[Reps]
 | n+1=>by simpa[lKr] using r.append (Reps.rep r n)
theorem Reps.atI {xs:List T} {vs:List V} {i:Int} {x:T} (r:Reps K H xs vs) (h:atI xs i=some x):∃v,atI vs i=some v/\Rep K H x v:=by
 unfold L2.atI at h ⊢
 rw[<-r.length]
 cases e:ixN xs.length i with
 | none=>rw[e] at h;cases h
 | some j=>rw[e] at h;exact r.get h
end
inductive GO where
 | lst (xs:List T) | dct (kvs:List (TKey×T)) | dck (kvs:List (Key×T)) | fdc (kvs:List (TKey×T)) | ins (cn:Str) (fs:List (Str×T))
noncomputable abbrev Gp:=Addr->Option GO
noncomputable def gup (G:Gp) (a:Addr) (o:GO):Gp:=fun b=>if b=a then some o else G b
theorem jJi {G:Gp} {a:Addr} {o:GO}:gup G a o a=some o:=by simp[gup]
theorem jJu {G:Gp} {a b:Addr} {o:GO} (h:b≠a):gup G a o b=G b:=by simp[gup,h]
theorem gup_gup {G:Gp} {a:Addr} {o o':GO}:gup (gup G a o) a o'=gup G a o':=by funext b;by_cases h:b=a<;>simp[gup,h]
noncomputable def asL:Option GO->Option (List T)
 | some (.lst xs)=>some xs
 | _=>none
noncomputable def seqT (G:Gp):T->Option (List T)
 | .tup xs=>some xs
 | .scr xs=>some xs
 | .ref a=>asL (G a)
 | _=>none
noncomputable def PKV {κ:Type} (K:PySem.W.Frag) (H:Hp):List (κ×T)->List (κ×V)->Prop:=Paired fun p q=>p.1=q.1/\Rep K H p.2 q.2
noncomputable def GOk (K:PySem.W.Frag) (H:Hp) (a:Addr):GO->Prop
 | .lst xs=>∃vs,H a=some (.lst vs)/\Reps K H xs vs
 | .dct kvs=>∃ws,H a=some (.dT ws)/\PKV K H kvs ws
 | .dck kvs=>∃ws,H a=some (.dK ws)/\PKV K H kvs ws
 | .fdc kvs=>∃ob ws,H a=some (.frz ob (.dT ws))/\PKV K H kvs ws
 | .ins cn fs=>∃C dx ws,H a=some (.ins C dx ws)/\PySem.W.nsIn K mainGlobals cn=some (some (.ref C))/\PKV K H fs ws
def GRel (K:PySem.W.Frag) (H:Hp) (G:Gp):Prop:=∀a o,G a=some o->GOk K H a o
section
variable {K:PySem.W.Frag} {H H':Hp} {G:Gp} {a:Addr}
theorem PKV.mono {κ:Type} {kvs:List (κ×T)} {ws:List (κ×V)} (e:Ext H H') (h:PKV K H kvs ws):PKV K H' kvs ws:=Paired.mapP h fun _ _ z=>⟨z.1,Rep.mono e _ z.2⟩
theorem GOk.move {o:GO} (h:GOk K H a o) (e:Ext H H') (ha:H' a=H a):GOk K H' a o:=by
 cases o with
 | lst xs=>obtain⟨vs,h1,h2⟩:=h;exact⟨vs,ha.trans h1,Reps.mono e _ h2⟩
 | dct kvs=>obtain⟨vs,h1,h2⟩:=h;exact⟨vs,ha.trans h1,h2.mono e⟩
 | dck kvs=>obtain⟨vs,h1,h2⟩:=h;exact⟨vs,ha.trans h1,h2.mono e⟩
 | fdc kvs=>obtain⟨ob,vs,h1,h2⟩:=h;exact⟨ob,vs,ha.trans h1,h2.mono e⟩
 | ins cn fs=>obtain⟨C,dx,ws,h1,h2,h3⟩:=h;exact⟨C,dx,ws,ha.trans h1,h2,h3.mono e⟩
theorem GOk.some {o:GO} (h:GOk K H a o):H a≠none:=by
 cases o with
 | lst xs=>obtain⟨vs,h1,h2⟩:=h;rw[h1];simp
 | dct kvs=>obtain⟨vs,h1,h2⟩:=h;rw[h1];simp
 | dck kvs=>obtain⟨vs,h1,h2⟩:=h;rw[h1];simp
 | fdc kvs=>obtain⟨ob,vs,h1,h2⟩:=h;rw[h1];simp
 | ins cn fs=>obtain⟨C,dx,ws,h1,h2,h3⟩:=h;rw[h1];simp
theorem GRel.fresh (g:GRel K H G) (h:H a=none):G a=none:=by
 cases e:G a with
 | none=>rfl
 | some o=>exact absurd h (g a o e).some
def Soft (o:Option HO):Prop:=o=none\/(∃xs,o=some (.lst xs))\/(∃kvs,o=some (.dK kvs))\/(∃kvs,o=some (.dT kvs))\/∃C dx fs,o=some (.ins C dx fs)
theorem Ext.upd {o:HO} (h:Soft (H a)):Ext H (L2.upd H a o):=by
 refine⟨fun b xs e=> ?_,fun b ob u e=> ?_⟩
 ·rw[jKx];exact e
  rintro rfl;rw[e] at h;rcases h with h | ⟨_,h⟩ | ⟨_,h⟩ | ⟨_,h⟩ | ⟨_,_,_,h⟩<;>cases h
 ·rw[jKx];exact e
  rintro rfl;rw[e] at h;rcases h with h | ⟨_,h⟩ | ⟨_,h⟩ | ⟨_,h⟩ | ⟨_,_,_,h⟩<;>cases h
theorem GRel.upd {o:HO} {go:GO} (g:GRel K H G) (h:Soft (H a)) (n:GOk K (L2.upd H a o) a go):GRel K (L2.upd H a o) (gup G a go):=by
 intro b u e
 by_cases hb:b=a
 ·subst hb;rw[jJi] at e;cases e;exact n
 ·rw[jJu hb] at e;exact (g b u e).move (Ext.upd h) (jKx hb)
theorem Soft.none (h:H a=none):Soft (H a):= .inl h
theorem Soft.lst {xs:List V} (h:H a=some (.lst xs)):Soft (H a):= .inr (.inl ⟨xs,h⟩)
theorem Soft.dT {xs:List (TKey×V)} (h:H a=some (.dT xs)):Soft (H a):= .inr (.inr (.inr (.inl ⟨xs,h⟩)))
theorem Soft.dK {xs:List (Key×V)} (h:H a=some (.dK xs)):Soft (H a):= .inr (.inr (.inl ⟨xs,h⟩))
theorem GRel.tupNew {vs:List V} (g:GRel K H G) (h:H a=Option.none):GRel K (L2.upd H a (.tup vs)) G:=by
 intro b u e
 have hb:b≠a:=by rintro rfl;exact (g b u e).some h
 exact (g b u e).move (Ext.upd (.none h)) (jKx hb)
theorem Rep.tupNew {xs:List T} {vs:List V} (r:Reps K H xs vs) (h:H a=Option.none):Rep K (L2.upd H a (.tup vs)) (.tup xs) (.ref a):=
 ⟨a,vs,rfl,jUc,Reps.mono (Ext.upd (.none h)) _ r⟩
theorem GRel.lstNew {xs:List T} {vs:List V} (g:GRel K H G) (r:Reps K H xs vs) (h:Soft (H a)):GRel K (L2.upd H a (.lst vs)) (gup G a (.lst xs)):=
 g.upd h ⟨vs,jUc,Reps.mono (Ext.upd h) _ r⟩
theorem GRel.lst {xs:List T} (g:GRel K H G) (h:G a=some (.lst xs)):∃vs,H a=some (.lst vs)/\Reps K H xs vs:=g a _ h
end
noncomputable abbrev St3:=List (Option T)
def SRel (K:PySem.W.Frag) (H:Hp) (σ:L2.St) (τ:St3):Prop:=σ.length=τ.length/\∀(i:Nat) (t:T),τ[i]? =some (some t)->∃v,σ[i]? =some (some v)/\Rep K H t v
theorem SRel.mono {K:PySem.W.Frag} {H H':Hp} {σ:L2.St} {τ:St3} (e:Ext H H') (h:SRel K H σ τ):SRel K H' σ τ:=
 ⟨h.1,fun i t q=>let ⟨v,h1,h2⟩:=h.2 i t q;⟨v,h1,Rep.mono e _ h2⟩⟩
theorem SRel.set {K:PySem.W.Frag} {H:Hp} {σ:L2.St} {τ:St3} {t:T} {v:V} (h:SRel K H σ τ) (i:Nat) (r:Rep K H t v):SRel K H (σ.set i (some v)) (τ.set i (some t)):=by
 refine⟨by simp[h.1],fun j u q=> ?_⟩
 by_cases hj:i=j
 ·subst hj
  have hl:i<τ.length:=by
   rcases lJ5 i τ.length with z | z
   ·exact z
   ·rw[lJk (by simpa using z)] at q;cases q
  rw[lJ6 hl] at q
  cases q
  exact⟨v,by rw[lJ6 (by rw[h.1];exact hl)],r⟩
 ·rw[lJ3 hj] at q ⊢
  exact h.2 j u q
def Inv3 (X:Cx) (pins:List (Addr×Obj)) (τ:St3) (G:Gp) (H:Hp) (s:Shared):Prop:=∃ σ,Inv X pins σ H s/\SRel X.K H σ τ/\GRel X.K H G
noncomputable abbrev VK3:=T->Gp->Prop
noncomputable abbrev TE3:=St3->Gp->VK3->Prop
noncomputable abbrev TT3:=St3->Gp->(Bool->Gp->Prop)->Prop
noncomputable abbrev TA3:=St3->Gp->(List T->Gp->Prop)->Prop
structure Ends3 where
 nx:St3->Gp->Prop
 rt:VK3
 bk:St3->Gp->Prop:=fun _ _=>False
 ct:St3->Gp->Prop:=fun _ _=>False
noncomputable abbrev TS3:=Ends3->St3->Gp->Prop
def RU (K:PySem.W.Frag) (H:Hp) (t:T) (u:Value):Prop:=∃v,Rep K H t v/\RelV v u
def RUs (K:PySem.W.Frag) (H:Hp) (ts:List T) (us:List Value):Prop:=∃vs,Reps K H ts vs/\Vals vs us
theorem RU.mono {K:PySem.W.Frag} {H H':Hp} {t:T} {u:Value} (e:Ext H H') (h:RU K H t u):RU K H' t u:=let ⟨v,h1,h2⟩:=h;⟨v,Rep.mono e _ h1,h2⟩
def EP3 (X:Cx) (pins:List (Addr×Obj)) (τ:St3) (H:Hp) (Q:VK3) (u:Value) (s':Shared):Prop:=∃t G' H',Ext H H'/\Inv3 X pins τ G' H' s'/\RU X.K H' t u/\Q t G'
def TP3 (X:Cx) (pins:List (Addr×Obj)) (τ:St3) (H:Hp) (Q:Bool->Gp->Prop) (b:Bool) (s':Shared):Prop:=∃G' H',Ext H H'/\Inv3 X pins τ G' H' s'/\Q b G'
def AP3 (X:Cx) (pins:List (Addr×Obj)) (τ:St3) (H:Hp) (Q:List T->Gp->Prop) (us:List Value) (s':Shared):Prop:=∃ts G' H',Ext H H'/\Inv3 X pins τ G' H' s'/\RUs X.K H' ts us/\Q ts G'
def SP3 (X:Cx) (pins:List (Addr×Obj)) (H:Hp) (D:Ends3) (f:Flow) (s':Shared):Prop:=
 match f with
 | .next=>∃ τ' G' H',Ext H H'/\Inv3 X pins τ' G' H' s'/\D.nx τ' G'
 | .brk=>∃ τ' G' H',Ext H H'/\Inv3 X pins τ' G' H' s'/\D.bk τ' G'
 | .cont=>∃ τ' G' H',Ext H H'/\Inv3 X pins τ' G' H' s'/\D.ct τ' G'
 | .ret u=>∃t τ' G' H',Ext H H'/\Inv3 X pins τ' G' H' s'/\RU X.K H' t u/\D.rt t G'
def PE3 (X:Cx) (e:Expr) (t:TE3):Prop:=∀(pins:List (Addr×Obj)) (s:Shared) (τ:St3) (G:Gp) (H:Hp) (Q:VK3),Inv3 X pins τ G H s->t τ G Q->wpAny (model X.prog X.w) X.A (eval e X.env) (EP3 X pins τ H Q) X.xe s
def PT3 (X:Cx) (e:Expr) (t:TT3):Prop:=∀(pins:List (Addr×Obj)) (s:Shared) (τ:St3) (G:Gp) (H:Hp) (Q:Bool->Gp->Prop),Inv3 X pins τ G H s->t τ G Q->wpAny (model X.prog X.w) X.A (isTrue e X.env (eval e X.env)) (TP3 X pins τ H Q) X.xe s
def PW3 (X:Cx) (e:Expr) (t:TT3):Prop:=∀(whole:Sem Value) (pins:List (Addr×Obj)) (s:Shared) (τ:St3) (G:Gp) (H:Hp) (Q:Bool->Gp->Prop),Inv3 X pins τ G H s->t τ G Q->wpAny (model X.prog X.w) X.A (isTrue e X.env whole) (TP3 X pins τ H Q) X.xe s
theorem PW3.pt {X:Cx} {e:Expr} {t:TT3} (h:PW3 X e t):PT3 X e t:=h _
def PA3 (X:Cx) (es:List Expr) (t:TA3):Prop:=∀(pos:Pos) (pins:List (Addr×Obj)) (s:Shared) (τ:St3) (G:Gp) (H:Hp) (Q:List T->Gp->Prop),Inv3 X pins τ G H s->t τ G Q->wpAny (model X.prog X.w) X.A (spliced (backTo pos (starEach es X.env))) (AP3 X pins τ H Q) X.xe s
def PS3 (X:Cx) (st:Stmt) (t:TS3):Prop:=∀(pins:List (Addr×Obj)) (s:Shared) (τ:St3) (G:Gp) (H:Hp) (D:Ends3),Inv3 X pins τ G H s->t D τ G->wpAny (model X.prog X.w) X.A (exec st X.env) (SP3 X pins H D) X.xe s
def PSs3 (X:Cx) (st:List Stmt) (t:TS3):Prop:=∀(pins:List (Addr×Obj)) (s:Shared) (τ:St3) (G:Gp) (H:Hp) (D:Ends3),Inv3 X pins τ G H s->t D τ G->wpAny (model X.prog X.w) X.A (execs st X.env) (SP3 X pins H D) X.xe s
section
variable {X:Cx} {pins:List (Addr×Obj)} {τ:St3} {G:Gp} {H H1:Hp} {s:Shared} {C:Prop}
theorem EP3.el {Q:VK3} {u:Value} (h:EP3 X pins τ H Q u s) (k:∀t G' H',Ext H H'->Inv3 X pins τ G' H' s->RU X.K H' t u->Q t G'->C):C:=let ⟨t,G',H',a,b,c,d⟩:=h;k t G' H' a b c d
theorem AP3.el {Q:List T->Gp->Prop} {u:List Value} (h:AP3 X pins τ H Q u s) (k:∀t G' H',Ext H H'->Inv3 X pins τ G' H' s->RUs X.K H' t u->Q t G'->C):C:=let ⟨t,G',H',a,b,c,d⟩:=h;k t G' H' a b c d
theorem TP3.el {Q:Bool->Gp->Prop} {u:Bool} (h:TP3 X pins τ H Q u s) (k:∀G' H',Ext H H'->Inv3 X pins τ G' H' s->Q u G'->C):C:=let ⟨G',H',a,b,c⟩:=h;k G' H' a b c
theorem Inv3.el (h:Inv3 X pins τ G H s) (k:∀ σ,Inv X pins σ H s->SRel X.K H σ τ->GRel X.K H G->C):C:=let ⟨σ,a,b,c⟩:=h;k σ a b c
theorem RU.el {K:PySem.W.Frag} {t:T} {u:Value} (h:RU K H t u) (k:∀v,Rep K H t v->RelV v u->C):C:=let ⟨v,a,b⟩:=h;k v a b
theorem RUs.el {K:PySem.W.Frag} {t:List T} {u:List Value} (h:RUs K H t u) (k:∀v,Reps K H t v->Vals v u->C):C:=let ⟨v,a,b⟩:=h;k v a b
end
section
variable {X:Cx} {pins:List (Addr×Obj)} {τ:St3} {G:Gp} {H H1:Hp} {s:Shared}
theorem EP3.ext {Q:VK3} {u:Value} (e:Ext H H1) (h:EP3 X pins τ H1 Q u s):EP3 X pins τ H Q u s:=let ⟨t,G',H',a,b⟩:=h;⟨t,G',H',e.trans a,b⟩
theorem TP3.ext {Q:Bool->Gp->Prop} {u:Bool} (e:Ext H H1) (h:TP3 X pins τ H1 Q u s):TP3 X pins τ H Q u s:=let ⟨G',H',a,b⟩:=h;⟨G',H',e.trans a,b⟩
theorem SP3.ext {D:Ends3} {f:Flow} (e:Ext H H1) (h:SP3 X pins H1 D f s):SP3 X pins H D f s:=by
 cases f with
 | next=>obtain⟨τ',G',H',a,b⟩:=h;exact⟨τ',G',H',e.trans a,b⟩
 | brk=>obtain⟨τ',G',H',a,b⟩:=h;exact⟨τ',G',H',e.trans a,b⟩
 | cont=>obtain⟨τ',G',H',a,b⟩:=h;exact⟨τ',G',H',e.trans a,b⟩
 | ret u=>obtain⟨t,τ',G',H',a,b⟩:=h;exact⟨t,τ',G',H',e.trans a,b⟩
theorem bin3 {a b:Expr} {ta tb:TE3} (ha:PE3 X a ta) (hb:PE3 X b tb) {R:T->T->Gp->Prop} (I:Inv3 X pins τ G H s) (h:ta τ G fun x G1=>tb τ G1 fun y G2=>R x y G2)
  {α:Type} {Q:α->Shared->Prop} {f:Value->Value->Sem α}
  (hf:∀v u s2 x y G2 H2,Ext H H2->Inv3 X pins τ G2 H2 s2->RU X.K H2 x v->RU X.K H2 y u->R x y G2->wpAny (model X.prog X.w) X.A (f v u) Q X.xe s2):
  wpAny (model X.prog X.w) X.A (eval a X.env) (fun v s₁=>wpAny (model X.prog X.w) X.A (eval b X.env) (fun u s₂=>wpAny (model X.prog X.w) X.A (f v u) Q X.xe s₂) X.xe s₁) X.xe s:=by
 refine thn (ha pins s τ G H _ I h) fun v s1 w_=>w_.el fun x G1 H1 e1 I1 r1 q1=> ?_
 refine thn (hb pins s1 τ G1 H1 _ I1 q1) fun u s2 w_=>w_.el fun y G2 H2 e2 I2 r2 q2=> ?_
 exact hf v u s2 x y G2 H2 (e1.trans e2) I2 (r1.mono e2) r2 q2
noncomputable def up (K:PySem.W.Frag) (H:Hp) (Q:VK3):VK:=fun v H'=>∃t G',Ext H H'/\GRel K H' G'/\Rep K H' t v/\Q t G'
theorem jZq {σ:L2.St} {Q:VK3} {u:Value} (hs:SRel X.K H σ τ) (h:EP X pins σ (up X.K H Q) u s):EP3 X pins τ H Q u s:=
 let ⟨v,H',I',r',t,G',e,g',rt,q⟩:=h
 ⟨t,G',H',e,⟨σ,I',hs.mono e,g'⟩,⟨v,rt,r'⟩,q⟩
end
end L3
namespace L3
open PySem PySem.Spec PyProof.Rows L2
section
variable {X:Cx} {pos:Pos}
noncomputable def tVar (i:Nat):TE3:=fun τ G Q=>∃t,τ[i]? =some (some t)/\Q t G
noncomputable def tC (t:T):TE3:=fun _ G Q=>Q t G
theorem jJb (i:Nat) {x:Str} (hN:X.N[i]? =some x:=by rfl) (hv:Vis X.env.scope x:=by first | exact Or.inl rfl | exact Or.inr (Or.inl rfl) | exact Or.inr (Or.inr rfl))
  (hd:(x == ("__debug__":Str))=false:=by decide) (hcd:(x == ("__classdict__":Str))=false:=by decide):PE3 X (.Name x pos) (tVar i):=by
 rintro pins s τ G H Q ⟨σ,I,hs,hg⟩ ⟨t,e,q⟩
 obtain⟨v,ev,rv⟩:=hs.2 i t e
 exact thn (pe_var hN hv hd hcd pins s σ H (up X.K H Q) I ⟨v,ev,t,G,.refl H,hg,rv,q⟩) fun u s' h=>jZq hs h
theorem jJq {i j}:PE3 X (.Constant (.int i) j pos) (tC (.int i)):=fun pins s τ G H Q ⟨σ,I,hs,hg⟩ q=>
 thn (pe_int pins s σ H (up X.K H Q) I ⟨.int i,G,.refl H,hg,rfl,q⟩) fun u s' h=>jZq hs h
theorem e_bl {b j}:PE3 X (.Constant (.bool b) j pos) (tC (.bl b)):=fun pins s τ G H Q ⟨σ,I,hs,hg⟩ q=>
 thn (pe_bl pins s σ H (up X.K H Q) I ⟨.bl b,G,.refl H,hg,rfl,q⟩) fun u s' h=>jZq hs h
theorem e_non {j}:PE3 X (.Constant .none j pos) (tC .non):=fun pins s τ G H Q ⟨σ,I,hs,hg⟩ q=>
 thn (pe_non pins s σ H (up X.K H Q) I ⟨.non,G,.refl H,hg,rfl,q⟩) fun u s' h=>jZq hs h
end
noncomputable abbrev R3:=T->T->Gp->VK3->Prop
def Op3 (X:Cx) (f:Value->Value->Sem Value) (r:R3):Prop:=
 ∀(pins:List (Addr×Obj)) (s:Shared) (τ:St3) (G:Gp) (H:Hp) (x y:T) (v u:Value) (Q:VK3),Inv3 X pins τ G H s->RU X.K H x v->RU X.K H y u->r x y G Q->wpAny (model X.prog X.w) X.A (f v u) (EP3 X pins τ H Q) X.xe s
def Un3 (X:Cx) (f:Value->Sem Value) (r:T->Gp->VK3->Prop):Prop:=
 ∀(pins:List (Addr×Obj)) (s:Shared) (τ:St3) (G:Gp) (H:Hp) (x:T) (v:Value) (Q:VK3),Inv3 X pins τ G H s->RU X.K H x v->r x G Q->wpAny (model X.prog X.w) X.A (f v) (EP3 X pins τ H Q) X.xe s
def Call3 (X:Cx) (f:Value) (r:List T->Gp->VK3->Prop):Prop:=
 ∀(pins:List (Addr×Obj)) (s:Shared) (τ:St3) (G:Gp) (H:Hp) (xs:List T) (us:List Value) (Q:VK3),Inv3 X pins τ G H s->RUs X.K H xs us->r xs G Q->wpAny (model X.prog X.w) X.A (call f us) (EP3 X pins τ H Q) X.xe s
def Mt3 (X:Cx) (id:String) (r:T->List T->Gp->VK3->Prop):Prop:=
 ∀(pins:List (Addr×Obj)) (s:Shared) (τ:St3) (G:Gp) (H:Hp) (x:T) (xs:List T) (v:Value) (us:List Value) (Q:VK3),Inv3 X pins τ G H s->RU X.K H x v->RUs X.K H xs us->r x xs G Q->
  wpAny (model X.prog X.w) X.A (call (.builtin id) (v::us)) (EP3 X pins τ H Q) X.xe s
def Ix3 (X:Cx) (r:R3):Prop:=
 ∀(value slice:Expr) (pins:List (Addr×Obj)) (s:Shared) (τ:St3) (G:Gp) (H:Hp) (x y:T) (v u:Value) (Q:VK3),Inv3 X pins τ G H s->RU X.K H x v->RU X.K H y u->r x y G Q->
  subscripted slice false v u=operate [v,u] (getItem v u)->wpAny (model X.prog X.w) X.A (subscriptTail value slice v u) (EP3 X pins τ H Q) X.xe s
def Set3 (X:Cx) (r:T->T->T->Gp->(Gp->Prop)->Prop):Prop:=
 ∀(pins:List (Addr×Obj)) (s:Shared) (τ:St3) (G:Gp) (H:Hp) (o i v:T) (ov iv u:Value) (Q:Gp->Prop),Inv3 X pins τ G H s->RU X.K H o ov->RU X.K H i iv->RU X.K H v u->r o i v G Q->
  wpAny (model X.prog X.w) X.A (setItem ov iv u) (fun _ s'=>∃G' H',Ext H H'/\Inv3 X pins τ G' H' s'/\Q G') X.xe s
def Tru3 (X:Cx) (r:T->Gp->(Bool->Gp->Prop)->Prop):Prop:=
 ∀(pins:List (Addr×Obj)) (s:Shared) (τ:St3) (G:Gp) (H:Hp) (x:T) (v:Value) (Q:Bool->Gp->Prop),Inv3 X pins τ G H s->RU X.K H x v->r x G Q->wpAny (model X.prog X.w) X.A (truthy v) (TP3 X pins τ H Q) X.xe s
section
variable {X:Cx}
theorem Op3.of {f:Value->Value->Sem Value} {r:R2} {r3:R3} (h:OpR X f r)
  (hr:∀H G x y a b Q,GRel X.K H G->Rep X.K H x a->Rep X.K H y b->r3 x y G Q->r a b H (up X.K H Q)):Op3 X f r3:=by
 rintro pins s τ G H x y v u Q ⟨σ,I,hs,hg⟩ ⟨a,ra,rv⟩ ⟨b,rb,ru⟩ q
 exact thn (h pins s σ H a b v u _ I rv ru (hr H G x y a b Q hg ra rb q)) fun u s' h=>jZq hs h
theorem Un3.of {f:Value->Sem Value} {r:V->Hp->VK->Prop} {r3:T->Gp->VK3->Prop} (h:UnR X f r)
  (hr:∀H G x a Q,GRel X.K H G->Rep X.K H x a->r3 x G Q->r a H (up X.K H Q)):Un3 X f r3:=by
 rintro pins s τ G H x v Q ⟨σ,I,hs,hg⟩ ⟨a,ra,rv⟩ q
 exact thn (h pins s σ H a v _ I rv (hr H G x a Q hg ra q)) fun u s' h=>jZq hs h
theorem Call3.of {f:Value} {r:List V->Hp->VK->Prop} {r3:List T->Gp->VK3->Prop} (h:kU8 X f r)
  (hr:∀H G xs as Q,GRel X.K H G->Reps X.K H xs as->r3 xs G Q->r as H (up X.K H Q)):Call3 X f r3:=by
 rintro pins s τ G H xs us Q ⟨σ,I,hs,hg⟩ ⟨as,ra,rv⟩ q
 exact thn (h pins s σ H as us _ I rv (hr H G xs as Q hg ra q)) fun u s' h=>jZq hs h
theorem Mt3.of {id:String} {r:V->List V->Hp->VK->Prop} {r3:T->List T->Gp->VK3->Prop} (h:MtR X id r)
  (hr:∀H G x xs a as Q,GRel X.K H G->Rep X.K H x a->Reps X.K H xs as->r3 x xs G Q->r a as H (up X.K H Q)):Mt3 X id r3:=by
 rintro pins s τ G H x xs v us Q ⟨σ,I,hs,hg⟩ ⟨a,ra,rv⟩ ⟨as,ras,rvs⟩ q
 exact thn (h pins s σ H a as v us _ I rv rvs (hr H G x xs a as Q hg ra ras q)) fun u s' h=>jZq hs h
theorem Ix3.of {r:R2} {r3:R3} (h:IxR X r)
  (hr:∀H G x y a b Q,GRel X.K H G->Rep X.K H x a->Rep X.K H y b->r3 x y G Q->r a b H (up X.K H Q)):Ix3 X r3:=by
 rintro value slice pins s τ G H x y v u Q ⟨σ,I,hs,hg⟩ ⟨a,ra,rv⟩ ⟨b,rb,ru⟩ q hh
 exact thn (h value slice pins s σ H a b v u _ I rv ru (hr H G x y a b Q hg ra rb q) hh) fun u s' h=>jZq hs h
theorem Set3.of {t:TSet} {r3:T->T->T->Gp->(Gp->Prop)->Prop} (h:PSet X t)
  (hr:∀H G o i v a b c Q,GRel X.K H G->Rep X.K H o a->Rep X.K H i b->Rep X.K H v c->r3 o i v G Q->t a b c H (fun H'=>∃G',Ext H H'/\GRel X.K H' G'/\Q G')):Set3 X r3:=by
 rintro pins s τ G H o i v ov iv u Q ⟨σ,I,hs,hg⟩ ⟨a,ra,rv⟩ ⟨b,rb,ru⟩ ⟨c,rc,rw'⟩ q
 exact thn (h pins s σ H a b c ov iv u _ I rv ru rw' (hr H G o i v a b c Q hg ra rb rc q)) fun _ s' ⟨H',I',G',e,g',q'⟩=>⟨G',H',e,⟨σ,I',hs.mono e,g'⟩,q'⟩
theorem Tru3.of {r:V->Hp->(Bool->Hp->Prop)->Prop} {r3:T->Gp->(Bool->Gp->Prop)->Prop} (h:TruR X r)
  (hr:∀H G x a Q,GRel X.K H G->Rep X.K H x a->r3 x G Q->r a H (fun b H'=>H'=H/\Q b G)):Tru3 X r3:=by
 rintro pins s τ G H x v Q ⟨σ,I,hs,hg⟩ ⟨a,ra,rv⟩ q
 exact thn (h pins s σ H a v _ I rv (hr H G x a Q hg ra q)) fun b s' ⟨H',I',e,q'⟩=>by
  subst e;exact⟨G,H',.refl _,⟨σ,I',hs,hg⟩,q'⟩
theorem Op3.or {f:Value->Value->Sem Value} {r r':R3} (h:Op3 X f r) (h':Op3 X f r'):Op3 X f (fun x y G Q=>r x y G Q\/r' x y G Q):=by
 intro pins s τ G H x y v u Q I rx ry q
 rcases q with q | q
 ·exact h pins s τ G H x y v u Q I rx ry q
 ·exact h' pins s τ G H x y v u Q I rx ry q
noncomputable def rI (C:Int->Int->Prop) (g:Int->Int->T):R3:=fun x y G Q=>∃i j,x= .int i/\y= .int j/\C i j/\Q (g i j) G
noncomputable def rI0 (g:Int->Int->T):R3:=fun x y G Q=>∃i j,x= .int i/\y= .int j/\Q (g i j) G
theorem o_I {f:Value->Value->Sem Value} {C:Int->Int->Prop} {g:Int->Int->V} {g':Int->Int->T} (h:OpR X f (L2.rI C g)) (hg':∀K H i j,Rep K H (g' i j) (g i j)):Op3 X f (rI C g'):=
 Op3.of h fun H G x y a b Q hg ra rb ⟨i,j,ex,ey,c,q⟩=>by
  subst ex;subst ey
  cases (show a= .int i from ra);cases (show b= .int j from rb)
  exact⟨i,j,rfl,rfl,c,g' i j,G,.refl H,hg,hg' _ _ i j,q⟩
theorem o_I0 {f:Value->Value->Sem Value} {g:Int->Int->V} {g':Int->Int->T} (h:OpR X f (L2.rI0 g)) (hg':∀K H i j,Rep K H (g' i j) (g i j)):Op3 X f (rI0 g'):=
 Op3.of h fun H G x y a b Q hg ra rb ⟨i,j,ex,ey,q⟩=>by
  subst ex;subst ey
  cases (show a= .int i from ra);cases (show b= .int j from rb)
  exact⟨i,j,rfl,rfl,g' i j,G,.refl H,hg,hg' _ _ i j,q⟩
theorem o_add:Op3 X (binaryOp .Add) (rI0 fun i j=> .int (i+j)):=o_I0 op_add fun _ _ _ _=>rfl
theorem o_sub:Op3 X (binaryOp .Sub) (rI0 fun i j=> .int (i-j)):=o_I0 op_sub fun _ _ _ _=>rfl
theorem o_mul:Op3 X (binaryOp .Mult) (rI CMul fun i j=> .int (i*j)):=o_I op_mul fun _ _ _ _=>rfl
theorem o_fdiv:Op3 X (binaryOp .FloorDiv) (rI CDiv fun i j=> .int (i / j)):=o_I op_fdiv fun _ _ _ _=>rfl
theorem kJ6:Op3 X (binaryOp .Mod) (rI (fun _ j=>0<j) fun i j=> .int (i%j)):=o_I op_mod fun _ _ _ _=>rfl
theorem o_pow:Op3 X (binaryOp .Pow) (rI CPow fun i j=> .int (i^j.toNat)):=o_I op_pow fun _ _ _ _=>rfl
theorem o_lt:Op3 X (compareOp .Lt) (rI0 fun i j=> .bl (decide (i<j))):=o_I0 op_lt fun _ _ _ _=>rfl
theorem o_le:Op3 X (compareOp .LtE) (rI0 fun i j=> .bl (decide (i<=j))):=o_I0 op_le fun _ _ _ _=>rfl
theorem o_gt:Op3 X (compareOp .Gt) (rI0 fun i j=> .bl (decide (j<i))):=o_I0 op_gt fun _ _ _ _=>rfl
theorem o_ge:Op3 X (compareOp .GtE) (rI0 fun i j=> .bl (decide (j<=i))):=o_I0 op_ge fun _ _ _ _=>rfl
noncomputable def isNon:T->Bool
 | .non=>true
 | _=>false
theorem Rep.non_iff {K:PySem.W.Frag} {H:Hp} {x:T} {a:V} (r:Rep K H x a):decide (a= .non)=isNon x:=by
 cases x with
 | non=>cases (show a= .non from r);rfl
 | bl b=>cases (show a= .bl b from r);rfl
 | int b=>cases (show a= .int b from r);rfl
 | str b=>cases (show a= .str b from r);rfl
 | ref b=>cases (show a= .ref b from r);rfl
 | ty b=>cases (show a= .ty b from r);rfl
 | tup b=>obtain⟨_,_,e,_⟩:=(show ∃c vs,a= .ref c/\_ from r);subst e;rfl
 | scr b=>obtain⟨_,_,e,_⟩:=(show ∃c vs,a= .ref c/\_ from r);subst e;rfl
theorem o_isN:Op3 X (compareOp .Is) (fun x y G Q=>y= .non/\Q (.bl (isNon x)) G):=
 Op3.of op_isN fun H G x y a b Q hg ra rb ⟨ey,q⟩=>by
  subst ey;cases (show b= .non from rb)
  exact⟨rfl,.bl (isNon x),G,.refl H,hg,by rw[ra.non_iff];rfl,q⟩
end
noncomputable def tOp (r:R3) (ta tb:TE3):TE3:=fun τ G Q=>ta τ G fun x G1=>tb τ G1 fun y G2=>r x y G2 Q
noncomputable def tUn (r:T->Gp->VK3->Prop) (ta:TE3):TE3:=fun τ G Q=>ta τ G fun x G1=>r x G1 Q
noncomputable def jKw (t:TE3):TT3:=fun τ G Q=>t τ G fun x G1=>∃c,x= .bl c/\Q c G1
noncomputable def tAnd (t u:TT3):TT3:=fun τ G Q=>t τ G fun c G1=>if c=true then u τ G1 Q else Q false G1
noncomputable def tOr (t u:TT3):TT3:=fun τ G Q=>t τ G fun c G1=>if c=true then Q true G1 else u τ G1 Q
noncomputable def tNot (t:TT3):TT3:=fun τ G Q=>t τ G fun c G1=>Q (!c) G1
noncomputable def tAndV (ta tb:TE3):TE3:=fun τ G Q=>ta τ G fun x G1=>∃c,x= .bl c/\if c=true then tb τ G1 Q else Q (.bl false) G1
noncomputable def tOrV (ta tb:TE3):TE3:=fun τ G Q=>ta τ G fun x G1=>∃c,x= .bl c/\if c=true then Q (.bl true) G1 else tb τ G1 Q
noncomputable def tNotV (ta:TE3):TE3:=fun τ G Q=>ta τ G fun x G1=>∃c,x= .bl c/\Q (.bl (!c)) G1
noncomputable def tIf (t:TT3) (ta tb:TE3):TE3:=fun τ G Q=>t τ G fun c G1=>if c=true then ta τ G1 Q else tb τ G1 Q
noncomputable def tNil:TA3:=fun _ G Q=>Q [] G
noncomputable def jJc (ta:TE3) (tr:TA3):TA3:=fun τ G Q=>ta τ G fun x G1=>tr τ G1 fun xs G2=>Q (x::xs) G2
noncomputable def tTup (t:TA3):TE3:=fun τ G Q=>t τ G fun xs G1=>xs.length<=sizeLine/\Q (.tup xs) G1
noncomputable def tLst (t:TA3):TE3:=fun τ G Q=>t τ G fun xs G1=>xs.length<=sizeLine/\∀p,G1 p=none->Q (.ref p) (gup G1 p (.lst xs))
noncomputable def tCB (r:List T->Gp->VK3->Prop) (t:TA3):TE3:=fun τ G Q=>t τ G fun xs G1=>r xs G1 Q
section
variable {X:Cx} {a b c:Expr} {ta tb tc:TE3} {tA tB:TT3} {pos:Pos} {rest es:List Expr} {t:TA3}
theorem e_op {op:Operator} {r:R3} (ho:Op3 X (binaryOp op) r) (ha:PE3 X a ta) (hb:PE3 X b tb):PE3 X (.BinOp a op b pos) (tOp r ta tb):=by
 intro pins s τ G H Q I h
 exact wpAny_BinOp (bin3 ha hb I h fun v u s2 x y G2 H2 e I2 rx ry q=>thn (ho pins s2 τ G2 H2 x y v u Q I2 rx ry q) fun _ _ z=>z.ext e)
theorem e_un {op:UnaryOp} {r:T->Gp->VK3->Prop} (ho:Un3 X (unaryOp op) r) (ha:PE3 X a ta):PE3 X (.UnaryOp op a pos) (tUn r ta):=by
 intro pins s τ G H Q I h
 exact UnaryOp_ (thn (ha pins s τ G H _ I h) fun v s1 w_=>w_.el fun x G1 H1 e I1 r1 q1=>thn (ho pins s1 τ G1 H1 x v Q I1 r1 q1) fun _ _ z=>z.ext e)
theorem kU1 {op:CmpOp} {r:R3} (ho:Op3 X (compareOp op) r) (ha:PE3 X a ta) (hb:PE3 X b tb) (hm:behindInMarks op b=false):PE3 X (.Compare a [op] [b] pos) (tOp r ta tb):=by
 intro pins s τ G H Q I h
 exact wpAny_Compare1 (bin3 ha hb I h fun v u s2 x y G2 H2 e I2 rx ry q=>thn (ho pins s2 τ G2 H2 x y v u Q I2 rx ry q) fun _ _ z=>z.ext e) hm
theorem jUk {op:CmpOp} {r:R3} (ho:Op3 X (compareOp op) r) (ha:PE3 X a ta) (hb:PE3 X b tb) (hm:behindInMarks op b=false):PT3 X (.Compare a [op] [b] pos) (jKw (tOp r ta tb)):=by
 intro pins s τ G H Q I h
 refine wpAny_isTrue_Compare1 (bin3 ha hb I h fun v u s2 x y G2 H2 e I2 rx ry q=>thn (ho pins s2 τ G2 H2 x y v u _ I2 rx ry q) fun w' s3 w_=>w_.el fun z G3 H3 e3 I3 r3 ⟨k,ez,q3⟩=> ?_) hm
 subst ez
 obtain⟨v',rv',ru'⟩:=r3
 cases (show v'= .bl k from rv');cases ru'
 exact wpAny_truthy_bool ⟨G3,H3,e.trans e3,I3,q3⟩
theorem t_val {e:Expr} {t:TE3} (h:PE3 X e t) (he:∀whole,isTrue e X.env whole=(do let v <-whole;standAt e.pos;holding [v] (truthy v)):=by intro _;rfl):PT3 X e (jKw t):=by
 intro pins s τ G H Q I hw
 refine isTrue_plain (thn (h pins s τ G H _ I hw) fun v s1 w_=>w_.el fun x G1 H1 e1 I1 r1 ⟨k,ez,q1⟩=> ?_) (he _)
 subst ez
 obtain⟨v',rv',ru'⟩:=r1
 cases (show v'= .bl k from rv');cases ru'
 exact wpAny_truthy_bool ⟨G1,H1,e1,I1,q1⟩
noncomputable def tTru (r:T->Gp->(Bool->Gp->Prop)->Prop) (t:TE3):TT3:=fun τ G Q=>t τ G fun x G1=>r x G1 Q
theorem t_tru {e:Expr} {t:TE3} {r:T->Gp->(Bool->Gp->Prop)->Prop} (hr:Tru3 X r) (h:PE3 X e t) (he:∀whole,isTrue e X.env whole=(do let v <-whole;standAt e.pos;holding [v] (truthy v)):=by intro _;rfl):PT3 X e (tTru r t):=by
 intro pins s τ G H Q I hw
 exact isTrue_plain (thn (h pins s τ G H _ I hw) fun v s1 w_=>w_.el fun x G1 H1 e1 I1 r1 q1=>thn (hr pins s1 τ G1 H1 x v Q I1 r1 q1) fun _ _ z=>z.ext e1) (he _)
theorem w_and1 (ha:PT3 X a tA):PW3 X (.BoolOp .And [a] pos) tA:=by
 intro wh pins s τ G H Q I h
 refine isTrue_and (thn (ha pins s τ G H Q I h) fun c s1 e=> ?_)
 cases c with
 | true=>exact isTrue_and_nil e
 | false=>exact e
theorem w_or1 (ha:PT3 X a tA):PW3 X (.BoolOp .Or [a] pos) tA:=by
 intro wh pins s τ G H Q I h
 refine isTrue_or (thn (ha pins s τ G H Q I h) fun c s1 e=> ?_)
 cases c with
 | false=>exact isTrue_or_nil e
 | true=>exact e
theorem w_and (ha:PT3 X a tA) (hb:PW3 X (.BoolOp .And (b::rest) pos) tB):PW3 X (.BoolOp .And (a::b::rest) pos) (tAnd tA tB):=by
 intro wh pins s τ G H Q I h
 refine isTrue_and (thn (ha pins s τ G H _ I h) fun c s1 w_=>w_.el fun G1 H1 e1 I1 q1=> ?_)
 cases c with
 | true=>exact thn (hb wh pins s1 τ G1 H1 Q I1 q1) fun _ _ z=>z.ext e1
 | false=>exact⟨G1,H1,e1,I1,q1⟩
theorem w_or (ha:PT3 X a tA) (hb:PW3 X (.BoolOp .Or (b::rest) pos) tB):PW3 X (.BoolOp .Or (a::b::rest) pos) (tOr tA tB):=by
 intro wh pins s τ G H Q I h
 refine isTrue_or (thn (ha pins s τ G H _ I h) fun c s1 w_=>w_.el fun G1 H1 e1 I1 q1=> ?_)
 cases c with
 | true=>exact⟨G1,H1,e1,I1,q1⟩
 | false=>exact thn (hb wh pins s1 τ G1 H1 Q I1 q1) fun _ _ z=>z.ext e1
theorem t_not (ha:PT3 X a tA):PT3 X (.UnaryOp .Not a pos) (tNot tA):=by
 intro pins s τ G H Q I h
 exact isTrue_not (thn (ha pins s τ G H (fun c G1=>Q (!c) G1) I h) fun c s1 w_=>w_.el fun G1 H1 e1 I1 q1=>⟨G1,H1,e1,I1,q1⟩)
theorem e_one {op} {t:TE3} (h:PE3 X a t):PE3 X (.BoolOp op [a] pos) t:=fun pins s τ G H Q I hw=>BoolOp_one (h pins s τ G H Q I hw)
theorem e_and (ha:PE3 X a ta) (hb:PE3 X (.BoolOp .And (b::rest) pos) tb):PE3 X (.BoolOp .And (a::b::rest) pos) (tAndV ta tb):=by
 intro pins s τ G H Q I h
 refine BoolOp_and (thn (ha pins s τ G H _ I h) fun v s1 w_=>w_.el fun x G1 H1 e1 I1 r1 ⟨k,ez,q1⟩=> ?_)
 subst ez
 obtain⟨v',rv',ru'⟩:=r1
 cases (show v'= .bl k from rv');cases ru'
 refine wpAny_truthy_bool ?_
 cases k with
 | true=>exact thn (hb pins s1 τ G1 H1 Q I1 q1) fun _ _ z=>z.ext e1
 | false=>exact⟨.bl false,G1,H1,e1,I1,⟨.bl false,rfl,rfl⟩,q1⟩
theorem e_not (ha:PE3 X a ta):PE3 X (.UnaryOp .Not a pos) (tNotV ta):=by
 intro pins s τ G H Q I h
 refine UnaryOp_ (thn (ha pins s τ G H _ I h) fun v s1 w_=>w_.el fun x G1 H1 e1 I1 r1 ⟨k,ez,q1⟩=> ?_)
 subst ez
 obtain⟨v',rv',ru'⟩:=r1
 cases (show v'= .bl k from rv');cases ru'
 exact not_of (wpAny_truthy_bool ⟨.bl (!k),G1,H1,e1,I1,⟨.bl (!k),rfl,rfl⟩,q1⟩)
theorem e_ifExp (hc:PT3 X c tA) (ha:PE3 X a ta) (hb:PE3 X b tb):PE3 X (.IfExp c a b pos) (tIf tA ta tb):=by
 intro pins s τ G H Q I h
 refine IfExp_ (thn (hc pins s τ G H _ I h) fun k s1 w_=>w_.el fun G1 H1 e1 I1 q1=> ?_)
 cases k with
 | true=>exact thn (ha pins s1 τ G1 H1 Q I1 q1) fun _ _ z=>z.ext e1
 | false=>exact thn (hb pins s1 τ G1 H1 Q I1 q1) fun _ _ z=>z.ext e1
theorem jJd:PA3 X [] tNil:=fun _ _ _ _ G H Q I h=>Calls.spliced_nil ⟨[],G,H,.refl H,I,⟨[],rfl,.nil⟩,h⟩
theorem jJa {e:Expr} {te:TE3} (ha:PE3 X e te) (hr:PA3 X es t) (hs:starEach (e::es) X.env=(false,eval e X.env)::starEach es X.env:=by rfl):PA3 X (e::es) (jJc te t):=by
 intro pos pins s τ G H Q I h
 rw[hs]
 show wpAny _ _ (spliced ((false,eval e X.env)::backTo pos (starEach es X.env))) _ _ s
 refine Calls.spliced_cons (thn (ha pins s τ G H _ I h) fun u s1 w_=>w_.el fun x G1 H1 e1 I1 r1 q1=> ?_)
 refine thn (hr pos pins s1 τ G1 H1 _ I1 q1) fun us s2 w_=>w_.el fun xs G2 H2 e2 I2 r_ q2=>r_.el fun vs rs rv=> ?_
 obtain⟨v,rr,rvv⟩:=r1.mono e2
 exact⟨x::xs,G2,H2,e1.trans e2,I2,⟨v::vs,⟨v,vs,rfl,rr,rs⟩,.cons rvv rv⟩,q2⟩
theorem jUb {x1} (h:PA3 X es t):PE3 X (.Tuple es x1 pos) (tTup t):=by
 intro pins s τ G H Q I hq
 refine wpAny_Tuple_spliced (thn (h pos pins s τ G H _ I hq) fun us s1 w_=>w_.el fun xs G1 H1 e1 i_ r_ ⟨z,q⟩=>i_.el fun σ I1 hs1 hg1=>r_.el fun vs rs rv=>⟨by rw[<-rv.length,<-rs.length];exact z,?_⟩)
 have hf:H1 s1.heap.objs.size=none:=I1.hok.fresh (lJd _)
 have e2:Ext H1 (upd H1 s1.heap.objs.size (.tup vs)):= .upd (.none hf)
 refine⟨.tup xs,G1,upd H1 s1.heap.objs.size (.tup vs),e1.trans e2,⟨σ,I1.laid (t':=s1.toks) (fun b u e=>Heap.get?_push_of_some _ e) (lJd _) ?_,hs1.mono e2,hg1.tupNew hf⟩,⟨.ref s1.heap.objs.size,Rep.tupNew rs hf,rfl⟩,q⟩
 exact⟨by rw[<-rs.length];exact z,us,rv,⟨_,Heap.get?_push_size _ rfl,rfl,_,rfl,rfl⟩⟩
theorem jVe (h:PA3 X es t):PE3 X (.List es pos) (tLst t):=by
 intro pins s τ G H Q I hq
 refine wpAny_List_spliced (thn (h pos pins s τ G H _ I hq) fun us s1 w_=>w_.el fun xs G1 H1 e1 i_ r_ ⟨z,q⟩=>i_.el fun σ I1 hs1 hg1=>r_.el fun vs rs rv=>⟨by rw[<-rv.length,<-rs.length];exact z,?_⟩)
 have hf:H1 s1.heap.objs.size=none:=I1.hok.fresh (lJd _)
 have e2:Ext H1 (upd H1 s1.heap.objs.size (.lst vs)):= .upd (.none hf)
 refine⟨.ref s1.heap.objs.size,gup G1 s1.heap.objs.size (.lst xs),upd H1 s1.heap.objs.size (.lst vs),e1.trans e2,⟨σ,I1.laid (t':=s1.toks) (fun b u e=>Heap.get?_push_of_some _ e) (lJd _) ?_,hs1.mono e2,hg1.lstNew rs (.none hf)⟩,⟨.ref s1.heap.objs.size,rfl,rfl⟩,q _ (hg1.fresh hf)⟩
 exact⟨by rw[<-rs.length];exact z,us,0,rv,Heap.get?_push_size _ rfl⟩
theorem e_ix {r:R3} (hr:Ix3 X r) (ha:PE3 X a ta) (hb:PE3 X b tb) (hs:PlainIx b):PE3 X (.Subscript a b pos) (tOp r ta tb):=by
 intro pins s τ G H Q I h
 exact Subscript_ (bin3 ha hb I h fun v u s2 x y G2 H2 e I2 rx ry q=>thn (hr a b pins s2 τ G2 H2 x y v u Q I2 rx ry q (hs _ _)) fun _ _ z=>z.ext e)
noncomputable def rIx:R3:=fun x y G Q=>∃xs i t,seqT G x=some xs/\y= .int i/\atI xs i=some t/\Q t G
theorem jZh {o:Option GO} {xs:List T} (h:asL o=some xs):o=some (.lst xs):=by
 cases o with
 | none=>cases h
 | some g=>cases g with
  | lst ys=>cases h;rfl
  | dct _=>cases h
  | dck _=>cases h
  | fdc _=>cases h
  | ins _ _=>cases h
theorem jVt {K:PySem.W.Frag} {H:Hp} {G:Gp} {x:T} {a:V} {xs:List T} (hg:GRel K H G) (r:Rep K H x a) (h:seqT G x=some xs):
  ∃p vs,a= .ref p/\(SqL K H p vs\/SqT K H p vs)/\Reps K H xs vs:=by
 cases x with
 | tup ys=>cases h;obtain⟨p,vs,e,h1,h2⟩:=(show ∃p vs,a= .ref p/\H p=some (.tup vs)/\Reps K H xs vs from r);exact⟨p,vs,e,.inr (.of h1),h2⟩
 | scr ys=>cases h;obtain⟨p,vs,e,h1,h2⟩:=(show ∃p vs,a= .ref p/\FrL K H p vs/\Reps K H xs vs from r);exact⟨p,vs,e,.inl h1.sq,h2⟩
 | ref p=>
  obtain⟨vs,h1,h2⟩:=hg.lst (jZh h)
  exact⟨p,vs,r,.inl (.of h1),h2⟩
 | non=>cases h
 | bl _=>cases h
 | int _=>cases h
 | str _=>cases h
 | ty _=>cases h
theorem ix_any:Ix3 X rIx:=
 Ix3.of (ix_list.or ix_tup) fun H G x y a b Q hg ra rb ⟨xs,i,t,hx,ey,ht,q⟩=>by
  subst ey;cases (show b= .int i from rb)
  obtain⟨p,vs,e,hq,r⟩:=jVt hg ra hx
  subst e
  obtain⟨v,hv,rv⟩:=r.atI ht
  rcases hq with hq | hq
  ·exact .inl ⟨p,vs,i,v,rfl,rfl,hq,hv,t,G,.refl H,hg,rv,q⟩
  ·exact .inr ⟨p,vs,i,v,rfl,rfl,hq,hv,t,G,.refl H,hg,rv,q⟩
theorem jJt {id:String} {r:List T->Gp->VK3->Prop} {x:Str} {p:Pos} {e:Expr} (hc:Call3 X (.builtin id) r) (hg:Gl X x) (hm:X.mg x=none) (hv:bootBuiltins x=some (.builtin id)) (ha:PA3 X (e::es) t) (hn:x≠"__name__":=by decide) (hdb:(x == ("__debug__":Str))=false:=by decide)
  (he:starEach (e::es) X.env=(false,eval e X.env)::starEach es X.env:=by rfl) (hpl:(backTo pos (starEach es X.env)).any (·.1)=false:=by rfl):PE3 X (.Call (.Name x p) (e::es) [] pos) (tCB r t):=by
 intro pins s τ G H Q I h
 obtain⟨σ,I0,hs0,hg0⟩:=_root_.id I
 refine wpAny_Call_Name_kw (jV2 I0 hg hm hv ?_ hn hdb)
 exact PyProof.Rows.callWith_builtin1 (thn (ha pos pins s τ G H _ I h) fun us s1 w_=>w_.el fun xs G1 H1 e1 I1 r1 q1=>thn (hc pins s1 τ G1 H1 xs us Q I1 r1 q1) fun _ _ z=>z.ext e1) he hpl
theorem jJ6 {T0:String} {r:List T->Gp->VK3->Prop} {x:Str} {p:Pos} {e:Expr} (hc:Call3 X (.type T0) r) (hg:Gl X x) (hm:X.mg x=none) (hv:bootBuiltins x=some (.type T0)) (ha:PA3 X (e::es) t) (hn:x≠"__name__":=by decide) (hdb:(x == ("__debug__":Str))=false:=by decide)
  (he:starEach (e::es) X.env=(false,eval e X.env)::starEach es X.env:=by rfl) (hpl:(backTo pos (starEach es X.env)).any (·.1)=false:=by rfl):PE3 X (.Call (.Name x p) (e::es) [] pos) (tCB r t):=by
 intro pins s τ G H Q I h
 obtain⟨σ,I0,hs0,hg0⟩:=_root_.id I
 refine wpAny_Call_Name_kw (jV2 I0 hg hm hv ?_ hn hdb)
 exact PyProof.Rows.callWith_type1 (thn (ha pos pins s τ G H _ I h) fun us s1 w_=>w_.el fun xs G1 H1 e1 I1 r1 q1=>thn (hc pins s1 τ G1 H1 xs us Q I1 r1 q1) fun _ _ z=>z.ext e1) he hpl
theorem jXl {K:PySem.W.Frag} {H:Hp} {x:T} {vs:List V} (h:Reps K H [x] vs):∃v,vs=[v]/\Rep K H x v:=by
 obtain⟨v,ws,rfl,r,e⟩:=h;cases e;exact⟨v,rfl,r⟩
theorem reps2 {K:PySem.W.Frag} {H:Hp} {x y:T} {vs:List V} (h:Reps K H [x,y] vs):∃v w,vs=[v,w]/\Rep K H x v/\Rep K H y w:=by
 obtain⟨v,ws,rfl,r,w,ws2,rfl,r2,e⟩:=h;cases e;exact⟨v,w,rfl,r,r2⟩
noncomputable def rLen:List T->Gp->VK3->Prop:=fun xs G Q=>∃x ys,xs=[x]/\seqT G x=some ys/\Q (.int ys.length) G
theorem jQw:Call3 X (.builtin "len") rLen:=
 Call3.of call_len_seq fun H G xs as Q hg ra ⟨x,ys,e,hx,q⟩=>by
  subst e
  obtain⟨v,rfl,rv⟩:=jXl ra
  obtain⟨p,vs,rfl,hq,r⟩:=jVt hg rv hx
  exact⟨p,vs,rfl,hq,.int ys.length,G,.refl H,hg,by rw[r.length];rfl,q⟩
noncomputable def rAbs:List T->Gp->VK3->Prop:=fun xs G Q=>∃i,xs=[.int i]/\Q (.int (if i<0 then -i else i)) G
theorem c_abs:Call3 X (.builtin "abs") rAbs:=
 Call3.of call_abs fun H G xs as Q hg ra ⟨i,e,q⟩=>by
  subst e
  obtain⟨v,rfl,rv⟩:=jXl ra
  cases (show v= .int i from rv)
  exact⟨i,rfl,.int _,G,.refl H,hg,rfl,q⟩
noncomputable def rMax:List T->Gp->VK3->Prop:=fun xs G Q=>∃i j,xs=[.int i,.int j]/\Q (.int (if j>i then j else i)) G
noncomputable def rIntOf:List T->Gp->VK3->Prop:=fun xs G Q=>∃k,xs=[.bl k]/\Q (.int (if k then 1 else 0)) G
theorem c_int:Call3 X (.type "int") rIntOf:=
 Call3.of call_int1 fun H G xs as Q hg ra ⟨k,e,q⟩=>by
  subst e
  obtain⟨v,rfl,rv⟩:=jXl ra
  cases (show v= .bl k from rv)
  exact .inr ⟨k,rfl,.int _,G,.refl H,hg,rfl,q⟩
noncomputable def rDivmod:List T->Gp->VK3->Prop:=fun xs G Q=>∃i j,xs=[.int i,.int j]/\CDiv i j/\Q (.tup [.int (i / j),.int (i%j)]) G
theorem c_divmod:Call3 X (.builtin "divmod") rDivmod:=
 Call3.of call_divmod fun H G xs as Q hg ra ⟨i,j,e,c,q⟩=>by
  subst e
  obtain⟨v,w,rfl,rv,rw'⟩:=reps2 ra
  cases (show v= .int i from rv);cases (show w= .int j from rw')
  exact⟨i,j,rfl,c,fun p hp=>⟨.tup [.int (i / j),.int (i%j)],G,.upd (.none hp),hg.tupNew hp,Rep.tupNew ⟨_,_,rfl,rfl,_,_,rfl,rfl,rfl⟩ hp,q⟩⟩
noncomputable def rListOf:List T->Gp->VK3->Prop:=fun xs G Q=>∃x ys,xs=[x]/\seqT G x=some ys/\∀p,G p=none->Q (.ref p) (gup G p (.lst ys))
theorem c_list:Call3 X (.type "list") rListOf:=
 Call3.of call_list_of fun H G xs as Q hg ra ⟨x,ys,e,hx,q⟩=>by
  subst e
  obtain⟨v,rfl,rv⟩:=jXl ra
  obtain⟨p,vs,rfl,hq,r⟩:=jVt hg rv hx
  exact⟨p,vs,rfl,hq,fun l hl=>⟨.ref l,_,.upd (.none hl),hg.lstNew r (.none hl),rfl,q l (hg.fresh hl)⟩⟩
noncomputable def jJ9:List T->Gp->VK3->Prop:=fun xs G Q=>∃x ys,xs=[x]/\seqT G x=some ys/\Q (.tup ys) G
theorem jK3:Call3 X (.type "tuple") jJ9:=
 Call3.of kU5 fun H G xs as Q hg ra ⟨x,ys,e,hx,q⟩=>by
  subst e
  obtain⟨v,rfl,rv⟩:=jXl ra
  obtain⟨p,vs,rfl,hq,r⟩:=jVt hg rv hx
  cases x with
  | tup zs=>
   cases hx
   obtain⟨p',vs',e',h1,h2⟩:=(show ∃p' vs',V.ref p= .ref p'/\H p'=some (.tup vs')/\Reps X.K H ys vs' from rv)
   cases e'
   exact⟨p,vs',rfl,.inr ⟨.of h1,.tup ys,G,.refl H,hg,⟨p,vs',rfl,h1,h2⟩,q⟩⟩
  | scr zs=>
   cases hx
   obtain⟨p',vs',e',h1,h2⟩:=(show ∃p' vs',V.ref p= .ref p'/\FrL X.K H p' vs'/\Reps X.K H ys vs' from rv)
   cases e'
   exact⟨p,vs',rfl,.inl ⟨h1.sq,fun l hl=>⟨.tup ys,G,.upd (.none hl),hg.tupNew hl,Rep.tupNew h2 hl,q⟩⟩⟩
  | ref p'=>
   cases (show V.ref p= .ref p' from rv)
   obtain⟨vs',h1,h2⟩:=hg.lst (jZh hx)
   exact⟨p,vs',rfl,.inl ⟨.of h1,fun l hl=>⟨.tup ys,G,.upd (.none hl),hg.tupNew hl,Rep.tupNew h2 hl,q⟩⟩⟩
  | non=>cases hx
  | bl _=>cases hx
  | int _=>cases hx
  | str _=>cases hx
  | ty _=>cases hx
noncomputable def rCat:R3:=fun x y G Q=>∃p q xs ys,x= .ref p/\y= .ref q/\G p=some (.lst xs)/\G q=some (.lst ys)/\xs.length+ys.length<=sizeLine/\∀l,G l=none->Q (.ref l) (gup G l (.lst (xs++ys)))
noncomputable def rRep:R3:=fun x y G Q=>∃p xs n,x= .ref p/\y= .int n/\G p=some (.lst xs)/\n.toNat * xs.length<=sizeLine/\n<2^62/\ -(2^62)<n/\∀l,G l=none->Q (.ref l) (gup G l (.lst (List.replicate n.toNat xs).flatten))
def tyT (G:Gp) (T0:String) (x:T):Prop:=match x with
 | .str _=>T0="str"
 | .int _=>T0="int"
 | .ref p=>(T0="list"/\∃xs,G p=some (.lst xs))\/(T0="dict"/\((∃kvs,G p=some (.dck kvs))\/∃kvs,G p=some (.dct kvs)))
 | _=>False
theorem tyT.of {K:PySem.W.Frag} {H:Hp} {G:Gp} {T0:String} {x:T} {a:V} (hg:GRel K H G) (r:Rep K H x a) (h:tyT G T0 x):tyV K T0 a H:=by
 cases x with
 | str z=>cases (show a= .str z from r);exact h
 | int z=>cases (show a= .int z from r);exact h
 | ref p=>
  cases (show a= .ref p from r)
  rcases h with ⟨e,xs,h⟩ | ⟨e,h⟩
  ·obtain⟨vs,h1,_⟩:=hg.lst h;exact .inl ⟨e,vs,.of h1⟩
  ·refine .inr (.inr (.inl ⟨e,?_⟩))
   rcases h with ⟨kvs,h⟩ | ⟨kvs,h⟩
   ·obtain⟨ws,h1,_⟩:=hg p _ h;exact .inl ⟨ws,h1⟩
   ·obtain⟨ws,h1,_⟩:=hg p _ h;exact .inr ⟨ws,h1⟩
 | non=>exact False.elim h
 | bl _=>exact False.elim h
 | ty _=>exact False.elim h
 | tup _=>exact False.elim h
 | scr _=>exact False.elim h
noncomputable def tBM (T0:String) (r:T->List T->Gp->VK3->Prop) (to:TE3) (t:TA3):TE3:=fun τ G Q=>to τ G fun x G1=>tyT G1 T0 x/\t τ G1 fun xs G2=>r x xs G2 Q
theorem e_bm {T0 id:String} {r:T->List T->Gp->VK3->Prop} {o e:Expr} {name:Str} {apos cpos:Pos} {to:TE3} (pa:PlainAttrs T0) (slot:Slot T0 name id) (hty:typeOf (.builtin id)=pure (.type "method_descriptor")) (hm:Mt3 X id r) (ho:PE3 X o to) (ha:PA3 X (e::es) t)
  (hbase:attributeBase o name X.env (eval o X.env)=eval o X.env:=by rfl)
  (hfew:((backTo cpos (starEach (e::es) X.env)).all (fun x=> !x.1)&&(backToKw cpos (keywordEach [] X.env)).all (fun x=>x.1.isSome)
   &&decide ((e::es).length+([]:List Keyword).length+(if ([]:List Keyword).isEmpty then 0 else 1)<30))=true:=by rfl)
  (hline:(apos.endLine == cpos.line)=true:=by rfl) (hs:starEach (e::es) X.env=(false,eval e X.env)::starEach es X.env:=by rfl) (hplain:(backTo cpos (starEach es X.env)).any (·.1)=false:=by rfl):
  PE3 X (.Call (.Attribute o name apos) (e::es) [] cpos) (tBM T0 r to t):=by
 intro pins s τ G H Q I h
 refine wpAny_Call_method_late hbase hfew hline rfl (thn (ho pins s τ G H _ I h) fun v s1 w_=>w_.el fun x G1 H1 e1 I1 r1 ⟨ty,q1⟩=> ?_)
 obtain⟨σ,I0,hs0,hg0⟩:=_root_.id I1
 obtain⟨a0,ra0,rv0⟩:=_root_.id r1
 obtain⟨h1,h2⟩:=tyV_is I0 rv0 (tyT.of hg0 ra0 ty)
 refine⟨T0,id,pa,slot,hty,h1,h2,?_⟩
 have hA:=ha cpos pins s1 τ G1 H1 _ I1 q1
 rw[hs] at hA ⊢
 refine Calls.callWith_builtin (by show (false||(backTo cpos (starEach es X.env)).any (·.1))=false;rw[hplain]<;>rfl) (Calls.evalArgs_plain ?_)
 exact thn hA fun us s2 w_=>w_.el fun vs G2 H2 e2 I2 r2 q2=>thn (hm pins s2 τ G2 H2 x vs v us Q I2 (r1.mono e2) r2 q2) fun _ _ z=>(z.ext e2).ext e1
noncomputable def jQm:T->List T->Gp->VK3->Prop:=fun x xs G Q=>∃p ys y,x= .ref p/\xs=[y]/\G p=some (.lst ys)/\ys.length<sizeLine/\Q .non (gup G p (.lst (ys++[y])))
noncomputable def rSetL:T->T->T->Gp->(Gp->Prop)->Prop:=fun o i v G Q=>∃p xs k j,o= .ref p/\i= .int k/\G p=some (.lst xs)/\ixN xs.length k=some j/\Q (gup G p (.lst (xs.set j v)))
theorem s_list:Set3 X rSetL:=
 Set3.of kQ8 fun H G o i v a b c Q hg ra rb rc ⟨p,xs,k,j,eo,ei,hp,hj,q⟩=>by
  subst eo;subst ei
  cases (show a= .ref p from ra);cases (show b= .int k from rb)
  obtain⟨vs,h1,h2⟩:=hg.lst hp
  exact⟨p,vs,k,j,rfl,rfl,h1,by rw[<-h2.length];exact hj,_,.upd (.lst h1),hg.lstNew (h2.set rc j) (.lst h1),q⟩
end
end L3
namespace L3
open PySem PySem.Spec PyProof.Rows L2
section
variable {X:Cx}
theorem o_cat:Op3 X (binaryOp .Add) rCat:=
 Op3.of op_cat fun H G x y a b Q hg ra rb ⟨p,q,xs,ys,ex,ey,hp,hq,hz,h⟩=>by
  subst ex;subst ey
  cases (show a= .ref p from ra);cases (show b= .ref q from rb)
  obtain⟨vs,h1,h2⟩:=hg.lst hp
  obtain⟨ws,h3,h4⟩:=hg.lst hq
  exact⟨p,q,vs,ws,rfl,rfl,h1,h3,by rw[<-h2.length,<-h4.length];exact hz,fun l hl=>⟨.ref l,_,.upd (.none hl),hg.lstNew (h2.append h4) (.none hl),rfl,h l (hg.fresh hl)⟩⟩
theorem o_rep:Op3 X (binaryOp .Mult) rRep:=
 Op3.of op_rep fun H G x y a b Q hg ra rb ⟨p,xs,n,ex,ey,hp,hz,h1,h2,h⟩=>by
  subst ex;subst ey
  cases (show a= .ref p from ra);cases (show b= .int n from rb)
  obtain⟨vs,h3,h4⟩:=hg.lst hp
  refine⟨p,n,vs,rfl,rfl,h3,by omega,by omega,by rw[<-h4.length,Nat.mul_comm];exact hz,fun l hl=>⟨.ref l,_,.upd (.none hl),hg.lstNew (h4.rep _) (.none hl),rfl,h l (hg.fresh hl)⟩⟩
theorem jQp:Mt3 X "list.append" jQm:=
 Mt3.of mt_append fun H G x xs a as Q hg ra ras ⟨p,ys,y,ex,exs,hp,hz,q⟩=>by
  subst ex;subst exs
  cases (show a= .ref p from ra)
  obtain⟨v,rfl,rv⟩:=jXl ras
  obtain⟨vs,h1,h2⟩:=hg.lst hp
  exact⟨p,vs,v,rfl,rfl,h1,by rw[<-h2.length];exact hz,.non,_,.upd (.lst h1),hg.lstNew (h2.append (.one rv)) (.lst h1),rfl,q⟩
end
noncomputable def jQn:TS3:=fun D τ G=>D.nx τ G
noncomputable def tSeq (t u:TS3):TS3:=fun D τ G=>t {D with nx:=u D} τ G
noncomputable def jV7 (te:TE3):TS3:=fun D τ G=>te τ G fun _ G1=>D.nx τ G1
noncomputable def tRet (te:TE3):TS3:=fun D τ G=>te τ G D.rt
noncomputable def tRetN:TS3:=fun D _ G=>D.rt .non G
noncomputable def tIfS (c:TT3) (t u:TS3):TS3:=fun D τ G=>c τ G fun b G1=>if b=true then t D τ G1 else u D τ G1
section
variable {X:Cx} {st:Stmt} {rest:List Stmt} {t u:TS3} {e:Expr} {te:TE3} {pos:Pos}
theorem jK8:PSs3 X [] jQn:=fun _ _ τ G H _ I h=>wpAny_execs_nil ⟨τ,G,H,.refl H,I,h⟩
theorem jJe (h1:PS3 X st t) (h2:PSs3 X rest u):PSs3 X (st::rest) (tSeq t u):=by
 intro pins s τ G H D I h
 refine wpAny_execs_cons (thn (h1 pins s τ G H {D with nx:=u D} I h) fun f s1 q=> ?_)
 cases f with
 | next=>
  obtain⟨τ',G',H',e',I',q⟩:=q
  exact thn (h2 pins s1 τ' G' H' D I' q) fun _ _ z=>z.ext e'
 | ret v=>exact q
 | brk=>exact q
 | cont=>exact q
theorem jJn (h1:PS3 X st t):PSs3 X [st] t:=by
 intro pins s τ G H D I h
 refine wpAny_execs_cons (thn (h1 pins s τ G H D I h) fun f s1 q=> ?_)
 cases f with
 | next=>exact wpAny_execs_nil q
 | ret v=>exact q
 | brk=>exact q
 | cont=>exact q
theorem jVg (he:PE3 X e te) (hs:swapsWith e none pos.line X.env=pure false:=by rfl):PS3 X (.Expr e pos) (jV7 te):=by
 intro pins s τ G H D I h
 obtain⟨σ,I0,hs0,hg0⟩:=id I
 exact wpAny_Expr_any (thn (he pins s τ G H _ I h) fun v s1 w_=>w_.el fun x G1 H1 e1 I1 r1 q1=>⟨τ,G1,H1,e1,I1,q1⟩) I0.quiet hs
theorem jKl (he:PE3 X e te):PS3 X (.Return (some e) pos) (tRet te):=by
 intro pins s τ G H D I h
 exact wpAny_Return_some (thn (he pins s τ G H _ I h) fun v s1 w_=>w_.el fun x G1 H1 e1 I1 r1 q1=>⟨x,τ,G1,H1,e1,I1,r1,q1⟩)
theorem s_if {c:Expr} {a b:List Stmt} {tc:TT3} (hc:PT3 X c tc) (ha:PSs3 X a t) (hb:PSs3 X b u):PS3 X (.If c a b pos) (tIfS tc t u):=by
 intro pins s τ G H D I h
 refine wpAny_If (thn (hc pins s τ G H _ I h) fun d s1 w_=>w_.el fun G1 H1 e1 I1 q1=> ?_)
 cases d with
 | true=>exact thn (ha pins s1 τ G1 H1 D I1 q1) fun _ _ z=>z.ext e1
 | false=>exact thn (hb pins s1 τ G1 H1 D I1 q1) fun _ _ z=>z.ext e1
end
noncomputable abbrev TG3:=T->St3->Gp->(St3->Gp->Prop)->Prop
noncomputable abbrev TGs3:=List T->St3->Gp->(St3->Gp->Prop)->Prop
def GP3 (X:Cx) (pins:List (Addr×Obj)) (H:Hp) (Q:St3->Gp->Prop) (s':Shared):Prop:=∃ τ' G' H',Ext H H'/\Inv3 X pins τ' G' H' s'/\Q τ' G'
def PG3 (X:Cx) (target:Expr) (t:TG3):Prop:=
 ∀(pins:List (Addr×Obj)) (s:Shared) (τ:St3) (G:Gp) (H:Hp) (v:T) (u:Value) (Q:St3->Gp->Prop),Inv3 X pins τ G H s->RU X.K H v u->t v τ G Q->
  wpAny (model X.prog X.w) X.A (assign target X.env u) (fun _ s'=>GP3 X pins H Q s') X.xe s
def PGs3 (X:Cx) (ts:List Expr) (t:TGs3):Prop:=
 ∀(pins:List (Addr×Obj)) (s:Shared) (τ:St3) (G:Gp) (H:Hp) (vs:List T) (us:List Value) (Q:St3->Gp->Prop),Inv3 X pins τ G H s->RUs X.K H vs us->t vs τ G Q->
  wpAny (model X.prog X.w) X.A (assignInOrder ((assignEach ts X.env).map (·.2)) us) (fun _ s'=>GP3 X pins H Q s') X.xe s
noncomputable def jJj (i:Nat):TG3:=fun v τ G Q=>Q (τ.set i (some v)) G
noncomputable def gNil:TGs3:=fun vs τ G Q=>vs=[]/\Q τ G
noncomputable def jKg (t:TG3) (u:TGs3):TGs3:=fun vs τ G Q=>∃v r,vs=v::r/\t v τ G fun τ' G'=>u r τ' G' Q
noncomputable def gTup (n:Nat) (t:TGs3):TG3:=fun v τ G Q=>∃xs,v= .tup xs/\xs.length=n/\t xs τ G Q
noncomputable def gSub (to ti:TE3) (t:T->T->T->Gp->(Gp->Prop)->Prop):TG3:=fun v τ G Q=>to τ G fun o G1=>ti τ G1 fun i G2=>t o i v G2 fun G3=>Q τ G3
noncomputable def tAsg (te:TE3) (g:TG3):TS3:=fun D τ G=>te τ G fun x G1=>g x τ G1 D.nx
section
variable {X:Cx} {pos:Pos}
theorem jJp {i:Nat} {x:Str} (hN:X.N.Nodup) (hi:X.N[i]? =some x:=by rfl) (hx:Loc X.env.scope x:=by first | exact Or.inl rfl | exact Or.inr rfl) (hf:X.fn x=true\/X.env.scope.names.lookup x=some .local:=by first | exact .inl rfl | exact .inr rfl):PG3 X (.Name x pos) (jJj i):=by
 rintro pins s τ G H v u Q ⟨σ,I,hs,hg⟩ ⟨a,ra,rv⟩ h
 exact wpAny_assign_Name (jYq I hN hi hx rv (fun s' I'=>⟨_,G,H,.refl H,⟨_,I',hs.set i ra,hg⟩,h⟩) hf)
theorem jQ1:PGs3 X [] gNil:=by
 rintro pins s τ G H vs us Q I ⟨as,r,rv⟩ ⟨e,h⟩
 subst e
 cases (show as=[] from r)
 cases rv
 exact assignInOrder_nil ⟨τ,G,H,.refl H,I,h⟩
theorem jJv {e:Expr} {es:List Expr} {t:TG3} {u:TGs3} (h1:PG3 X e t) (h2:PGs3 X es u)
  (hs:(assignEach (e::es) X.env).map (·.2)=assign e X.env::(assignEach es X.env).map (·.2):=by rfl):PGs3 X (e::es) (jKg t u):=by
 rintro pins s τ G H vs us Q I ⟨as,r,rv⟩ ⟨v,vr,e1,h⟩
 subst e1
 obtain⟨a,ar,rfl,ra,rar⟩:=r
 cases rv with
 | cons q qq=>
  rw[hs]
  refine assignInOrder_cons (thn (h1 pins s τ G H v _ _ I ⟨a,ra,q⟩ h) fun _ s1 ⟨τ1,G1,H1,e1,I1,q1⟩=> ?_)
  exact thn (h2 pins s1 τ1 G1 H1 vr _ Q I1 ⟨ar,Reps.mono e1 _ rar,qq⟩ q1) fun _ s2 ⟨τ2,G2,H2,e2,z⟩=>⟨τ2,G2,H2,e1.trans e2,z⟩
theorem jVq {es:List Expr} {k:Nat} {t:TGs3} {n:Nat} (hc:X.calm=true) (h:PGs3 X es t)
  (hn:(assignEach es X.env).length=n:=by rfl) (hst:(assignEach es X.env).findIdx? (·.1)=none:=by rfl):PG3 X (.Tuple es k pos) (gTup n t):=by
 rintro pins s τ G H v u Q ⟨σ,I,hs,hg⟩ ⟨a,ra,rv⟩ ⟨xs,ev,hl,hw⟩
 subst ev
 obtain⟨p,vs,e1,h1,r1⟩:=(show ∃p vs,a= .ref p/\H p=some (.tup vs)/\Reps X.K H xs vs from ra)
 subst e1
 cases rv
 obtain⟨its,rv,ht,hz⟩:=I.tuple (.of h1)
 refine assign_Tuple_tuple (I.ok.hd hc) ht (by simp[hn,<-hl,r1.length,rv.length]) hst fun h' hx=> ?_
 have I1:Inv X pins σ H {s with heap:=h'}:=I.kept (t':=s.toks) fun b o e=>hx b o (lJo (Heap.lt_size e)) e
 exact h pins _ τ G H xs _ Q ⟨σ,I1,hs,hg⟩ ⟨vs,r1,by simpa using rv⟩ hw
theorem jYp {o i:Expr} {to ti:TE3} {t:T->T->T->Gp->(Gp->Prop)->Prop} (ho:PE3 X o to) (hi:PE3 X i ti) (hs:Set3 X t)
  (ha:∀v,assign (.Subscript o i pos) X.env v=(do
   let ov <-holding [v] (eval o X.env)
   let iv <-holding [v,ov] (eval i X.env)
   standAt pos
   holding [v,ov,iv] (setItem ov iv v)
   release [v,ov,iv] []):=by intro _;rfl):PG3 X (.Subscript o i pos) (gSub to ti t):=by
 intro pins s τ G H v u Q I r h
 rw[ha]
 refine wpAny_bind (wpAny_holding (thn (ho pins s τ G H _ I h) fun ov s1 w_=>w_.el fun x G1 H1 e1 I1 r1 q1=> ?_))
 refine wpAny_bind (wpAny_holding (thn (hi pins s1 τ G1 H1 _ I1 q1) fun iv s2 w_=>w_.el fun y G2 H2 e2 I2 r2 q2=> ?_))
 refine wpAny_bind (wpAny_standAt (wpAny_bind (wpAny_holding (thn (hs pins s2 τ G2 H2 x y v ov iv u _ I2 (r1.mono e2) r2 (r.mono (e1.trans e2)) q2) fun _ s3 ⟨G3,H3,e3,I3,q3⟩=> ?_))))
 exact wpAny_release ⟨τ,G3,H3,(e1.trans e2).trans e3,I3,q3⟩
theorem jYg {tg e:Expr} {te:TE3} {g:TG3} (he:PE3 X e te) (hg:PG3 X tg g) (hs:swapsWithSole [tg] e pos.line X.env=pure false:=by rfl) (hw:swappedStores [tg] e X.env=pure none:=by rfl)
  (h1:(assignEach [tg] X.env).map (·.2)=[assign tg X.env]:=by rfl):PS3 X (.Assign [tg] e pos) (tAsg te g):=by
 intro pins s τ G H D I h
 refine wpAny_Assign_stores (thn (he pins s τ G H _ I h) fun v s1 w_=>w_.el fun x G1 H1 e1 I1 r1 q1=> ?_) hs hw
 rw[h1]
 exact thn (hg pins s1 τ G1 H1 x v _ I1 r1 q1) fun _ s2 ⟨τ2,G2,H2,e2,q⟩=>⟨τ2,G2,H2,e1.trans e2,q⟩
theorem jKi {i:Nat} {x:Str} {e:Expr} {te:TE3} {pos':Pos} (hN:X.N.Nodup) (he:PE3 X e te) (hi:X.N[i]? =some x:=by rfl) (hx:Loc X.env.scope x:=by first | exact Or.inl rfl | exact Or.inr rfl)
  (hs:swapsWith e (some (.Name x pos')) pos.line X.env=pure false:=by rfl) (hf:X.fn x=true\/X.env.scope.names.lookup x=some .local:=by first | exact .inl rfl | exact .inr rfl):
  PS3 X (.Assign [.Name x pos'] e pos) (tAsg te (jJj i)):=by
 intro pins s τ G H D I h
 refine wpAny_Assign_Name (thn (he pins s τ G H _ I h) fun v s1 w_=>w_.el fun y G1 H1 e1 i_ r_ q1=>i_.el fun σ I1 hs1 hg1=>r_.el fun a ra rv=> ?_) hs
 exact jYq I1 hN hi hx rv (fun s2 I2=>⟨_,G1,H1,e1,⟨_,I2,hs1.set i ra,hg1⟩,q1⟩) hf
noncomputable def tPar (i j:Nat) (ta:TA3):TS3:=fun D τ G=>ta τ G fun vs G1=>∃v w,vs=[v,w]/\D.nx ((τ.set i (some v)).set j (some w)) G1
theorem s_par {i j:Nat} {x y:Str} {a b:Expr} {ta:TA3} {px py pt:Pos} {kt k2 pt2} (hc:X.calm=true) (hN:X.N.Nodup) (hij:i≠j) (ha:PA3 X [a,b] ta) (hi:X.N[i]? =some x:=by rfl) (hj:X.N[j]? =some y:=by rfl)
  (hx:X.env.scope.names.lookup x=some .local:=by rfl) (hy:X.env.scope.names.lookup y=some .local:=by rfl)
  (hw:swappedStores [.Tuple [.Name x px,.Name y py] kt pt] (.Tuple [a,b] k2 pt2) X.env=pure (some [x,y]):=by rfl)
  (hs:swapsWithSole [.Tuple [.Name x px,.Name y py] kt pt] (.Tuple [a,b] k2 pt2) pos.line X.env=pure false:=by rfl):
  PS3 X (.Assign [.Tuple [.Name x px,.Name y py] kt pt] (.Tuple [a,b] k2 pt2) pos) (tPar i j ta):=by
 intro pins s τ G H D I h
 rw[exec_Assign_arm]
 refine wpAny_bind (wpAny_standAt ?_)
 rw[hs]
 refine wpAny_bind (wpAny_pure ?_)
 rw[if_neg (by decide)]
 refine wpAny_bind (Tuple_ (thn (ha _ pins s τ G H _ I h) fun us s1 w_=>w_.el fun vs G1 H1 e1 i_ r_ q1=>i_.el fun σ I1 hs1 hg1=>r_.el fun as ras rvs=> ?_))
 obtain⟨v,w,ev,q1⟩:=q1
 subst ev
 obtain⟨a1,a2,rfl,ra1,ra2⟩:=reps2 ras
 obtain⟨u1,u2,rfl,rv,rw'⟩:=rvs.two
 refine wpAny_newObj_type ?_ (by show 2<=sizeLine;decide)
 have I2:Inv X pins σ H1 {s1 with heap:=s1.heap.push {cls:= .type "tuple",data:= .seq [u1,u2].toArray} }:=I1.kept (t':=s1.toks) fun b o e=>Heap.get?_push_of_some _ e
 rw[hw]
 refine wpAny_bind (wpAny_pure ?_)
 show wpAny (model X.prog X.w) X.A (do rule "assign.swapped-stores"; let items <-unpackItems (.ref s1.heap.objs.size) 2 none;assignInOrder [fun v=>bindName X.env y v,fun v=>bindName X.env x v] items.reverse;pure Flow.next) _ _ _
 refine wpAny_bind (wpAny_rule (wpAny_bind (unpackItems_tuple (items:= #[u1,u2]) (I1.ok.hd hc) (IsTup.new s1.heap _) fun h' hx'=> ?_)))
 have I3:=I2.kept (h':=h') (t':=s1.toks) fun b o e=>hx' b o (lJo (Heap.lt_size e)) e
 show wpAny _ _ (assignInOrder [fun v=>bindName X.env y v,fun v=>bindName X.env x v] [u2,u1] >>= fun _=>pure Flow.next) _ _ _
 refine wpAny_bind (assignInOrder_cons (wpAny_bindName (jYq I3 hN hj (.inl hy) rw' (fun s2 I4=> ?_) (.inr hy))))
 refine assignInOrder_cons (wpAny_bindName (jYq I4 hN hi (.inl hx) rv (fun s3 I5=>assignInOrder_nil (wpAny_pure ?_)) (.inr hx)))
 rw[List.set_comm _ _ (Ne.symm hij)] at I5
 exact⟨_,G1,H1,e1,⟨_,I5,(hs1.set i ra1).set j ra2,hg1⟩,q1⟩
noncomputable def kQe (c:TT3) (tb:TS3):TS3:=fun D τ G=>∃W:Nat->St3->Gp->Prop,(∃m,W m τ G)/\∀m τ G,W m τ G->
 c τ G fun b G1=>if b=true then ∃N:St3->Gp->Prop,(∀ τ' G',N τ' G'->∃m',m'<m/\W m' τ' G')/\tb {D with nx:=N,ct:=N,bk:=D.nx} τ G1 else D.nx τ G1
theorem s_while {c:Expr} {body:List Stmt} {tc:TT3} {tb:TS3} (hp:PassesOwn (model X.prog X.w) X.A X.env X.xe) (hc:PT3 X c tc) (hb:PSs3 X body tb):PS3 X (.While c body [] pos) (kQe tc tb):=by
 intro pins s τ G H D I h
 obtain⟨W,⟨m0,w0⟩,turn⟩:=h
 refine wpAny_While (codeAny_whileLoop (fun n s'=>∃ τ' G' H',Ext H H'/\Inv3 X pins τ' G' H' s'/\W n τ' G') ?_ m0 ⟨τ,G,H,.refl H,I,w0⟩)
 rintro n s1 ⟨τ1,G1,H1,e1,I1,w1⟩
 refine wpAny_passesOwn hp (thn (hc pins s1 τ1 G1 H1 _ I1 (turn n τ1 G1 w1)) fun b s2 w_=>w_.el fun G2 H2 e2 I2 q2=> ?_)
 cases b with
 | true=>
  obtain⟨N,hN,q2⟩:=q2
  rw[if_pos rfl]
  refine wpAny_passesOwn hp (thn (hb pins s2 τ1 G2 H2 _ I2 q2) fun f s3 q3=> ?_)
  cases f with
  | next=>
   obtain⟨τ3,G3,H3,e3,I3,n3⟩:=q3
   obtain⟨m',hm,w3⟩:=hN τ3 G3 n3
   exact⟨m',hm,τ3,G3,H3,(e1.trans e2).trans e3,I3,w3⟩
  | cont=>
   obtain⟨τ3,G3,H3,e3,I3,n3⟩:=q3
   obtain⟨m',hm,w3⟩:=hN τ3 G3 n3
   exact⟨m',hm,τ3,G3,H3,(e1.trans e2).trans e3,I3,w3⟩
  | brk=>exact SP3.ext (f:= .next) (e1.trans e2) q3
  | ret v=>exact SP3.ext (f:= .ret v) (e1.trans e2) q3
 | false=>
  rw[if_neg lJl]
  exact wpAny_execs_nil ⟨τ1,G2,H2,e1.trans e2,I2,q2⟩
end
def Items (K:PySem.W.Frag) (H0:Hp) (J:It) (xs:List T) (stay:Gp->Prop):Prop:=
 ∀i H G,Ext H0 H->GRel K H G->stay G->(i<xs.length->J.go i H)/\(xs.length<=i->J.stop i H)/\(i<xs.length->∀x H',J.yld i H x H'->Ext H H'/\GRel K H' G/\∃t,xs[i]? =some t/\Rep K H' t x)
noncomputable abbrev TI3:=St3->Gp->(List T->(Gp->Prop)->Gp->Prop)->Prop
def PIE3 (X:Cx) (pins:List (Addr×Obj)) (τ:St3) (H:Hp) (tg:Expr) (R:List T->(Gp->Prop)->Gp->Prop) (itv:Value) (s2:Shared):Prop:=
 ∃(it:Addr) (fp:List Addr) (tn:Nat->Heap->Prop) (J:It) (xs:List T) (stay:Gp->Prop) (G':Gp) (H':Hp),itv= .ref it/\Ext H H'/\Inv3 X pins τ G' H' s2/\Turn X.prog X.w X.K tg J fp it tn/\tn 0 s2.heap/\(∀b∈fp,FpOk X pins H' b)/\
  Items X.K H' J xs stay/\R xs stay G'
def PI3 (X:Cx) (tg iter:Expr) (wi:TI3):Prop:=
 ∀(pins:List (Addr×Obj)) (s:Shared) (τ:St3) (G:Gp) (H:Hp) (R:List T->(Gp->Prop)->Gp->Prop),Inv3 X pins τ G H s->wi τ G R->
  wpAny (model X.prog X.w) X.A (eval iter X.env) (fun v s1=>wpAny (model X.prog X.w) X.A (pyIter v) (PIE3 X pins τ H tg R) X.xe s1) X.xe s
noncomputable def tFor (wi:TI3) (g:TG3) (tb:TS3):TS3:=fun D τ G=>wi τ G fun xs stay G1=>∃P:Nat->St3->Gp->Prop,P 0 τ G1/\(∀i τ G,i<=xs.length->P i τ G->stay G)/\
 (∀i x τ G,xs[i]? =some x->P i τ G->g x τ G fun τ2 G2=>tb {D with nx:=P (i+1),ct:=P (i+1),bk:=D.nx} τ2 G2)/\∀ τ G,P xs.length τ G->D.nx τ G
section
variable {X:Cx} {tg:Expr} {pos:Pos}
theorem jQz {iter:Expr} {body:List Stmt} {wi:TI3} {g:TG3} {tb:TS3} (hp:PassesOwn (model X.prog X.w) X.A X.env X.xe) (hc:X.calm=true) (hi:PI3 X tg iter wi) (hg:PG3 X tg g) (hb:PSs3 X body tb)
  (hs:∀x,foldedSetIterable iter X.env x=pure x:=by intro _;rfl):PS3 X (.For tg iter body [] pos) (tFor wi g tb):=by
 intro pins s τ G H D I h
 refine wpAny_For (thn (hi pins s τ G H _ I h) fun v s1 h1=>thn h1 fun itv s2 h2=> ?_) hs
 obtain⟨it,fp,tn,J,xs,stay,G2,H2,e,eH,I2,T0,st2,f2,IT,P,p0,hstay,turn,fin⟩:=h2
 subst e
 have stat:∀ {H':Hp},(∀b∈fp,H' b=none)->∀b∈fp,FpOk X pins H' b:=fun hn b hb=>⟨hn b hb,(f2 b hb).2⟩
 refine codeAny_forLoop_any (fun n s'=>∃i τ' G' H',n=xs.length-i/\i<=xs.length/\Ext H2 H'/\Inv3 X pins τ' G' H' s'/\tn i s'.heap/\(∀b∈fp,H' b=none)/\P i τ' G') ?_ xs.length ⟨0,τ,G2,H2,rfl,lJt _,.refl _,I2,st2,fun b hb=>(f2 b hb).1,p0⟩
 rintro n s3 ⟨i,τ3,G3,H3,en,hi3,e3,⟨σ3,I3,hs3,hg3⟩,st3,fr3,p3⟩
 obtain⟨go,stop,yl⟩:=IT i H3 G3 e3 hg3 (hstay i τ3 G3 hi3 p3)
 by_cases hlt:i<xs.length
 ·refine wpAny_passesOwn hp (thn (T0.item X rfl rfl rfl hc i pins s3 σ3 H3 X.xe I3 (stat fr3) st3 (go hlt)) fun r s4 ⟨u,hr,h4⟩=> ?_)
  subst hr
  refine wpAny_passesOwn hp (thn h4 fun _ s5 ⟨x,H5,I5,r5,y5,st5,fr5⟩=> ?_)
  obtain⟨e5,g5,t,ht,rt⟩:=yl hlt x H5 y5
  have I5':=I5.pinned (stat fr5) (T0.obj _ _ st5)
  refine wpAny_passesOwn hp (thn (hg _ s5 τ3 G3 H5 t u _ ⟨σ3,I5',hs3.mono e5,g5⟩ ⟨x,rt,r5⟩ (turn i t τ3 G3 ht p3)) fun _ s6 ⟨τ6,G6,H6,e6,I6,q6⟩=> ?_)
  refine wpAny_passesOwn hp (thn (hb _ s6 τ6 G6 H6 _ I6 q6) fun f s7 q7=> ?_)
  have e36:Ext H2 H6:=(e3.trans e5).trans e6
  have again:∀ {τ7:St3} {G7:Gp} {H7:Hp},Ext H6 H7->Inv3 X (pins++jYj fp s5.heap) τ7 G7 H7 s7->P (i+1) τ7 G7->
    ∃m,m<n/\∃i τ' G' H',m=xs.length-i/\i<=xs.length/\Ext H2 H'/\Inv3 X pins τ' G' H' s7/\tn i s7.heap/\(∀b∈fp,H' b=none)/\P i τ' G':=fun {τ7 G7 H7} e7 ⟨σ7,I7,hs7,hg7⟩ p7=>by
   refine⟨xs.length-(i+1),by omega,i+1,τ7,G7,H7,rfl,hlt,e36.trans e7,⟨σ7,I7.unpinned,hs7,hg7⟩,T0.keep _ _ _ st5 fun b hb o e=>(I7.pin (b,o) (lKc _ (lKc _ (jYc hb e)))).1,fun b hb=> ?_,p7⟩
   obtain⟨o,e,d⟩:=T0.obj _ _ st5 b hb
   exact (I7.pin (b,o) (lKc _ (lKc _ (jYc hb e)))).2.1
  have un:∀ {τ7:St3} {G7:Gp} {H7:Hp},Inv3 X (pins++jYj fp s5.heap) τ7 G7 H7 s7->Inv3 X pins τ7 G7 H7 s7:=fun ⟨σ7,I7,a,b⟩=>⟨σ7,I7.unpinned,a,b⟩
  cases f with
  | next=>obtain⟨τ7,G7,H7,e7,I7,n7⟩:=q7;exact again e7 I7 n7
  | cont=>obtain⟨τ7,G7,H7,e7,I7,n7⟩:=q7;exact again e7 I7 n7
  | brk=>obtain⟨τ7,G7,H7,e7,I7,q7⟩:=q7;exact⟨τ7,G7,H7,(eH.trans e36).trans e7,un I7,q7⟩
  | ret v=>obtain⟨x7,τ7,G7,H7,e7,I7,r7,q7⟩:=q7;exact⟨x7,τ7,G7,H7,(eH.trans e36).trans e7,un I7,r7,q7⟩
 ·have ei:i=xs.length:=by omega
  refine wpAny_passesOwn hp (thn (T0.done X rfl rfl rfl hc i pins s3 σ3 H3 X.xe I3 (stat fr3) st3 (stop (by omega))) fun r s4 ⟨hr,I4⟩=> ?_)
  subst hr;subst ei
  exact wpAny_execs_nil ⟨τ3,G3,H3,eH.trans e3,⟨σ3,I4,hs3,hg3⟩,fin τ3 G3 p3⟩
noncomputable def iSeq (tl:TE3):TI3:=fun τ G R=>tl τ G fun x G1=>∃xs,seqT G1 x=some xs/\R xs (fun G'=>seqT G' x=some xs) G1
theorem jUr {l:Expr} {tl:TE3} (hl:PE3 X l tl):PI3 X tg l (iSeq tl):=by
 intro pins s τ G H R I h
 refine thn (hl pins s τ G H _ I h) fun v s1 w_=>w_.el fun x G1 H1 e1 i_ r_ ⟨xs,hx,q⟩=>i_.el fun σ I1 hs1 hg1=>r_.el fun a ra rv=> ?_
 obtain⟨p,vs,e,hq,r⟩:=jVt hg1 ra hx
 subst e
 cases rv
 have fpk:∀b∈[s1.heap.objs.size],FpOk X pins H1 b:=fun b hb=>by
  have e:b=s1.heap.objs.size:=by simpa using hb
  subst e
  exact I1.fpOk (lJd _) (I1.hok.fresh (lJd _))
 rcases hq with hq | hq
 ·obtain⟨its,rv,pl,hz⟩:=I1.list hq
  refine wpAny_pyIter_list pl.isList ?_
  refine⟨s1.heap.objs.size,[s1.heap.objs.size],_,_,xs,fun G'=>seqT G' x=some xs,G1,H1,rfl,e1,⟨σ,I1.kept (t':=s1.toks) fun b o e=>Heap.get?_push_of_some _ e,hs1,hg1⟩,turn_list p _,⟨_,Heap.get?_push_size _ rfl,rfl,rfl⟩,fpk,?_,q⟩
  intro i H2 G2 e2 g2 st
  have ra2:=Rep.mono e2 _ ra
  have now:∃ws,SqL X.K H2 p ws/\Reps X.K H2 xs ws:=by
   cases x with
   | scr ys=>cases hx;obtain⟨p',ws,ep,h1,h2⟩:=(show ∃p' ws,V.ref p= .ref p'/\FrL X.K H2 p' ws/\Reps X.K H2 xs ws from ra2);cases ep;exact⟨ws,h1.sq,h2⟩
   | ref p'=>cases (show V.ref p= .ref p' from ra);obtain⟨ws,h1,h2⟩:=g2.lst (jZh st);exact⟨ws,.of h1,h2⟩
   | tup ys=>
    obtain⟨p',ws,ep,h1,h2⟩:=(show ∃p' ws,V.ref p= .ref p'/\H1 p'=some (.tup ws)/\Reps X.K H1 ys ws from ra)
    cases ep
    exfalso
    obtain⟨its',_,pl',_⟩:=I1.tuple (.of h1)
    obtain⟨o,n,ho,hc,_⟩:=pl
    obtain⟨o',ho',hc',_⟩:=pl'
    rw[ho] at ho';cases ho'
    rw[hc] at hc';exact absurd hc' (by decide)
   | non=>cases hx
   | bl _=>cases hx
   | int _=>cases hx
   | str _=>cases hx
   | ty _=>cases hx
  obtain⟨ws,h1,h2⟩:=now
  have hlen:=h2.length
  refine⟨fun hi=> ?_,fun hi=>⟨ws,h1,by omega⟩,fun _ y H' ⟨eH,hy⟩=> ?_⟩
  ·exact⟨ws,ws[i]'(by omega),h1,by simp[hlen▸hi]⟩
  ·subst eH
   obtain⟨t,ht,rt⟩:=h2.get' (hy ws h1)
   exact⟨.refl _,g2,t,ht,rt⟩
 ·obtain⟨its,rv,pl,hz⟩:=I1.tuple hq
  refine wpAny_pyIter_tuple (show s1.heap.IsTuple p its.toArray from pl) ?_
  refine⟨s1.heap.objs.size,[s1.heap.objs.size],_,_,xs,fun G'=>seqT G' x=some xs,G1,H1,rfl,e1,⟨σ,I1.kept (t':=s1.toks) fun b o e=>Heap.get?_push_of_some _ e,hs1,hg1⟩,turn_tuple p _,⟨_,Heap.get?_push_size _ rfl,rfl,rfl⟩,fpk,?_,q⟩
  intro i H2 G2 e2 g2 st
  have ra2:=Rep.mono e2 _ ra
  have now:∃ws,H2 p=some (.tup ws)/\Reps X.K H2 xs ws:=by
   cases x with
   | tup ys=>cases hx;obtain⟨p',ws,ep,h1,h2⟩:=(show ∃p' ws,V.ref p= .ref p'/\H2 p'=some (.tup ws)/\Reps X.K H2 xs ws from ra2);cases ep;exact⟨ws,h1,h2⟩
   | scr ys=>
    obtain⟨p',ws,ep,h1,h2⟩:=(show ∃p' ws,V.ref p= .ref p'/\FrL X.K H1 p' ws/\Reps X.K H1 ys ws from ra)
    cases ep
    exfalso
    obtain⟨its',_,pl',_⟩:=I1.list h1.sq
    obtain⟨o,n,ho,hc,_⟩:=pl'
    obtain⟨o',ho',hc',_⟩:=pl
    rw[ho] at ho';cases ho'
    rw[hc] at hc';exact absurd hc' (by decide)
   | ref p'=>
    cases (show V.ref p= .ref p' from ra)
    obtain⟨ws,h1,h2⟩:=hg1.lst (jZh hx)
    exfalso
    obtain⟨its',_,pl',_⟩:=I1.list (.of h1)
    obtain⟨o,n,ho,hc,_⟩:=pl'
    obtain⟨o',ho',hc',_⟩:=pl
    rw[ho] at ho';cases ho'
    rw[hc] at hc';exact absurd hc' (by decide)
   | non=>cases hx
   | bl _=>cases hx
   | int _=>cases hx
   | str _=>cases hx
   | ty _=>cases hx
  obtain⟨ws,h1,h2⟩:=now
  have hlen:=h2.length
  refine⟨fun hi=> ?_,fun hi=>⟨ws,.of h1,by omega⟩,fun _ y H' ⟨eH,hy⟩=> ?_⟩
  ·exact⟨ws,ws[i]'(by omega),.of h1,by simp[hlen▸hi]⟩
  ·subst eH
   obtain⟨t,ht,rt⟩:=h2.get' (hy ws (.of h1))
   exact⟨.refl _,g2,t,ht,rt⟩
noncomputable def rngT (lo:Int) (n:Nat):List T:=(List.range n).map fun (k:Nat)=>T.int (lo+k)
noncomputable def jKt (ta:TA3):TI3:=fun τ G R=>ta τ G fun vs G1=>∃j:Int,vs=[.int j]/\ -(2^62)<=j/\j<2^62/\R (rngT 0 j.toNat) (fun _=>True) G1
noncomputable def iRng2 (ta:TA3):TI3:=fun τ G R=>ta τ G fun vs G1=>∃i j:Int,vs=[.int i,.int j]/\(-(2^62)<=i/\i<2^62/\ -(2^62)<=j/\j<2^62)/\R (rngT i (j-i).toNat) (fun _=>True) G1
theorem items_rng {K:PySem.W.Frag} {H:Hp} (lo:Int) (n:Nat):Items K H (Itr lo n) (rngT lo n) fun _=>True:=by
 intro i H' G e g _
 have hl:(rngT lo n).length=n:=by simp[rngT]
 refine⟨fun h=>by rw[hl] at h;exact h,fun h=>by rw[hl] at h;exact h,fun hi x H2 ⟨eH,ex⟩=> ?_⟩
 rw[hl] at hi
 subst eH;subst ex
 exact⟨.refl _,g,.int (lo+i),by simp[rngT,hi],rfl⟩
theorem jKc {a:Expr} {ta:TA3} {p:Pos} (hg:Gl X "range") (hm:X.mg "range"=none) (ha:PA3 X [a] ta) (hs:starEach [a] X.env=[(false,eval a X.env)]:=by rfl):PI3 X tg (.Call (.Name "range" p) [a] [] pos) (jKt ta):=by
 intro pins s τ G H R I h
 obtain⟨σ,I0,hs0,hg0⟩:=id I
 refine Call_ (jV2 I0 hg hm boot_range (PyProof.Rows.callWith_type1 (thn (ha pos pins s τ G H _ I h) fun us s1 w_=>w_.el fun xs G1 H1 e1 i_ r_ q1=>i_.el fun σ I1 hs1 hg1=>r_.el fun as ras rvs=> ?_) hs rfl))
 obtain⟨j,e,q1,q2,q⟩:=q1
 subst e
 obtain⟨v,rfl,rv⟩:=jXl ras
 cases (show v= .int j from rv)
 obtain⟨u,rfl,ru⟩:=rvs.one
 obtain⟨t,rfl⟩:=ru
 refine call_range_1 (thn (range_it (tg:=tg) (R:=fun J H'=>J=Itr 0 j.toNat/\H'=H1) I1 (by omega) (by omega) q1 q2 ⟨by simp,rfl⟩) fun itv s2 z=> ?_)
 obtain⟨it,fp,tn,J,H',ei,I2,T0,st,fk,eJ,eH⟩:=z
 subst eJ;subst eH
 exact⟨it,fp,tn,_,rngT 0 j.toNat,fun _=>True,G1,H',ei,e1,⟨σ,I2,hs1,hg1⟩,T0,st,fk,items_rng 0 j.toNat,q⟩
theorem i_range2 {a b:Expr} {ta:TA3} {p:Pos} (hg:Gl X "range") (hm:X.mg "range"=none) (ha:PA3 X [a,b] ta) (hs:starEach [a,b] X.env=[(false,eval a X.env),(false,eval b X.env)]:=by rfl) (hs2:starEach [b] X.env=[(false,eval b X.env)]:=by rfl):
  PI3 X tg (.Call (.Name "range" p) [a,b] [] pos) (iRng2 ta):=by
 intro pins s τ G H R I h
 obtain⟨σ,I0,hs0,hg0⟩:=id I
 refine Call_ (jV2 I0 hg hm boot_range (PyProof.Rows.callWith_type1 (thn (ha pos pins s τ G H _ I h) fun us s1 w_=>w_.el fun xs G1 H1 e1 i_ r_ q1=>i_.el fun σ I1 hs1 hg1=>r_.el fun as ras rvs=> ?_) (by rw[hs,hs2]) (by rw[hs2];rfl)))
 obtain⟨i,j,e,⟨q1,q2,q3,q4⟩,q⟩:=q1
 subst e
 obtain⟨v,w,rfl,rv,rw'⟩:=reps2 ras
 cases (show v= .int i from rv);cases (show w= .int j from rw')
 obtain⟨u,u',rfl,ru,ru'⟩:=rvs.two
 obtain⟨t,rfl⟩:=ru
 obtain⟨t',rfl⟩:=ru'
 refine call_range_2 (thn (range_it (tg:=tg) (R:=fun J H'=>J=Itr i (j-i).toNat/\H'=H1) I1 q1 q2 q3 q4 ⟨rfl,rfl⟩) fun itv s2 z=> ?_)
 obtain⟨it,fp,tn,J,H',ei,I2,T0,st,fk,eJ,eH⟩:=z
 subst eJ;subst eH
 exact⟨it,fp,tn,_,rngT i (j-i).toNat,fun _=>True,G1,H',ei,e1,⟨σ,I2,hs1,hg1⟩,T0,st,fk,items_rng i (j-i).toNat,q⟩
end
noncomputable abbrev Sp3:=List T->Gp->VK3->Prop
noncomputable def dn (K:PySem.W.Frag) (n:Nat) (sp:Sp3):Sp:=fun vs H Q _=>vs.length=n/\∃xs G,Reps K H xs vs/\GRel K H G/\sp xs G fun t G'=>∀v H',Ext H H'->GRel K H' G'->Rep K H' t v->Q v H'
def Fn3 (P:Program) (w:World) (K:PySem.W.Frag) (mg:Str->Option Value) (base:Heap) (k:Nat) (f:Addr) (fd:FuncData) (ps:List Str) (sp:Sp3):Prop:=FnOk P w K mg base CX0 k f fd ps (dn K ps.length sp)
noncomputable def jJy (sp:Sp3) (t:TA3):TE3:=fun τ G Q=>t τ G fun xs G1=>sp xs G1 Q
def Mono (sp:Sp3):Prop:=∀xs G Q Q',(∀t G',Q t G'->Q' t G')->sp xs G Q->sp xs G Q'
noncomputable def jJk (N:List Str) (xs:List T):St3:=xs.map some++List.replicate (N.length-xs.length) none
theorem start_rel {K:PySem.W.Frag} {H:Hp} {N:List Str} {xs:List T} {vs:List V} (r:Reps K H xs vs):SRel K H (start N vs) (jJk N xs):=by
 have hl:=r.length
 refine⟨by simp[L2.start,jJk,hl],fun i t h=> ?_⟩
 unfold jJk at h
 unfold L2.start
 by_cases hi:i<xs.length
 ·rw[lKh (by simpa using hi),lJe] at h
  cases e:xs[i]? with
  | none=>rw[e] at h;cases h
  | some x=>
   rw[e] at h;cases h
   obtain⟨v,hv,rv⟩:=r.get e
   exact⟨v,by rw[lKh (by simp;omega),lJe,hv];rfl,rv⟩
 ·rw[lQa (by simpa using hi),lQ0] at h
  split at h<;>cases h
theorem fn3 {P:Program} {w:World} {K:PySem.W.Frag} {mg:Str->Option Value} {base:Heap} {x qual:Str} {st:Stmt} {f:Addr} {fd:FuncData} {N ps:List Str} {k:Nat} {sp:Sp3} (F:Fun K x qual st f fd) (S:FnScope N ps (jJf st))
  (hbody:∀(cdv:Value) (A:Around) (outer:List Env) (s:Shared) (H:Hp) (E:XK),Room k (A.deeper (envOfC qual (jJf st) s.heap.objs.size f cdv))->
   ∃t,PSs3 (cxOf CX0 P w K mg base N qual (jJf st) f cdv A outer s H E).nox (jJx st) t/\∀xs G Q,sp xs G Q->t {nx:=fun _ G'=>Q .non G',rt:=Q} (jJk N xs) G):Fn3 P w K mg base (k+1) f fd ps sp:=by
 refine Fun.ok (sp:=dn K ps.length sp) F S (fun vs H Q E h=>h.1) fun cdv A outer s H vs Q E hr hsp=> ?_
 obtain⟨t,ht,hq⟩:=hbody cdv A outer s H E hr
 obtain⟨hl,xs,G,rs,hg,hsp⟩:=hsp
 refine⟨fun D σ H1=>D.nx=(fun _ H'=>Q .non H')/\D.rt=Q/\σ=L2.start N vs/\H1=H,?_,rfl,rfl,rfl,rfl⟩
 rintro pins s1 σ1 H1 D I ⟨e1,e2,e3,e4⟩
 subst e3;subst e4
 have I3:Inv3 (cxOf CX0 P w K mg base N qual (jJf st) f cdv A outer s H1 E).nox pins (jJk N xs) G H1 s1:=⟨_,I,start_rel rs,hg⟩
 refine thn (ht pins s1 _ G H1 _ I3 (hq xs G _ hsp)) fun fl s2 z=> ?_
 cases fl with
 | next=>obtain⟨τ',G',H',e',⟨σ',I',a,b⟩,q⟩:=z;exact⟨σ',H',I',by rw[e1];exact q .non H' e' b rfl⟩
 | brk=>obtain⟨τ',G',H',e',_,q⟩:=z;exact q.elim
 | cont=>obtain⟨τ',G',H',e',_,q⟩:=z;exact q.elim
 | ret u=>obtain⟨x',τ',G',H',e',⟨σ',I',a,b⟩,⟨v,rv,ru⟩,q⟩:=z;exact⟨v,σ',H',I',ru,by rw[e2];exact q v H' e' b rv⟩
end L3
namespace L3
open PySem PySem.Spec PyProof.Rows L2
mutual
noncomputable def dep:T->Nat
 | .tup xs=>deps xs+1
 | _=>0
noncomputable def deps:List T->Nat
 | []=>0
 | x::xs=>max (dep x) (deps xs)
end
mutual
noncomputable def tree:T->Bool
 | .tup xs=>jUi xs
 | .ref _=>false
 | .scr _=>false
 | .ty _=>false
 | .non=>true
 | .bl _=>true
 | .int _=>true
 | .str _=>true
noncomputable def jUi:List T->Bool
 | []=>true
 | x::xs=>tree x&&jUi xs
end
mutual
noncomputable def eqT:T->T->Bool
 | .non,.non=>true
 | .bl a,.bl b=>a == b
 | .bl a,.int b=>(if a then 1 else 0) == b
 | .int a,.bl b=>a == (if b then 1 else 0)
 | .int a,.int b=>a == b
 | .str a,.str b=>a == b
 | .tup xs,.tup ys=>eqTs xs ys
 | _,_=>false
noncomputable def eqTs:List T->List T->Bool
 | [],[]=>true
 | x::xs,y::ys=>eqT x y&&eqTs xs ys
 | [],_::_=>false
 | _::_,[]=>false
end
mutual
theorem eqT_same {K:PySem.W.Frag} {H:Hp}:∀(x y:T) {a:V},tree x=true->tree y=true->Rep K H x a->Rep K H y a->eqT x y=true
 | .non,y,a,hx,hy,r,q=>by
  cases (show a= .non from r)
  cases y<;>first | rfl | (exact absurd (show false=true from hy) lJl) | (cases (show V.non=_ from q)) | (obtain⟨_,_,e,_⟩:=(show ∃c vs,V.non= .ref c/\_ from q);cases e)
 | .bl b,y,a,hx,hy,r,q=>by
  cases (show a= .bl b from r)
  cases y with
  | bl c=>cases (show V.bl b=V.bl c from q);simp[eqT]
  | tup ys=>obtain⟨_,_,e,_⟩:=(show ∃c vs,V.bl b= .ref c/\_ from q);cases e
  | non=>cases (show V.bl b= .non from q)
  | int c=>cases (show V.bl b= .int c from q)
  | str c=>cases (show V.bl b= .str c from q)
  | _=>exact absurd (show false=true from hy) lJl
 | .int b,y,a,hx,hy,r,q=>by
  cases (show a= .int b from r)
  cases y with
  | int c=>cases (show V.int b=V.int c from q);simp[eqT]
  | tup ys=>obtain⟨_,_,e,_⟩:=(show ∃c vs,V.int b= .ref c/\_ from q);cases e
  | non=>cases (show V.int b= .non from q)
  | bl c=>cases (show V.int b= .bl c from q)
  | str c=>cases (show V.int b= .str c from q)
  | _=>exact absurd (show false=true from hy) lJl
 | .str b,y,a,hx,hy,r,q=>by
  cases (show a= .str b from r)
  cases y with
  | str c=>cases (show V.str b=V.str c from q);simp[eqT]
  | tup ys=>obtain⟨_,_,e,_⟩:=(show ∃c vs,V.str b= .ref c/\_ from q);cases e
  | non=>cases (show V.str b= .non from q)
  | bl c=>cases (show V.str b= .bl c from q)
  | int c=>cases (show V.str b= .int c from q)
  | _=>exact absurd (show false=true from hy) lJl
 | .tup xs,y,a,hx,hy,r,q=>by
  obtain⟨p,vs,e,h1,h2⟩:=(show ∃p vs,a= .ref p/\H p=some (.tup vs)/\Reps K H xs vs from r)
  subst e
  cases y with
  | tup ys=>
   obtain⟨p',vs',e',h1',h2'⟩:=(show ∃p' vs',V.ref p= .ref p'/\H p'=some (.tup vs')/\Reps K H ys vs' from q)
   cases e'
   rw[h1] at h1';cases h1'
   exact eqTs_same xs ys (show jUi xs=true from hx) (show jUi ys=true from hy) h2 h2'
  | non=>cases (show V.ref p= .non from q)
  | bl c=>cases (show V.ref p= .bl c from q)
  | int c=>cases (show V.ref p= .int c from q)
  | str c=>cases (show V.ref p= .str c from q)
  | _=>exact absurd (show false=true from hy) lJl
 | .ref _,_,_,hx,_,_,_=>absurd (show false=true from hx) lJl
 | .scr _,_,_,hx,_,_,_=>absurd (show false=true from hx) lJl
 | .ty _,_,_,hx,_,_,_=>absurd (show false=true from hx) lJl
theorem eqTs_same {K:PySem.W.Frag} {H:Hp}:∀(xs ys:List T) {vs:List V},jUi xs=true->jUi ys=true->Reps K H xs vs->Reps K H ys vs->eqTs xs ys=true
 | [],ys,_,_,_,r,q=>by
  cases r
  cases ys with
  | nil=>rfl
  | cons y ys=>obtain⟨_,_,e,_⟩:=q;cases e
 | x::xs,ys,_,hx,hy,⟨v,ws,e,r1,r2⟩,q=>by
  subst e
  cases ys with
  | nil=>cases q
  | cons y ys=>
   obtain⟨v',ws',e',q1,q2⟩:=q
   cases e'
   have hx':tree x=true/\jUi xs=true:=by simpa[jUi] using hx
   have hy':tree y=true/\jUi ys=true:=by simpa[jUi] using hy
   show (eqT x y&&eqTs xs ys)=true
   rw[eqT_same x y hx'.1 hy'.1 r1 q1,eqTs_same xs ys hx'.2 hy'.2 r2 q2]
   rfl
end
end L3
namespace L3
open PySem PySem.Spec PyProof.Rows L2
section
variable {X:Cx}
noncomputable def rSub:R3:=rI0 fun i j=> .int (i-j)
noncomputable def rMod:R3:=rI (fun _ j=>0<j) fun i j=> .int (i%j)
noncomputable def rFdiv:R3:=rI CDiv fun i j=> .int (i / j)
noncomputable def rPow:R3:=rI CPow fun i j=> .int (i^j.toNat)
noncomputable def rLt:R3:=rI0 fun i j=> .bl (decide (i<j))
noncomputable def rGt:R3:=rI0 fun i j=> .bl (decide (j<i))
noncomputable def rGe:R3:=rI0 fun i j=> .bl (decide (j<=i))
noncomputable def rIsN:R3:=fun x y G Q=>y= .non/\Q (.bl (isNon x)) G
noncomputable def rNotN:R3:=fun x y G Q=>y= .non/\Q (.bl (!isNon x)) G
noncomputable def rCatT:R3:=fun x y G Q=>∃xs ys,x= .tup xs/\y= .tup ys/\xs≠[]/\xs.length+ys.length<=sizeLine/\Q (.tup (xs++ys)) G
theorem o_catT:Op3 X (binaryOp .Add) rCatT:=
 Op3.of op_catT fun H G x y a b Q hg ra rb ⟨xs,ys,ex,ey,hx,hz,q⟩=>by
  subst ex;subst ey
  obtain⟨p,vs,e1,h1,h2⟩:=(show ∃p vs,a= .ref p/\H p=some (.tup vs)/\Reps X.K H xs vs from ra)
  obtain⟨p',ws,e2,h3,h4⟩:=(show ∃p vs,b= .ref p/\H p=some (.tup vs)/\Reps X.K H ys vs from rb)
  subst e1;subst e2
  have l1:=h2.length
  have l2:=h4.length
  refine⟨p,p',vs,ws,rfl,rfl,.of h1,.of h3,fun z=>hx ?_,by omega,fun z=> ?_,fun z l hl=> ?_⟩
  ·rw[z] at l1;exact lQq.mp l1
  ·rw[z] at l2
   have:ys=[]:=lQq.mp l2
   subst this
   exact⟨.tup (xs++[]),G,.refl H,hg,by rw[lQg];exact ra,q⟩
  ·exact⟨.tup (xs++ys),G,.upd (.none hl),hg.tupNew hl,Rep.tupNew (h2.append h4) hl,q⟩
noncomputable def rAddI:R3:=rI0 fun i j=> .int (i+j)
noncomputable def rAddA:R3:=fun x y G Q=>rAddI x y G Q\/rCat x y G Q\/rCatT x y G Q
theorem o_addA:Op3 X (binaryOp .Add) rAddA:=o_add.or (o_cat.or o_catT)
noncomputable def rMulI:R3:=rI CMul fun i j=> .int (i*j)
noncomputable def rMulA:R3:=fun x y G Q=>rMulI x y G Q\/rRep x y G Q
theorem o_mulA:Op3 X (binaryOp .Mult) rMulA:=o_mul.or o_rep
noncomputable def rNeg:T->Gp->VK3->Prop:=fun x G Q=>∃i,x= .int i/\Q (.int (-i)) G
theorem u_neg:Un3 X (unaryOp .USub) rNeg:=
 Un3.of un_neg fun H G x a Q hg ra ⟨i,e,q⟩=>by
  subst e;cases (show a= .int i from ra)
  exact⟨i,rfl,.int (-i),G,.refl H,hg,rfl,q⟩
theorem jJ2 (b:Expr) {op:CmpOp} (h:behindInMarks op b=false:=by first | exact nomark _ | with_unfolding_all rfl):behindInMarks op b=false:=h
variable {a b c:Expr} {ta tb tc:TE3} {pos:Pos}
mutual
noncomputable def td:T->PyData
 | .tup xs=> .tuple (tds xs)
 | .int i=> .int i
 | .bl b=> .bool b
 | .str x=> .str x
 | .non=> .none
 | .ref _=> .none
 | .scr _=> .none
 | .ty _=> .none
noncomputable def tds:List T->List PyData
 | []=>[]
 | x::xs=>td x::tds xs
end
noncomputable def eqOk (x:T):Bool:=tree x&&(td x).canLay0&&decide ((td x).depth<=50)
noncomputable def kUz (xs:List T):Bool:=jUi xs&&PyData.canLayAll0 (tds xs)&&decide ((PyData.list (tds xs)).depth<=50)
noncomputable def eqG (G:Gp) (x y:T):Option Bool:=match x,y with
 | .ref p,.ref q=>match G p,G q with
  | some (.lst xs),some (.lst ys)=>if kUz xs=true/\kUz ys=true then some (eqTs xs ys) else none
  | _,_=>none
 | _,_=>if eqOk x=true/\eqOk y=true then some (eqT x y) else none
noncomputable def rEqA:R3:=fun x y G Q=>∃b,eqG G x y=some b/\Q (.bl b) G
noncomputable def rNeA:R3:=fun x y G Q=>∃b,eqG G x y=some b/\Q (.bl (!b)) G
noncomputable def truT (G:Gp):T->Option Bool
 | .non=>some false
 | .bl b=>some b
 | .int i=>some (i != 0)
 | .tup xs=>some (!xs.isEmpty)
 | .ref p=>match G p with
  | some (.lst xs)=>some (!xs.isEmpty)
  | some (.dck kvs)=>some (!kvs.isEmpty)
  | _=>none
 | _=>none
noncomputable def rTru:T->Gp->(Bool->Gp->Prop)->Prop:=fun x G Q=>∃b,truT G x=some b/\Q b G
theorem jZ3 {K:PySem.W.Frag} {H:Hp} {xs:List T} {vs:List V} (r:Reps K H xs vs):xs.isEmpty=vs.isEmpty:=by
 have:=r.length
 cases xs<;>cases vs<;>simp_all
theorem tru_any:Tru3 X rTru:=
 Tru3.of tru_ok fun H G x a Q hg ra ⟨b,hb,q⟩=>by
  refine⟨b,?_,rfl,q⟩
  cases x with
  | non=>cases (show a= .non from ra);cases hb;rfl
  | bl k=>cases (show a= .bl k from ra);cases hb;rfl
  | int k=>cases (show a= .int k from ra);cases hb;rfl
  | tup xs=>
   obtain⟨p,vs,e1,h1,h2⟩:=(show ∃p vs,a= .ref p/\H p=some (.tup vs)/\Reps X.K H xs vs from ra)
   subst e1;cases hb
   exact .inr (.inl ⟨vs,.of h1,by rw[jZ3 h2]⟩)
  | ref p=>
   cases (show a= .ref p from ra)
   cases hG:G p with
   | none=>simp only[truT,hG] at hb;cases hb
   | some o=>
    simp only[truT,hG] at hb
    cases o with
    | lst xs=>cases hb;obtain⟨vs,h1,h2⟩:=hg.lst hG;exact .inl ⟨vs,.of h1,by rw[jZ3 h2]⟩
    | dct _=>cases hb
    | fdc _=>cases hb
    | ins _ _=>cases hb
    | dck kvs=>
     cases hb
     obtain⟨ws,h1,h2⟩:=hg p _ hG
     refine .inr (.inr ⟨ws,h1,?_⟩)
     cases h2<;>rfl
  | str _=>cases hb
  | scr _=>cases hb
  | ty _=>cases hb
end
end L3
namespace L3
open PySem PySem.Spec PyProof.Rows L2
section
variable {X:Cx} {pins:List (Addr×Obj)} {σ:L2.St} {H:Hp} {s:Shared} {h':Heap}
theorem turnedL {t':Nat} {fp:List Addr} (I:Inv X pins σ H s) (k:∀b o,b∉fp->s.heap.get? b=some o->h'.get? b=some o) (hf:∀b∈fp,FpOk X pins H b):Inv X pins σ H {s with heap:=h',toks:=t'}:=by
 have nit:∀b u,H b=some u->b∉fp:=fun b u e z=>by rw[(hf b z).1] at e;cases e
 refine I.step (g':=s.gens) (d':=s.drawn) (ch:=fp) (fun b hb=>⟨(hf b hb).2.2.2.1,(hf b hb).2.1,(hf b hb).2.2.2.2.1,(hf b hb).2.2.2.2.2⟩) (fun b o _ _ hc e _=>k b o hc e) (fun b o _ _ hc e _=>⟨o.slots,k b o hc e⟩) (fun _ _ _ _ n=>n)
  (fun b o hc e=>⟨o,k b o hc e⟩) (fun _ _ e=>e) (fun _ _ _ e=>e) (fun b ps e=>⟨#[],by rw[e];simp⟩) (fun m hm=> ?_) (fun b u e=> ?_) I.bare
 ·obtain⟨o,es,ep,ho,r⟩:=hm
  exact⟨o,es,ep,k _ o (fun z=>(hf _ z).2.1 rfl) ho,r⟩
 ·refine (I.hok b u e).stay (fun c v hc q=>k c v ?_ q) (fun _ q=>q) fun _ _ q=>q
  rcases hc with z | z
  ·rw[z];exact nit b u e
  ·exact nit c _ z
theorem kJz {t':Nat} {fp:List Addr} {p:Addr} {vs:List V} {us:List Value} (I:Inv X pins σ H s) (k:∀b o,b∉fp->s.heap.get? b=some o->h'.get? b=some o) (hf:∀b∈fp,FpOk X pins H b)
  (hp:s.heap.objs.size<=p) (ht:TupD h' p us.toArray) (r:Vals vs us) (hz:vs.length<=sizeLine):Inv X pins σ (upd H p (.tup vs)) {s with heap:=h',toks:=t'}:=by
 have hn:H p=none:=I.hok.fresh hp
 have nit:∀b u,H b=some u->b∉fp:=fun b u e z=>by rw[(hf b z).1] at e;cases e
 have old:∀b o,s.heap.get? b=some o->b≠p:=fun b o e=>lJo (lJz (Heap.lt_size e) hp)
 have tr:∀b u,H b=some u->b≠p:=fun b u e z=>by rw[z,hn] at e;cases e
 refine I.step (g':=s.gens) (d':=s.drawn) (ch:=fp) (fun b hb=>⟨(hf b hb).2.2.2.1,(hf b hb).2.1,(hf b hb).2.2.2.2.1,(hf b hb).2.2.2.2.2⟩) (fun b o _ _ hc e _=>k b o hc e) (fun b o _ _ hc e _=>⟨o.slots,k b o hc e⟩) (fun b o _ e n=>by rw[jKx (old b o e)];exact n)
  (fun b o hc e=>⟨o,k b o hc e⟩) (fun b _ e=>by rw[jKx (tr b _ e)];exact e) (fun b _ _ e=>by rw[jKx (tr b _ e)];exact e) (fun b ps e=>⟨#[],by rw[jKx (tr b _ e),e];simp⟩) (fun m hm=> ?_) (fun b u e=> ?_) I.bare
 ·obtain⟨o,es,ep,ho,r⟩:=hm
  exact⟨o,es,ep,k _ o (fun z=>(hf _ z).2.1 rfl) ho,r⟩
 ·by_cases hb:b=p
  ·subst hb
   rw[jUc] at e
   cases e
   exact⟨hz,us,r,ht⟩
  ·rw[jKx hb] at e
   refine (I.hok b u e).stay (fun c v hc q=>k c v ?_ q) (fun c q=>by rw[jKx (tr c _ q)];exact q) fun c _ q=>by rw[jKx (tr c _ q)];exact q
   rcases hc with z | z
   ·rw[z];exact nit b u e
   ·exact nit c _ z
end
noncomputable def Ite (K:PySem.W.Frag) (a:Addr):It:=
 ⟨fun i H=>∃xs x,SqL K H a xs/\xs[i]? =some x,fun i H x H'=>∃p y,H p=none/\x= .ref p/\(∀xs,SqL K H a xs->xs[i]? =some y)/\H'=upd H p (.tup [.int i,y]),fun i H=>∃xs,SqL K H a xs/\xs.length<=i⟩
theorem turn_enum {P:Program} {w:World} {K:PySem.W.Frag} {elts:List Expr} {k:Nat} {pos:Pos} (a e it:Addr) (hei:e≠it):
  Turn P w K (.Tuple elts k pos) (Ite K a) [e,it] e (fun i h=>(∃old,IsEnum h e it i old)/\h.IsListIter it a i) where
 mem:=by simp
 obj:=fun i h ⟨⟨old,h1⟩,h2⟩ b hb=>by
  have hb':b=e\/b=it:=by simpa using hb
  rcases hb' with z | z
  ·subst z;exact⟨_,h1,fun v z=>nomatch (show Data.fields _=Data.cell v from z)⟩
  ·subst z
   obtain⟨o,e2,c,d⟩:=h2
   exact⟨o,e2,fun v z=>by rw[d] at z;cases z⟩
 keep:=fun i h h' ⟨⟨old,h1⟩,h2⟩ kp=>⟨⟨old,kp e (by simp) _ h1⟩,h2.at fun o q=>kp it (by simp) o q⟩
 item:=by
  rintro X hP hw hK hc i pins s σ H E I hf ⟨⟨old,he⟩,hit⟩ hg
  subst hP hw hK
  obtain⟨xs,x,hq,hx⟩:=hg
  obtain⟨its,rv,p,hz⟩:=I.list hq
  obtain⟨u,hu,ru⟩:=rv.get hx
  refine wpAny_pyNext_enum_item he hit p.isList (x:=u) (by simpa using hu) hei fun h1 ho hit1 hT hsz hk=> ?_
  refine⟨_,rfl,wpAny_letOwnedTupleGo_enum ho fun h2 he2 hs2=> ?_⟩
  have hel:e<s.heap.objs.size:=Heap.lt_size he
  have hp2:∀b o,b∉[e,it]->s.heap.get? b=some o->h2.get? b=some o:=fun b o hb q=>by
   have hb1:b≠e:=fun z=>hb (by simp[z])
   have hb2:b≠it:=fun z=>hb (by simp[z])
   exact (hs2.2 b hb1).trans (hk b o hb1 hb2 q)
  have hT2:h2.get? s.heap.objs.size=some {cls:= .type "tuple",data:= .seq #[.int i s.toks,u]}:=(hs2.2 _ (lKv hel)).trans hT
  have I2:=kJz (t':=s.toks+1) (h':=h2) (p:=s.heap.objs.size) (vs:=[.int i,x]) (us:=[.int i s.toks,u]) I hp2 hf (lJd _) ⟨_,hT2,rfl,_,rfl,rfl⟩ (.cons ⟨_,rfl⟩ (.cons ru .nil)) (by show 2<=sizeLine;decide)
  refine⟨.ref s.heap.objs.size,_,I2,rfl,⟨_,x,I.hok.fresh (lJd _),rfl,fun ys hy=>by rw[I.list_inj hy hq];exact hx,rfl⟩,⟨⟨u,by simpa using he2⟩,hit1.at fun o q=>(hs2.2 it hei.symm).trans q⟩,fun b hb=> ?_⟩
  have hbs:∃o,s.heap.get? b=some o:=by
   have hb':b=e\/b=it:=by simpa using hb
   rcases hb' with z | z
   ·subst z;exact⟨_,he⟩
   ·subst z;obtain⟨o,q,_⟩:=hit;exact⟨o,q⟩
  obtain⟨o,q⟩:=hbs
  rw[jKx (lJo (Heap.lt_size q))]
  exact (hf b hb).1
 done:=by
  rintro X hP hw hK hc i pins s σ H E I hf ⟨⟨old,he⟩,hit⟩ hg
  subst hP hw hK
  obtain⟨xs,hq,hx⟩:=hg
  obtain⟨its,rv,p,hz⟩:=I.list hq
  have hl:=rv.length
  exact wpAny_pyNext_enum_end (I.ok.hd hc) he hit p.isList (by simp;omega) fun h1 hx1=>⟨rfl,turnedL (t':=s.toks) I (fun b o hb q=>hx1 b o (fun z=>hb (by simp[z])) q) hf⟩
 self:=fun _ _ _ _ _ ⟨⟨old,he⟩,_⟩ h=>wpAny_pyIter_enum he h
noncomputable def numT (xs:List T):List T:=(List.range xs.length).map fun (i:Nat)=>T.tup [.int i,xs.getD i .non]
theorem jYb {xs:List T} {i:Nat} {x:T} (h:xs[i]? =some x):(numT xs)[i]? =some (.tup [.int i,x]):=by
 have hi:i<xs.length:=by
  rcases lJ5 i xs.length with z | z
  ·exact z
  ·rw[lJk z] at h;cases h
 have hx:xs[i]=x:=(lJb.mp h).2
 simp[numT,hi,List.getD,hx]
theorem jKj {xs:List T}:(numT xs).length=xs.length:=by simp[numT]
noncomputable def jXf (G:Gp):T->Option (List T)
 | .ref p=>asL (G p)
 | .scr xs=>some xs
 | _=>none
theorem jZc {K:PySem.W.Frag} {H:Hp} {G:Gp} {x:T} {a:V} {xs:List T} (hg:GRel K H G) (r:Rep K H x a) (h:jXf G x=some xs):∃p vs,a= .ref p/\SqL K H p vs/\Reps K H xs vs:=by
 cases x with
 | scr ys=>cases h;obtain⟨p,vs,e,h1,h2⟩:=(show ∃p vs,a= .ref p/\FrL K H p vs/\Reps K H xs vs from r);exact⟨p,vs,e,h1.sq,h2⟩
 | ref p=>
  obtain⟨vs,h1,h2⟩:=hg.lst (jZh h)
  exact⟨p,vs,r,.of h1,h2⟩
 | tup _=>cases h
 | non=>cases h
 | bl _=>cases h
 | int _=>cases h
 | str _=>cases h
 | ty _=>cases h
noncomputable def kKg (ta:TA3):TI3:=fun τ G R=>ta τ G fun vs G1=>∃x xs,vs=[x]/\jXf G1 x=some xs/\R (numT xs) (fun G'=>jXf G' x=some xs) G1
theorem i_enum {X:Cx} {elts:List Expr} {k:Nat} {tpos pos p:Pos} {a:Expr} {ta:TA3} (hg:Gl X "enumerate") (hm:X.mg "enumerate"=none) (hv:bootBuiltins "enumerate"=some (.type "enumerate")) (ha:PA3 X [a] ta) (hs:starEach [a] X.env=[(false,eval a X.env)]:=by rfl):
  PI3 X (.Tuple elts k tpos) (.Call (.Name "enumerate" p) [a] [] pos) (kKg ta):=by
 intro pins s τ G H R I h
 obtain⟨σ0,I0,hs0,hg0⟩:=id I
 refine Call_ (jV2 I0 hg hm hv (PyProof.Rows.callWith_type1 (thn (ha pos pins s τ G H _ I h) fun us s1 w_=>w_.el fun xs' G1 H1 e1 i_ r_ q1=>i_.el fun σ I1 hs1 hg1=>r_.el fun as ras rvs=> ?_) hs rfl))
 obtain⟨x,xs,e,hx,q⟩:=q1
 subst e
 obtain⟨v,rfl,rv⟩:=jXl ras
 obtain⟨u,rfl,ru⟩:=rvs.one
 obtain⟨pa,vs,rfl,hq,r⟩:=jZc hg1 rv hx
 cases ru
 obtain⟨its,rvv,pl,hz⟩:=I1.list hq
 refine call_enumerate_list pl.isList fun h1 he hit hsz hk=> ?_
 have I2:Inv X pins σ H1 {s1 with heap:=h1}:=I1.kept (t':=s1.toks) hk
 refine wpAny_pyIter_enum (Q:=PIE3 X pins τ H (.Tuple elts k tpos) R) he ?_
 have fr:∀b∈[s1.heap.objs.size+1,s1.heap.objs.size],FpOk X pins H1 b:=fun b hb=>by
  have hb':b=s1.heap.objs.size+1\/b=s1.heap.objs.size:=by simpa using hb
  have hle:s1.heap.objs.size<=b:=by omega
  exact I1.fpOk hle (I1.hok.fresh hle)
 refine⟨s1.heap.objs.size+1,[s1.heap.objs.size+1,s1.heap.objs.size],_,_,numT xs,fun G'=>jXf G' x=some xs,G1,H1,rfl,e1,⟨σ,I2,hs1,hg1⟩,turn_enum pa _ _ (Nat.succ_ne_self _),⟨⟨.none,he⟩,hit⟩,fr,?_,q⟩
 intro i H2 G2 e2 g2 st
 obtain⟨pb,ws,eb,h1,h2⟩:=jZc g2 (Rep.mono e2 _ rv) st
 cases eb
 have hlen:=h2.length
 refine⟨fun hi=> ?_,fun hi=>⟨ws,h1,by rw[jKj] at hi;omega⟩,fun hi y H' ⟨pp,z,hn,ey,hy,eH⟩=> ?_⟩
 ·rw[jKj] at hi
  exact⟨ws,ws[i]'(by omega),h1,by simp[hlen▸hi]⟩
 ·subst ey;subst eH
  obtain⟨t,ht,rt⟩:=h2.get' (hy ws h1)
  exact⟨.upd (.none hn),g2.tupNew hn,_,jYb ht,Rep.tupNew ⟨_,_,rfl,rfl,_,_,rfl,rt,rfl⟩ hn⟩
end L3
namespace L3
open PySem PySem.Spec PyProof.Rows L2
noncomputable def clGo (env:Env):List (Str×NameKind)->List (Str×Addr)->Option (List (Str×Addr))
 | [],cs=>some cs
 | (n,k)::r,cs=>if (k == .free)=true then (match env.cells.lookup n with | some c=>clGo env r ((n,c)::cs) | none=>none) else clGo env r cs
theorem kQu {scope:Scope} {env:Env} {cl:List (Str×Addr)} (h:clGo env scope.names []=some cl):closureFor scope env=pure cl:=by
 unfold closureFor
 have go:∀(names:List (Str×NameKind)) (cs:List (Str×Addr)),clGo env names cs=some cl->
   (forIn names cs fun (x:Str×NameKind) (r:List (Str×Addr))=>(match x with | (nm,kd)=>if (kd == .free)=true then cellOf env nm >>= fun a=>pure (ForInStep.yield ((nm,a)::r)) else pure (ForInStep.yield r):Sem (ForInStep (List (Str×Addr)))))=pure cl:=by
  intro names
  induction names with
  | nil=>intro cs e;cases e;rfl
  | cons x r ih=>
   obtain⟨n,k⟩:=x
   intro cs e
   unfold clGo at e
   rw[List.forIn_cons]
   by_cases hk:(k == NameKind.free)=true
   ·rw[if_pos hk] at e
    cases hc:env.cells.lookup n with
    | none=>rw[hc] at e;cases e
    | some c=>
     rw[hc] at e
     have hco:cellOf env n=pure c:=by unfold cellOf;rw[hc]
     simp only[hk,if_true,hco,pure_bind]
     exact ih _ e
   ·rw[if_neg hk] at e
    simp only[hk,pure_bind,if_false,lKa]
    exact ih _ e
 have:=go scope.names [] h
 simpa using this
theorem kJs {env:Env} {cl:List (Str×Addr)}:∀ {names:List (Str×NameKind)} {cs:List (Str×Addr)},clGo env names cs=some cl->(∀n c,cs.lookup n=some c->env.cells.lookup n=some c)->∀n c,cl.lookup n=some c->env.cells.lookup n=some c
 | [],cs,e,h=>by cases e;exact h
 | (n,k)::r,cs,e,h=>by
  unfold clGo at e
  by_cases hk:(k == NameKind.free)=true
  ·rw[if_pos hk] at e
   cases hc:env.cells.lookup n with
   | none=>rw[hc] at e;cases e
   | some c=>
    rw[hc] at e
    refine kJs e fun m d q=> ?_
    rw[lKj] at q
    by_cases hm:(m == n)=true
    ·rw[hm] at q;cases q;rw[eq_of_beq hm];exact hc
    ·simp only[hm] at q;exact h m d q
  ·rw[if_neg hk] at e
   exact kJs e h
theorem kKn {env:Env} {cl:List (Str×Addr)} {m:Str}:∀ {names:List (Str×NameKind)} {cs:List (Str×Addr)},clGo env names cs=some cl->(∃c,cs.lookup m=some c)->∃c,cl.lookup m=some c
 | [],cs,e,h=>by cases e;exact h
 | (n,k)::r,cs,e,h=>by
  unfold clGo at e
  by_cases hk:(k == NameKind.free)=true
  ·rw[if_pos hk] at e
   cases hc:env.cells.lookup n with
   | none=>rw[hc] at e;cases e
   | some c=>
    rw[hc] at e
    refine kKn e ?_
    rw[lKj]
    by_cases hm:(m == n)=true
    ·rw[hm];exact⟨_,rfl⟩
    ·simp only[hm];exact h
  ·rw[if_neg hk] at e
   exact kKn e h
theorem kJt {env:Env} {cl:List (Str×Addr)} {m:Str}:∀ {names:List (Str×NameKind)} {cs:List (Str×Addr)},clGo env names cs=some cl->names.lookup m=some .free->∃c,cl.lookup m=some c
 | [],cs,e,h=>by simp at h
 | (n,k)::r,cs,e,h=>by
  unfold clGo at e
  rw[lKj] at h
  by_cases hm:(m == n)=true
  ·rw[hm] at h
   cases h
   rw[if_pos (show (NameKind.free == NameKind.free)=true from rfl)] at e
   cases hc:env.cells.lookup n with
   | none=>rw[hc] at e;cases e
   | some c=>
    rw[hc] at e
    refine kKn e ?_
    rw[lKj,hm];exact⟨_,rfl⟩
  ·simp only[hm] at h
   by_cases hk:(k == NameKind.free)=true
   ·rw[if_pos hk] at e
    cases hc:env.cells.lookup n with
    | none=>rw[hc] at e;cases e
    | some c=>rw[hc] at e;exact kJt e h
   ·rw[if_neg hk] at e
    exact kJt e h
theorem jVh {env:Env} {x:Str}:∀ {names:List (Str×NameKind)},(∀y∈names,y.2≠ .cell)->
  ((names.map fun (n,k)=>if (k == NameKind.free&&env.scope.kind == .function&&env.kindOf n == some .cell) then (n,NameKind.cell) else (n,k)).lookup x=some .cell\/
    (names.map fun (n,k)=>if (k == NameKind.free&&env.scope.kind == .function&&env.kindOf n == some .cell) then (n,NameKind.cell) else (n,k)).lookup x=some .free)->names.lookup x=some .free
 | [],_,h=>by simp at h
 | (n,k)::r,hc,h=>by
  have ih:= @jVh env x r (fun y hy=>hc y (lJs _ hy))
  have hk:=hc (n,k) lJq
  rw[lJh] at h
  rw[lKj]
  by_cases hx:(x == n)=true
  ·rw[hx]
   by_cases hf:(k == NameKind.free&&env.scope.kind == .function&&env.kindOf n == some .cell)=true
   ·have:(k == NameKind.free)=true:=by
     rw[lKe,lKe] at hf;exact hf.1.1
    rw[eq_of_beq this]
   ·simp only[hf,if_false,lKa,lKj,hx] at h
    rcases h with h | h
    ·cases h;exact absurd rfl hk
    ·cases h;rfl
  ·simp only[hx]
   refine ih ?_
   by_cases hf:(k == NameKind.free&&env.scope.kind == .function&&env.kindOf n == some .cell)=true
   ·simpa only[hf,if_true,lKj,hx] using h
   ·simpa only[hf,if_false,lKa,lKj,hx] using h
theorem jV9 {env:Env} {x:Str}:∀ {names:List (Str×NameKind)},
  (names.map fun (n,k)=>if (k == NameKind.free&&env.scope.kind == .function&&env.kindOf n == some .cell) then (n,NameKind.cell) else (n,k)).lookup x=some .local->names.lookup x=some .local
 | [],h=>by simp at h
 | (n,k)::r,h=>by
  have ih:= @jV9 env x r
  rw[lJh] at h
  rw[lKj]
  by_cases hx:(x == n)=true
  ·rw[hx]
   by_cases hf:(k == NameKind.free&&env.scope.kind == .function&&env.kindOf n == some .cell)=true
   ·simp only[hf,if_true,lKj,hx] at h;cases h
   ·simp only[hf,if_false,lKa,lKj,hx] at h;exact h
  ·simp only[hx]
   refine ih ?_
   by_cases hf:(k == NameKind.free&&env.scope.kind == .function&&env.kindOf n == some .cell)=true
   ·simpa only[hf,if_true,lKj,hx] using h
   ·simpa only[hf,if_false,lKa,lKj,hx] using h
noncomputable def jV4 (X:Cx) (scope:Scope) (cl:List (Str×Addr)) (C:Addr) (fp:List Addr) (s:Shared) (H:Hp):Cx:=
 {X with env:=compEnvC scope cl C X.env,s₀:=s,H₀:=H,outer:=X.stack,stack:=X.stack,ex:=fp,fn:=fun _=>false,pn:=[],xe:=fun _ _=>False}
structure CmpOk (X:Cx) (scope:Scope) (cl:List (Str×Addr)) (mask:List Bool):Prop where
 cl:clGo X.env scope.names []=some cl
 kind:scope.kind= .function
 nocell:(scope.names.all fun y=>y.2 != .cell)=true
 names:(scope.names.all fun y=>y.2 != .local||scope.names.lookup y.1 == some .local)=true
 vis:(scope.names.all fun y=>y.2 != .free||X.env.kindOf y.1 == some .cell||X.env.kindOf y.1 == some .free)=true
 len:mask.length=X.N.length
 mask:((X.N.zip mask).all fun p=>p.2||scope.names.lookup p.1 != some .local)=true
noncomputable def msk {α:Type} (mask:List Bool) (τ:List (Option α)):List (Option α):=List.zipWith (fun b o=>if b=true then none else o) mask τ
theorem msk_get {α:Type} {mask:List Bool} {τ:List (Option α)} {i:Nat} {t:α} (h:(msk mask τ)[i]? =some (some t)):mask[i]? =some false/\τ[i]? =some (some t):=by
 unfold msk at h
 rw[lQy] at h
 cases hm:mask[i]? with
 | none=>exact absurd (hm▸h) (by simp)
 | some b=>
  cases ht:τ[i]? with
  | none=>rw[hm,ht] at h;cases h
  | some o=>
   rw[hm,ht] at h
   cases b with
   | true=>simp at h
   | false=>simp at h;exact⟨rfl,by rw[h]⟩
theorem jZs {α:Type} {mask:List Bool} {τ:List (Option α)} (h:mask.length=τ.length):(msk mask τ).length=τ.length:=by
 unfold msk;rw[List.length_zipWith,h,Nat.min_self]
theorem msk_rel {K:PySem.W.Frag} {H:Hp} {σ:L2.St} {τ:St3} {mask:List Bool} (h:SRel K H σ τ) (hl:mask.length=τ.length):SRel K H (msk mask σ) (msk mask τ):=by
 refine⟨by rw[jZs hl,jZs (hl.trans h.1.symm),h.1],fun i t q=> ?_⟩
 obtain⟨h1,h2⟩:=msk_get q
 obtain⟨v,h3,h4⟩:=h.2 i t h2
 refine⟨v,?_,h4⟩
 unfold msk
 rw[lQy,h1,h3]
 simp
section
variable {X:Cx} {scope:Scope} {cl:List (Str×Addr)} {mask:List Bool}
theorem CmpOk.local (c:CmpOk X scope cl mask) {i:Nat} {x:Str} (h1:X.N[i]? =some x) (h2:mask[i]? =some false):scope.names.lookup x≠some .local:=by
 have h:=c.mask
 rw[lKy] at h
 have hz:(X.N.zip mask)[i]? =some (x,false):=by rw[lQ1];exact⟨h1,h2⟩
 have:=h _ (lJf hz)
 simpa using this
theorem CmpOk.free (c:CmpOk X scope cl mask) {x:Str} (h:scope.names.lookup x=some .free):X.env.kindOf x=some .cell\/X.env.kindOf x=some .free:=by
 have hv:=c.vis
 rw[lKy] at hv
 have:=hv (x,.free) (PySem.mem_of_lookup h)
 simpa using this
theorem CmpOk.nc (c:CmpOk X scope cl mask):∀y∈scope.names,y.2≠ .cell:=by
 have hv:=c.nocell
 rw[lKy] at hv
 intro y hy
 simpa using hv y hy
theorem CmpOk.nm (c:CmpOk X scope cl mask):∀y∈scope.names,y.2= .local->scope.names.lookup y.1=some .local:=by
 have hv:=c.names
 rw[lKy] at hv
 intro y hy e
 have:=hv y hy
 rw[e] at this
 simpa using this
theorem cmp_start (c:CmpOk X scope cl mask) {pins:List (Addr×Obj)} {σ:L2.St} {H:Hp} {s:Shared} {fp:List Addr} {h4:Heap} {tk:Nat} (I:Inv X pins σ H s) (hf:∀b∈fp,FpOk X pins H b) (ho:∀b∈fp,∃o,s.heap.get? b=some o)
  (hns:h4.Ns s.heap.objs.size fun _=>none) (hk:∀b o,s.heap.get? b=some o->h4.get? b=some o):
  Inv (jV4 X scope cl s.heap.objs.size fp s H) [] (msk mask σ) H {s with heap:=h4,toks:=tk}:=by
 have sub:=kJs c.cl (by simp)
 have ok:(jV4 X scope cl s.heap.objs.size fp s H).Ok:=by
  refine⟨I.ok.mod,c.kind,I.ok.glob,I.ok.blt,lJd _,fun x y d h1 h2=>I.ok.inj x y d (sub _ _ h1) (sub _ _ h2),fun x hx=>kJt c.cl (jVh (env:=X.env) c.nc hx),fun x d hx=>absurd (show false=true from hx) lJl,I.ok.hd,I.ok.gd,I.ok.frames,.inl rfl,
   fun b hb=> ?_,I.bs,lKb I.ok.bsz I.sz,fun b o e hb=> ?_,fun b hb hz=> ?_,I.stack,I.stkFree⟩
  ·obtain⟨o,e⟩:=ho b hb
   exact⟨lJo (Heap.lt_size e),fun x d hd=>(hf b hb).2.2.2.2.1 x d (sub _ _ hd)⟩
  ·rcases (hf b hb).2.2.2.1 with z | z
   ·exact I.ok.noex b o e z
   ·exact absurd (lJz (Heap.lt_size e) I.ok.bsz) (Nat.not_lt.mpr z)
  ·rcases lJi.mp (I.stkSub b hz) with z | z
   ·exact (hf b hb).2.1 z
   ·exact (hf b hb).2.2.1 z
 refine⟨ok,rfl,I.bare,Un.kept hk,⟨_,hns,fun i x v h1 h2 h3=> ?_⟩,fun x d hd=> ?_,I.hok.fresh (lJd _),fun x d hd=>I.freeC x d (sub _ _ hd),fun p hp=>absurd (show p∈([]:List (Addr×Obj)) from hp) (by simp),I.hok.kept hk,?_⟩
 ·obtain⟨m1,m2⟩:=msk_get h2
  have nl:=c.local h1 m1
  have fr:scope.names.lookup x=some .free:=by
   rcases h3 with z | z | z
   ·exact absurd (jV9 (env:=X.env) z) nl
   ·exact jVh (env:=X.env) c.nc (.inl z)
   ·exact jVh (env:=X.env) c.nc (.inr z)
  have hkk:=c.free fr
  obtain⟨m,hn,hl⟩:=I.loc
  have vis:Vis X.env.scope x:=by rcases hkk with z | z;exact .inr (.inl z);exact .inr (.inr z)
  obtain⟨u,ru,lk⟩:=hl i x v h1 m2 vis
  refine⟨u,ru,?_⟩
  rcases lk with ⟨z,_⟩ | ⟨_,d,hd,cd⟩
  ·exfalso;rcases hkk with q | q<;>(rw[z] at q;cases q)
  ·obtain⟨d',hd'⟩:=kJt c.cl fr
   have:d'=d:=by have:=sub _ _ hd';rw[hd] at this;exact (lJr this).symm
   subst this
   refine .inr ⟨?_,d',hd',cd.keeps hk⟩
   rcases h3 with z | z | z
   ·exact absurd (jV9 (env:=X.env) z) nl
   ·exact .inl z
   ·exact .inr z
 ·obtain⟨v,hv⟩:=I.cell x d (sub _ _ hd)
  exact⟨v,hv.keeps hk⟩
 ·exact (jZs (c.len.trans I.len.symm)).trans I.len
theorem cmp_end {pins:List (Addr×Obj)} {σ σ':L2.St} {H H':Hp} {s s':Shared} {fp:List Addr} {pl:List (Addr×Obj)} {C:Addr} (I:Inv X pins σ H s) (hf:∀b∈fp,FpOk X pins H b) (hC:s.heap.objs.size<=C)
  (J:Inv (jV4 X scope cl C fp s H) pl σ' H' s') {h':Heap} (hb:Heap.SameBut C s'.heap h'):Inv X pins σ H' {s' with heap:=h'}:=by
 have ne:∀b o,s.heap.get? b=some o->b≠C:=fun b o e=>lJo (lJz (Heap.lt_size e) hC)
 have u:=J.base
 have hfree:H' C=none:=J.free
 have u':Un (frs X.stack) fp H H' s.heap h':=⟨fun b o e n hb' hx=>(hb.2 b (ne b o e)).trans (u.keep b o e n hb' hx),fun b o e n hb' hx=>let ⟨sl,z⟩:=u.slot b o e n hb' hx;⟨sl,(hb.2 b (ne b o e)).trans z⟩,
  u.free,fun b o e hx=>let ⟨o',z⟩:=u.there b o e hx;⟨o',(hb.2 b (ne b o e)).trans z⟩,u.tups,u.frzs,u.tbls⟩
 have hok:HOk X.prog X.w H' h':=fun b ob e=>(J.hok b ob e).stay (fun c w' hc q=>(hb.2 c (by
  rintro rfl
  rcases hc with rfl | hc
  ·rw[hfree] at e;cases e
  ·rw[hfree] at hc;cases hc)).trans q) (fun _ q=>q) fun _ _ q=>q
 exact I.call' (s':={s' with heap:=h'}) J.os u' hok J.bare fun b hb=>⟨(hf b hb).2.2.2.1,(hf b hb).2.1,(hf b hb).2.2.2.2.1,(hf b hb).2.2.2.2.2⟩
end
noncomputable abbrev compTests (ifs:List Expr) (env:Env):Sem Bool:=forIn ifs true fun c b=>if b=true then isTrue c env (eval c env) >>= fun d=>pure (ForInStep.yield d) else pure (ForInStep.yield b)
noncomputable def CompStep (M:Model) (A:Around) (elt tg:Expr) (ifs:List Expr) (it acc:Value) (env:Env) (stop more:Shared->Prop):Option Value->Shared->Prop
 | none=>stop
 | some v=>fun z=>wpAny M A (letOwnedTupleGo tg it v) (fun _ z1=>wpAny M A (assign tg env v) (fun _ z2=>wpAny M A (compTests ifs env) (fun ok z3=>if ok=true then wpAny M A (eval elt env) (fun x z4=>wpAny M A (call (.builtin "list.append") [acc,x]) (fun _=>more) (fun _ _=>False) z4) (fun _ _=>False) z3 else more z3) (fun _ _=>False) z2) (fun _ _=>False) z1) (fun _ _=>False) z
theorem compLoop3 {P:Program} {w:World} {A:Around} {R:Result->Shared->Prop} {s:Shared} {elt tg iter:Expr} {ifs:List Expr} {scope:Scope} {pos:Pos} {it acc:Value} {env:Env} (I:Nat->Shared->Prop)
  (turn:∀k z,I k z->wpAny (model P w) A (pyNext it) (CompStep (model P w) A elt tg ifs it acc env (R (.ok .next)) fun z'=>∃m,m<k/\I m z') (fun _ _=>False) z) (n:Nat) (h:I n s):codeAny (model P w) A (.compLoop (.ListComp elt [⟨tg,iter,ifs,0⟩] scope pos) 0 it acc env) R s:=by
 refine codeAny_loop rfl I (fun k z hz=>(show wpAny _ A ((compTurn (.ListComp elt [⟨tg,iter,ifs,0⟩] scope pos) 0 it acc env).onRaise _) _ _ z from wpAny_noted ?_)) n h
 rw[compTurn_list]
 refine wpAny_bind (wpAny_standAt (wpAny_bind (wpAny_mono (turn k z hz) (fun r z1 h1=> ?_) fun _ _ e=>e.elim)))
 cases r with
 | none=>exact wpAny_pure h1
 | some v=>
  refine wpAny_bind (wpAny_mono h1 (fun _ z2 h2=>wpAny_bind (wpAny_mono h2 (fun _ z3 h3=>wpAny_bind (wpAny_mono h3 (fun ok z4 h4=> ?_) fun _ _ e=>e.elim)) fun _ _ e=>e.elim)) fun _ _ e=>e.elim)
  by_cases hok:ok=true
  ·subst hok
   exact wpAny_bind (wpAny_bind (wpAny_mono h4 (fun x z5 h5=>wpAny_bind (wpAny_mono h5 (fun _ z6 h6=>wpAny_pure (wpAny_pure ⟨rfl,h6⟩)) fun _ _ e=>e.elim)) fun _ _ e=>e.elim))
  ·obtain rfl:ok=false:=by simpa using hok
   exact wpAny_pure ⟨rfl,h4⟩
def PIf3 (X:Cx) (ifs:List Expr) (t:TT3):Prop:=∀(pins:List (Addr×Obj)) (s:Shared) (τ:St3) (G:Gp) (H:Hp) (Q:Bool->Gp->Prop),Inv3 X pins τ G H s->t τ G Q->
 wpAny (model X.prog X.w) X.A (forIn ifs true fun c r=>if r=true then do let ok <-isTrue c X.env (eval c X.env);pure (ForInStep.yield ok) else pure (ForInStep.yield r)) (TP3 X pins τ H Q) X.xe s
noncomputable def jUh:TT3:=fun _ G Q=>Q true G
theorem jQc {X:Cx}:PIf3 X [] jUh:=fun _ _ _ G H _ I q=>wpAny_tests_nil ⟨G,H,.refl H,I,q⟩
theorem if_one {X:Cx} {c:Expr} {t:TT3} (h:PT3 X c t):PIf3 X [c] t:=fun pins s τ G H Q I q=>wpAny_tests_one (h pins s τ G H Q I q)
def GKeep (mask:List Bool) (g:TG3):Prop:=∀v τ G Q,g v τ G Q->g v τ G fun τ2 G2=>Q τ2 G2/\τ2.length=τ.length/\∀i:Nat,mask[i]? ≠some true->τ2[i]? =τ[i]?
def GsKeep (mask:List Bool) (g:TGs3):Prop:=∀v τ G Q,g v τ G Q->g v τ G fun τ2 G2=>Q τ2 G2/\τ2.length=τ.length/\∀i:Nat,mask[i]? ≠some true->τ2[i]? =τ[i]?
theorem jJ3 {mask:List Bool} {i:Nat} (h:mask[i]? =some true:=by rfl):GKeep mask (jJj i):=fun v τ G Q q=>
 ⟨q,lKq ..,fun j hj=>lJ3 (by rintro rfl;exact hj h)⟩
theorem jZ5 {mask:List Bool}:GsKeep mask gNil:=fun v τ G Q ⟨e,q⟩=>⟨e,q,rfl,fun _ _=>rfl⟩
theorem jQu {mask:List Bool} {t:TG3} {u:TGs3} (h1:GKeep mask t) (mono:∀v τ G Q Q',(∀a b,Q a b->Q' a b)->t v τ G Q->t v τ G Q') (h2:GsKeep mask u) (mono2:∀v τ G Q Q',(∀a b,Q a b->Q' a b)->u v τ G Q->u v τ G Q'):GsKeep mask (jKg t u):=fun vs τ G Q ⟨v,r,e,q⟩=>by
 refine⟨v,r,e,mono _ _ _ _ _ (fun τ2 G2 ⟨z,l1,k1⟩=> ?_) (h1 _ _ _ _ q)⟩
 exact mono2 _ _ _ _ _ (fun τ3 G3 ⟨z3,l3,k3⟩=>⟨z3,l3.trans l1,fun i hi=>(k3 i hi).trans (k1 i hi)⟩) (h2 _ _ _ _ z)
theorem jKn {i:Nat}:∀v τ G (Q Q':St3->Gp->Prop),(∀a b,Q a b->Q' a b)->jJj i v τ G Q->jJj i v τ G Q':=fun _ _ _ _ _ h q=>h _ _ q
theorem jUz:∀v τ G (Q Q':St3->Gp->Prop),(∀a b,Q a b->Q' a b)->gNil v τ G Q->gNil v τ G Q':=fun _ _ _ _ _ h q=>⟨q.1,h _ _ q.2⟩
theorem jXp {t:TG3} {u:TGs3} (m1:∀v τ G (Q Q':St3->Gp->Prop),(∀a b,Q a b->Q' a b)->t v τ G Q->t v τ G Q') (m2:∀v τ G (Q Q':St3->Gp->Prop),(∀a b,Q a b->Q' a b)->u v τ G Q->u v τ G Q'):
  ∀v τ G (Q Q':St3->Gp->Prop),(∀a b,Q a b->Q' a b)->jKg t u v τ G Q->jKg t u v τ G Q':=fun _ _ _ _ _ h ⟨v,r,e,q⟩=>⟨v,r,e,m1 _ _ _ _ _ (fun _ _ z=>m2 _ _ _ _ _ h z) q⟩
theorem jZ4 {mask:List Bool} {n:Nat} {u:TGs3} (h:GsKeep mask u):GKeep mask (gTup n u):=fun v τ G Q ⟨xs,e,l,q⟩=>⟨xs,e,l,h _ _ _ _ q⟩
theorem msk_same {mask:List Bool} {τ τ2:St3} (hl:mask.length=τ.length) (l:τ2.length=(msk mask τ).length) (h:∀i:Nat,mask[i]? ≠some true->τ2[i]? =(msk mask τ)[i]?):msk mask τ2=msk mask τ:=by
 have ll:=jZs hl
 apply lJx
 intro i
 unfold msk at h ⊢
 rw[lQy,lQy]
 cases hm:mask[i]? with
 | none=>rfl
 | some b=>
  cases b with
  | true=>
   have h1:i<mask.length:=by
    rcases lJ5 i mask.length with z | z
    ·exact z
    ·rw[lJk z] at hm;cases hm
   have h2:i<τ2.length:=by omega
   have h3:i<τ.length:=by omega
   rw[lJa h2,lJa h3]
   simp
  | false=>
   have:=h i (by rw[hm];simp)
   rw[lQy,hm] at this
   rw[this]
   cases τ[i]? with
   | none=>rfl
   | some o=>simp
def tCompAt (mask:List Bool) (g:TG3) (tif:TT3) (te:TE3) (τ:St3) (xs:List T) (stay:Gp->Prop) (G:Gp) (Q:VK3):Prop:=
 ∀D,G D=none->∃P:Nat->List T->Gp->Prop,P 0 [] (gup G D (.lst []))/\(∀i acc G,i<=xs.length->P i acc G->stay G/\G D=some (.lst acc))/\
  (∀i x acc G,xs[i]? =some x->P i acc G->g x (msk mask τ) G fun τ2 G2=>tif τ2 G2 fun b G3=>if b=true then te τ2 G3 fun y G4=>G4 D=some (.lst acc)/\acc.length<sizeLine/\P (i+1) (acc++[y]) (gup G4 D (.lst (acc++[y]))) else P (i+1) acc G3)/\
  ∀acc G,P xs.length acc G->Q (.ref D) G
noncomputable def jQ5 (mask:List Bool) (wi:TI3) (g:TG3) (tif:TT3) (te:TE3):TE3:=fun τ G Q=>wi τ G fun xs stay G1=>tCompAt mask g tif te τ xs stay G1 Q
section
variable {X:Cx} {scope:Scope} {cl:List (Str×Addr)} {mask:List Bool} {elt iter tg:Expr} {ifs:List Expr} {pos:Pos} {wi:TI3} {g:TG3} {tif:TT3} {te:TE3}
theorem kQt (hc:X.calm=true) (ok:CmpOk X scope cl mask)
  (hgk:GKeep mask g) (hg:∀C fp s H,PG3 (jV4 X scope cl C fp s H) tg g) (hif:∀C fp s H,PIf3 (jV4 X scope cl C fp s H) ifs tif) (he:∀C fp s H,PE3 (jV4 X scope cl C fp s H) elt te)
  {pins:List (Addr×Obj)} {τ:St3} {H:Hp} {Q:VK3} {itv:Value} {s2:Shared} {E:Value->Shared->Prop} {RR:Value->Addr->Result->Shared->Prop}
  (h2:PIE3 X pins τ H tg (fun xs stay G=>tCompAt mask g tif te τ xs stay G Q) itv s2)
  (hRR:∀D C s' m,s'.heap.Ns C m->(∃G1 H1,Ext H H1/\H1 C=none/\Q (.ref D) G1/\∀h',Heap.SameBut C s'.heap h'->Inv3 X pins τ G1 H1 {s' with heap:=h'})->(∃oC,s'.heap.get? C=some oC/\C≠X.env.locals/\C∉X.fs/\∀v,oC.data≠ .cell v)->(∀x c,X.env.cells.lookup x=some c->c≠C)->(∀p∈X.pn++pins,p.1≠C)->X.s₀.heap.objs.size<=C->RR (.ref D) C (.ok .next) s'):
  wpAny (model X.prog X.w) X.A (newList []) (fun acc s₃=>wpAny (model X.prog X.w) X.A (newFunctionEnv scope X.env.globals cl [] X.env.qual none .none (some X.env)) (fun cenv s₄=>
   codeAny (model X.prog X.w) X.A (.compStart (.ListComp elt [⟨tg,iter,ifs,0⟩] scope pos) 0 itv acc {cenv with scope:=relabel scope X.env}) (RR acc cenv.locals) s₄) E s₃) E s2:=by
 obtain⟨it,fp,tn,J,xs,stay,G2,H2,e,eH,⟨σ,I2,hs2,hg2⟩,T0,st2,f2,IT,hq⟩:=h2
 subst e
 refine wpAny_newObj_type (wpAny_newFunctionEnv ok.nc (by intro y hy;simp at hy) (fun h4 hns hsb=> ?_) ok.kind)
 dsimp only at hns hsb ⊢
 have hD:H2 s2.heap.objs.size=none:=I2.hok.fresh (lJd _)
 generalize hs3:({s2 with heap:=s2.heap.push {cls:= .type "list",dict:=none,data:= .seq ([]:List Value).toArray} }:Shared)=s3
 have eh3:s2.heap.push {cls:= .type "list",dict:=none,data:= .seq ([]:List Value).toArray}=s3.heap:=by rw[<-hs3]
 have I3:Inv X pins σ (upd H2 s2.heap.objs.size (.lst [])) s3:=by
  rw[<-hs3]
  exact I2.laid (t':=s2.toks) (fun b u e=>Heap.get?_push_of_some _ e) (lJd _) ⟨lJt _,[],0,.nil,Heap.get?_push_size _ rfl⟩
 rw[eh3] at hns hsb ⊢
 generalize hDd:s2.heap.objs.size=D at *
 have e3:Ext H2 (upd H2 D (.lst [])):= .upd (.none hD)
 have hg3:GRel X.K (upd H2 D (.lst [])) (gup G2 D (.lst [])):=hg2.lstNew (show Reps X.K H2 [] [] from rfl) (.none hD)
 have obj2:∀b∈fp,∃o,s2.heap.get? b=some o:=fun b hb=>let ⟨o,e,_⟩:=T0.obj 0 _ st2 b hb;⟨o,e⟩
 have fD:∀b∈fp,b≠D:=fun b hb=>by obtain⟨o,e⟩:=obj2 b hb;rw[<-hDd];exact lJo (Heap.lt_size e)
 have f3:∀b∈fp,FpOk X pins (upd H2 D (.lst [])) b:=fun b hb=>⟨by rw[jKx (fD b hb)];exact (f2 b hb).1,(f2 b hb).2⟩
 have k3:∀b o,s2.heap.get? b=some o->s3.heap.get? b=some o:=fun b o e=>by rw[<-eh3];exact Heap.get?_push_of_some _ e
 have obj3:∀b∈fp,∃o,s3.heap.get? b=some o:=fun b hb=>let ⟨o,e⟩:=obj2 b hb;⟨o,k3 b o e⟩
 have k4:∀b o,s3.heap.get? b=some o->h4.get? b=some o:=fun b o e=>hsb.extBut b o (lJo (Heap.lt_size e)) (Heap.get?_push_of_some _ e)
 have Ic:Inv (jV4 X scope cl s3.heap.objs.size fp s3 (upd H2 D (.lst []))) [] (msk mask σ) (upd H2 D (.lst [])) {s3 with heap:=h4,toks:=s3.toks+([]:List (Str×Value)).length}:=cmp_start ok I3 f3 obj3 hns k4
 have st4:tn 0 h4:=T0.keep _ _ _ st2 fun b _ o e=>k4 b o (k3 b o e)
 have hl3:mask.length=τ.length:=ok.len.trans (I3.len.symm.trans hs2.1)
 obtain⟨P,p0,hst,turn,fin⟩:=hq D (hg2.fresh hD)
 have fpc:∀ {H':Hp} {pl:List (Addr×Obj)},(∀b∈fp,H' b=none)->(∀p∈pl,p.1∉fp)->∀b∈fp,FpOk (jV4 X scope cl s3.heap.objs.size fp s3 (upd H2 D (.lst []))) pl H' b:=fun {H' pl} hn hp b hb=>by
  obtain⟨o,e⟩:=obj3 b hb
  refine⟨hn b hb,lJo (Heap.lt_size e),?_,.inl hb,fun x d hd=>(f3 b hb).2.2.2.2.1 x d (kJs ok.cl (by simp) _ _ hd),fun p hpp z=> ?_⟩
  ·intro z
   rcases lJi.mp (I3.stkSub b z) with q | q
   ·exact (f3 b hb).2.1 q
   ·exact (f3 b hb).2.2.1 q
  ·have hpp':p∈pl:=by simpa[jV4] using hpp
   exact hp p hpp' (z▸hb)
 have loop:∀s4:Shared,s4={s3 with heap:=h4,toks:=s3.toks+([]:List (Str×Value)).length}->
   codeAny (model X.prog X.w) X.A (.compLoop (.ListComp elt [⟨tg,iter,ifs,0⟩] scope pos) 0 (.ref it) (.ref D) (compEnvC scope cl s3.heap.objs.size X.env)) (RR (.ref D) s3.heap.objs.size) s4:=by
  rintro s4 rfl
  refine compLoop3 (fun n s'=>∃i acc G' H',n=xs.length-i/\i<=xs.length/\Ext H2 H'/\Inv3 (jV4 X scope cl s3.heap.objs.size fp s3 (upd H2 D (.lst []))) [] (msk mask τ) G' H' s'/\tn i s'.heap/\(∀b∈fp,H' b=none)/\P i acc G') ?_ xs.length
   ⟨0,[],_,_,rfl,lJt _,e3,⟨_,Ic,msk_rel (hs2.mono e3) hl3,hg3⟩,st4,fun b hb=>(f3 b hb).1,p0⟩
  rintro n s5 ⟨i,acc,G5,H5,en,hi5,e5,⟨σ5,I5,hs5,hg5⟩,st5,fr5,p5⟩
  obtain⟨hstay,hacc⟩:=hst i acc G5 hi5 p5
  obtain⟨go,stop,yl⟩:=IT i H5 G5 e5 hg5 hstay
  by_cases hlt:i<xs.length
  ·refine thn (T0.item (jV4 X scope cl s3.heap.objs.size fp s3 (upd H2 D (.lst []))) rfl rfl rfl hc i [] s5 σ5 H5 (fun _ _=>False) I5 (fpc fr5 (by simp)) st5 (go hlt)) fun r s6 ⟨u,hr,h6⟩=> ?_
   subst hr
   refine thn h6 fun _ s7 ⟨x,H7,I7,r7,y7,st7,fr7⟩=> ?_
   obtain⟨e7,g7,t,ht,rt⟩:=yl hlt x H7 y7
   have I7':=I7.pinned (fpc fr7 (by simp)) (T0.obj _ _ st7)
   refine thn (hg _ _ _ _ ([]++jYj fp s7.heap) s7 (msk mask τ) G5 H7 t u _ ⟨σ5,I7',hs5.mono e7,g7⟩ ⟨x,rt,r7⟩ (hgk _ _ _ _ (turn i t acc G5 ht p5))) fun _ s8 ⟨τ8,G8,H8,e8,I8,q8,ql8,qk8⟩=> ?_
   refine thn (hif _ _ _ _ ([]++jYj fp s7.heap) s8 τ8 G8 H8 _ I8 q8) fun b s9 ⟨G9,H9,e9,I9,q9⟩=> ?_
   have back:∀ {Ga:Gp} {Ha:Hp} {sa:Shared} {acc':List T},Ext H7 Ha->Inv3 (jV4 X scope cl s3.heap.objs.size fp s3 (upd H2 D (.lst []))) ([]++jYj fp s7.heap) τ8 Ga Ha sa->P (i+1) acc' Ga->
     ∃m,m<n/\∃i acc G' H',m=xs.length-i/\i<=xs.length/\Ext H2 H'/\Inv3 (jV4 X scope cl s3.heap.objs.size fp s3 (upd H2 D (.lst []))) [] (msk mask τ) G' H' sa/\tn i sa.heap/\(∀b∈fp,H' b=none)/\P i acc G':=by
    rintro Ga Ha sa acc' ea ⟨σa,Ia,hsa,hga⟩ pa
    have e2a:Ext H5 Ha:=e7.trans ea
    have hla:mask.length=τ8.length:=by rw[ql8,jZs hl3];exact hl3
    have hsm:=msk_rel (mask:=mask) hsa hla
    rw[msk_same hl3 ql8 qk8] at hsm
    refine⟨xs.length-(i+1),by omega,i+1,acc',Ga,Ha,rfl,hlt,e5.trans e2a,⟨msk mask σa,(Ia.weak (jZs (hla.trans hsa.1.symm)) fun j v hv=>(msk_get hv).2).pins_of (fun p hp=>absurd hp (by simp)),hsm,hga⟩,?_,fun b hb=> ?_,pa⟩
    ·exact T0.keep _ _ _ st7 fun b hb o e=>(Ia.pin (b,o) (lKc _ (lKc _ (jYc hb e)))).1
    ·obtain⟨o,e,d⟩:=T0.obj _ _ st7 b hb
     exact (Ia.pin (b,o) (lKc _ (lKc _ (jYc hb e)))).2.1
   cases b with
   | false=>
    rw[if_neg lJl] at q9 ⊢
    exact back (e8.trans e9) I9 q9
   | true=>
    rw[if_pos rfl] at q9 ⊢
    refine thn (he _ _ _ _ ([]++jYj fp s7.heap) s9 τ8 G9 H9 _ I9 q9) fun y s10 w_=>w_.el fun ty G10 H10 e10 I10 r10 ⟨hD10,hz10,q10⟩=> ?_
    obtain⟨vy,rvy,ruy⟩:=r10
    refine thn (jQp ([]++jYj fp s7.heap) s10 τ8 G10 H10 (.ref D) [ty] (.ref D) [y] (fun _ G'=>P (i+1) (acc++[ty]) G') I10 ⟨.ref D,rfl,rfl⟩ ⟨[vy],.one rvy,.cons ruy .nil⟩ ⟨D,acc,ty,rfl,rfl,hD10,hz10,q10⟩) fun _ s11 w_=>w_.el fun _ G11 H11 e11 I11 _ q11=> ?_
    exact back (((e8.trans e9).trans e10).trans e11) I11 q11
  ·have ei:i=xs.length:=by omega
   refine thn (T0.done (jV4 X scope cl s3.heap.objs.size fp s3 (upd H2 D (.lst []))) rfl rfl rfl hc i [] s5 σ5 H5 (fun _ _=>False) I5 (fpc fr5 (by simp)) st5 (stop (by omega))) fun r s6 ⟨hr,I6⟩=> ?_
   subst hr;subst ei
   obtain⟨m,hn,_⟩:=I6.loc
   obtain⟨oC,es,ep,hoC,hdC,_⟩:=id hn
   refine hRR D s3.heap.objs.size s6 m hn ⟨G5,H5,eH.trans e5,I6.free,fin acc G5 p5,fun h' hb=>⟨σ,cmp_end I3 f3 (lJd _) I6 hb,hs2.mono e5,hg5⟩⟩
    ⟨oC,hoC,lKv I3.lt,I3.nofs (lJd _),fun v z=>by rw[hdC] at z;cases z⟩ (fun x d hd=> ?_) (fun p hp=> ?_) I3.sz
   ·obtain⟨v,q⟩:=I3.cell x d hd
    exact lJo q.lt
   ·exact lJo (Heap.lt_size (I3.pin p hp).1)
 exact codeAny_compStart_list (loop _ (by rw[<-hs3])) (T0.self _ 0 _ _ _ st4 (loop _ (by rw[<-hs3])))
theorem jQs (hc:X.calm=true) (ok:CmpOk X scope cl mask) (hi:PI3 X tg iter wi) (hgk:GKeep mask g) (hg:∀C fp s H,PG3 (jV4 X scope cl C fp s H) tg g) (hif:∀C fp s H,PIf3 (jV4 X scope cl C fp s H) ifs tif) (he:∀C fp s H,PE3 (jV4 X scope cl C fp s H) elt te)
  (hs:∀x,foldedSetIterable iter X.env x=pure x:=by intro _;rfl):PE3 X (.ListComp elt [⟨tg,iter,ifs,0⟩] scope pos) (jQ5 mask wi g tif te):=by
 intro pins s τ G H Q I h
 rw[eval_ListComp]
 refine wpAny_comprehension_free (use:=none) rfl hs (kQu ok.cl) ok.kind ok.nm (thn (hi pins s τ G H _ I h) fun xv s1 h1=>thn h1 fun itv s2 h2=> ?_)
 refine kQt (RR:=fun acc C=>compPost (model X.prog X.w) X.A X.xe none (EP3 X pins τ H Q) acc C) hc ok hgk hg hif he h2 ?_
 rintro D C s' m hn ⟨G1,H1,e1,_,q1,hI⟩ _ _ _ _
 exact⟨m,hn,fun h' hb=>⟨.ref D,G1,H1,e1,hI h' hb,⟨.ref D,rfl,rfl⟩,q1⟩⟩
theorem s_comp {i:Nat} {y:Str} {py spos:Pos} (hc:X.calm=true) (hN:X.N.Nodup) (ok:CmpOk X scope cl mask) (hi:PI3 X tg iter wi) (hgk:GKeep mask g) (hg:∀C fp s H,PG3 (jV4 X scope cl C fp s H) tg g) (hif:∀C fp s H,PIf3 (jV4 X scope cl C fp s H) ifs tif) (he:∀C fp s H,PE3 (jV4 X scope cl C fp s H) elt te)
  (hy:X.N[i]? =some y:=by rfl) (hx:X.env.scope.names.lookup y=some .local:=by rfl)
  (hsw:swapsWith (.ListComp elt [⟨tg,iter,ifs,0⟩] scope pos) (some (.Name y py)) spos.line X.env=pure true:=by rfl)
  (hs:∀x,foldedSetIterable iter X.env x=pure x:=by intro _;rfl):PS3 X (.Assign [.Name y py] (.ListComp elt [⟨tg,iter,ifs,0⟩] scope pos) spos) (tAsg (jQ5 mask wi g tif te) (jJj i)):=by
 intro pins s τ G H D I h
 rw[exec_Assign_Name_used _ _ _ _ hsw];refine wpAny_bind (wpAny_standAt (wpAny_bind ?_))
 show wpAny _ X.A (do let _ <-comprehension (.ListComp elt [⟨tg,iter,ifs,0⟩] scope pos) scope X.env _ (newList []) false (eval iter X.env) (some (assign (.Name y py) X.env))) _ _ s
 refine wpAny_bind (wpAny_mono (wpAny_comprehension_free (use:=some (assign (.Name y py) X.env)) (Q:=fun _ s'=>SP3 X pins H D .next s') rfl hs (kQu ok.cl) ok.kind ok.nm
  (thn (hi pins s τ G H _ I h) fun xv s1 h1=>thn h1 fun itv s2 h2=> ?_)) (fun _ s' hq=>wpAny_pure (wpAny_pure hq)) fun _ _ e=>e)
 refine kQt (RR:=fun acc C=>compPost (model X.prog X.w) X.A X.xe (some (assign (.Name y py) X.env)) (fun _ s'=>SP3 X pins H D .next s') acc C) hc ok hgk hg hif he h2 ?_
 rintro Dd C s' m hn ⟨G1,H1,e1,hH1C,q1,hI⟩ ⟨oC,hoC,c1,c2,c3⟩ c4 c5 c6
 show wpAny _ X.A (assign (.Name y py) X.env (.ref Dd)) _ _ _
 obtain⟨σ1,I1,hs1,hg1⟩:=hI s'.heap (.refl ..)
 have I1':Inv X (pins++[(C,oC)]) σ1 H1 s':=I1.pins_of fun p hp=>(lJ4.mp hp).elim (fun z=>I1.pin p (lKc _ z)) fun z=>by
  obtain rfl:p=(C,oC):=by simpa using z
  exact⟨hoC,hH1C,c1,c2,c3⟩
 refine wpAny_assign_Name (jYq I1' hN hy (.inl hx) (v:= .ref Dd) rfl (fun s2 I2=> ?_) (.inr hx))
 have hC2:s2.heap.get? C=some oC:=(I2.pin (C,oC) (lKc _ (lKc _ (by simp)))).1
 obtain⟨oC',es,ep,hoC',r⟩:=hn
 have eo:oC'=oC:=by rw[hoC] at hoC';exact (lJr hoC').symm
 subst eo
 refine⟨m,⟨oC',es,ep,hC2,r⟩,fun h' hb=>⟨_,G1,H1,e1,⟨_,?_,hs1.set i (show Rep X.K H1 (.ref Dd) (.ref Dd) from rfl),hg1⟩,q1⟩⟩
 exact I2.unpinned.turned (t':=s2.toks) (fun b o hb' e=>(hb.2 b hb').trans e) hH1C c1 (.inr c6) c4 c5
end
end L3
namespace HT
open PySem PyProof.Rows
noncomputable def lexLe:(xs ys:List Int)->Bool
 | [],_=>true
 | _::_,[]=>false
 | x::xs,y::ys=>if x=y then lexLe xs ys else decide (x<=y)
theorem lexLe_cons (x y:Int) (xs ys:List Int):lexLe (x::xs) (y::ys)=if x=y then lexLe xs ys else decide (x<=y):=rfl
theorem lexLe_nil (ys:List Int):lexLe [] ys=true:=by cases ys<;>rfl
theorem kQb (x:Int) (xs:List Int):lexLe (x::xs) []=false:=rfl
theorem rcLe_int (A:Around) (s:Shared) (a:Int) (t:Tok) (c:Int) (u:Tok) (prog:Program) (w:World) (E:Value->Shared->Prop) (Q:Value->Shared->Prop) (h:Q (.bool (decide (a<=c))) s):
  wpAny (model prog w) A (richCompare .LtE (.int a t) (.int c u)) Q E s:=
 (PyProof.Rows.le_int h:wpAny (model prog w) A (compareOp .LtE (.int a t) (.int c u)) Q E s)
section
open PySem.SeqAt
open PySem.AutoSeq1 (wpAny_loadPart')
open PySem.MeetsSeq PySem.MeetsSeq2 PySem.MeetsSeq3
theorem kQ3 (l b:Addr) (items items2:Array Value) (n n2:Nat) (dd dd2:Option Addr) (sl sl2:Array (Option Value)) (ns ms:List Int) (hi:IntsAre items.toList ns) (hj:IntsAre items2.toList ms):
  Meets (Builtin.«tuple.__le__» ⟨[.ref l,.ref b],[]⟩)
   (fun _ R s=>s.heap.get? l=some {cls:= .type "tuple",dict:=dd,data:= .seq items n,slots:=sl}/\s.heap.get? b=some {cls:= .type "tuple",dict:=dd2,data:= .seq items2 n2,slots:=sl2}/\
    R (.ok (.ret (.bool (lexLe ns ms)))) s):=
 .of_wp fun prog w A R s h=>by
  obtain⟨hp,g,d,tk,os⟩:=s;obtain⟨hl,hb,h⟩:=h
  have f2:=AutoSeq1.sub_tuple_tuple
  have z1:items.size=ns.length:=by rw[<-hi.length];simp
  have z2:items2.size=ms.length:=by rw[<-hj.length];simp
  wp_walk using wpAny_loadPart' hl,wpAny_loadPart' hb,wpAny_forIn_list _ (fun rest b s'=>b.1=none/\s'=⟨hp,g,d,tk,os⟩/\∃(vs ws:List Value) (ns' ms':List Int),rest=vs.zip ws/\
   IntsAre vs ns'/\IntsAre ws ms'/\ns'.length+items2.size=ms'.length+items.size/\R (.ok (.ret (.bool (lexLe ns' ms')))) ⟨hp,g,d,tk,os⟩) _
  case turn=>
   rintro⟨y,x⟩ rest b s' ⟨hb',rfl,vs,ws,ns',ms',hz,hvi,hwi,hlen,hR⟩
   cases hvi with
   | nil=>rw[List.zip_nil_left] at hz;cases hz
   | cons a t hvi'=>
    cases hwi with
    | nil=>rw[List.zip_nil_right] at hz;cases hz
    | cons c u hwi'=>
     rw[lQk] at hz
     injection hz with hyx hrest
     injection hyx with hy hx
     subst hy hx
     rw[lexLe_cons] at hR
     simp only[lJy] at hlen
     obtain⟨e,he,hiff⟩:=eqAt_int A.in1 ⟨hp,g,d,tk,os⟩ a t c u
     refine wpAny_bind (he prog w _ _ ?_)
     cases e with
     | true=>
      rw[if_pos (hiff.mp rfl)] at hR
      wp_walk
      exact⟨rfl,rfl,_,_,_,_,hrest,hvi',hwi',by omega,hR⟩
     | false=>
      rw[if_neg (fun q=>absurd (hiff.mpr q) lJl)] at hR
      have hri:=rcLe_int A.in1 ⟨hp,g,d,tk,os⟩ a t c u prog w
      wp_walk using hri
      exact⟨_,rfl,by simpa using hR⟩
  case fin=>
   rintro⟨b1,b2⟩ s' ⟨hb',rfl,vs,ws,ns',ms',hz,hvi,hwi,hlen,hR⟩
   simp only at hb'
   subst hb'
   have hv:lexLe ns' ms'=decide (items.size<=items2.size):=by
    cases hvi with
    | nil=>
     simp only[lKn] at hlen
     rw[lexLe_nil]
     exact (decide_eq_true (by omega)).symm
    | cons a t hv=>
     cases hwi with
     | nil=>
      simp only[lKn,lJy] at hlen
      rw[kQb]
      exact (decide_eq_false (by omega)).symm
     | cons c u hw=>
      rw[lQk] at hz
      cases hz
   rw[hv] at hR
   wp_walk
   exact⟨_,rfl,by simpa[Builtin.Tuple.tupleCompareSizes] using hR⟩
  case h=>
   exact⟨rfl,rfl,items.toList,items2.toList,ns,ms,rfl,hi,hj,by omega,h⟩
end
theorem le_tupInts {prog:Program} {w:World} {A:Around} {E:Value->Shared->Prop} {s:Shared} {l b:Addr} {items items2:Array Value} {ns ms:List Int} {Q:Value->Shared->Prop} (hl:IsTup s.heap l items) (hb:IsTup s.heap b items2) (hi:IntsAre items.toList ns) (hj:IntsAre items2.toList ms)
  (hu:A.units<cLine) (h:Q (.bool (lexLe ns ms)) s):wpAny (model prog w) A (compareOp .LtE (.ref l) (.ref b)) Q E s:=by
 obtain⟨⟨cls,dd,data,sl⟩,ho,hc,n,hd⟩:=id hl
 obtain⟨⟨cls2,dd2,data2,sl2⟩,ho2,hc2,n2,hd2⟩:=id hb
 simp only at hc hd hc2 hd2
 subst hc hd hc2 hd2
 exact richCompare_meets_room (op:= .LtE) ⟨_,ho,rfl⟩ ⟨_,ho2,rfl⟩ PySem.F.slot_tuple_le PySem.F.entry_tuple_le (PySem.F.args_tuple_le_2 _ _) (kQ3 l b items items2 n n2 dd dd2 sl sl2 ns ms hi hj)
  ⟨ho,ho2,show Value.bool (lexLe ns ms)≠Value.notImplemented/\Q (.bool (lexLe ns ms)) s from⟨(fun x=>nomatch x),h⟩⟩ hu
end HT
namespace L3
open PySem PySem.Spec PyProof.Rows L2
section
variable {X:Cx}
theorem jVa {K:PySem.W.Frag} {H:Hp}:∀ {ns:List Int} {vs:List V},Reps K H (ns.map T.int) vs->vs=ns.map V.int
 | [],_,h=>h
 | n::ns,_,⟨v,ws,e,r,rs⟩=>by
  subst e;cases (show v= .int n from r)
  rw[jVa rs];rfl
noncomputable def rLeT:R3:=fun x y G Q=>∃ns ms,x= .tup (ns.map T.int)/\y= .tup (ms.map T.int)/\Q (.bl (HT.lexLe ns ms)) G
theorem o_leT (hu:X.A.units<cLine):Op3 X (compareOp .LtE) rLeT:=by
 rintro pins s τ G H x y v u Q ⟨σ,I,hs,hg⟩ ⟨a,ra,rv⟩ ⟨b,rb,ru⟩ ⟨ns,ms,ex,ey,q⟩
 subst ex;subst ey
 obtain⟨p,vs,e1,h1,h2⟩:=(show ∃p vs,a= .ref p/\H p=some (.tup vs)/\Reps X.K H (ns.map T.int) vs from ra)
 obtain⟨p',ws,e2,h3,h4⟩:=(show ∃p vs,b= .ref p/\H p=some (.tup vs)/\Reps X.K H (ms.map T.int) vs from rb)
 subst e1;subst e2
 cases rv;cases ru
 rw[jVa h2] at h1
 rw[jVa h4] at h3
 obtain⟨its,r1,p1,_⟩:=I.tuple (.of h1)
 obtain⟨its2,r2,p2,_⟩:=I.tuple (.of h3)
 exact HT.le_tupInts p1 p2 (show IntsAre its.toArray.toList ns from kQn r1) (show IntsAre its2.toArray.toList ms from kQn r2) hu ⟨.bl _,G,H,.refl H,⟨σ,I,hs,hg⟩,⟨.bl _,rfl,rfl⟩,q⟩
noncomputable def rLeI:R3:=rI0 fun i j=> .bl (decide (i<=j))
noncomputable def rLeA:R3:=fun x y G Q=>rLeI x y G Q\/rLeT x y G Q
theorem o_leA (hu:X.A.units+20<cLine):Op3 X (compareOp .LtE) rLeA:=o_le.or (o_leT (by omega))
theorem eqG_cases {G:Gp} {x y:T} {b:Bool} (h:eqG G x y=some b):
  (∃p q xs ys,x= .ref p/\y= .ref q/\G p=some (.lst xs)/\G q=some (.lst ys)/\kUz xs=true/\kUz ys=true/\b=eqTs xs ys)\/(eqOk x=true/\eqOk y=true/\b=eqT x y):=by
 by_cases hr:∃p q,x= .ref p/\y= .ref q
 ·obtain⟨p,q,ex,ey⟩:=hr
  subst ex;subst ey
  refine .inl ?_
  simp only[eqG] at h
  split at h
  ·rename_i xs ys h1 h2
   split at h
   ·rename_i hc
    cases h
    exact⟨p,q,xs,ys,rfl,rfl,h1,h2,hc.1,hc.2,rfl⟩
   ·cases h
  ·cases h
 ·refine .inr ?_
  have e:eqG G x y=if eqOk x=true/\eqOk y=true then some (eqT x y) else none:=by
   cases x with
   | ref p=>cases y with
    | ref q=>exact absurd ⟨p,q,rfl,rfl⟩ hr
    | _=>rfl
   | _=>rfl
  rw[e] at h
  split at h
  ·rename_i hc
   cases h
   exact⟨hc.1,hc.2,rfl⟩
  ·cases h
mutual
theorem reads_T {X:Cx} {pins:List (Addr×Obj)} {σ:L2.St} {H:Hp} {s:Shared} (I:Inv X pins σ H s):∀(x:T) {a:V} {u:Value},tree x=true->Rep X.K H x a->RelV a u->∃as,Reads s.heap u (td x) as
 | .non,a,u,_,r,q=>by cases (show a= .non from r);cases q;exact⟨_,.none⟩
 | .bl b,a,u,_,r,q=>by cases (show a= .bl b from r);cases q;exact⟨_,.bool b⟩
 | .int b,a,u,_,r,q=>by cases (show a= .int b from r);obtain⟨t,rfl⟩:=q;exact⟨_,.int b t⟩
 | .str b,a,u,_,r,q=>by cases (show a= .str b from r);obtain⟨t,rfl⟩:=q;exact⟨_,.str b t⟩
 | .tup xs,a,u,ht,r,q=>by
  obtain⟨p,vs,e1,h1,h2⟩:=(show ∃p vs,a= .ref p/\H p=some (.tup vs)/\Reps X.K H xs vs from r)
  subst e1;cases q
  obtain⟨its,rv,⟨o,ho,hc,n,hd⟩,_⟩:=I.tuple (.of h1)
  obtain⟨as,ra⟩:=kJk I xs (show jUi xs=true from ht) h2 rv
  exact⟨_,.tuple ho hc hd (by simpa using ra)⟩
 | .ref _,_,_,ht,_,_=>absurd (show false=true from ht) lJl
 | .scr _,_,_,ht,_,_=>absurd (show false=true from ht) lJl
 | .ty _,_,_,ht,_,_=>absurd (show false=true from ht) lJl
theorem kJk {X:Cx} {pins:List (Addr×Obj)} {σ:L2.St} {H:Hp} {s:Shared} (I:Inv X pins σ H s):∀(xs:List T) {vs:List V} {us:List Value},jUi xs=true->Reps X.K H xs vs->Vals vs us->∃as,ReadsAll s.heap us (tds xs) as
 | [],_,_,_,r,q=>by cases r;cases q;exact⟨_,.nil⟩
 | x::xs,_,_,ht,⟨v,ws,e,r1,r2⟩,q=>by
  subst e
  cases q with
  | cons q1 q2=>
   have hx:tree x=true/\jUi xs=true:=by simpa[jUi] using ht
   obtain⟨as,ra⟩:=reads_T I x hx.1 r1 q1
   obtain⟨bs,rb⟩:=kJk I xs hx.2 r2 q2
   exact⟨_,.cons ra rb⟩
end
mutual
theorem eqv_T:∀(x y:T),tree x=true->tree y=true->PyData.eqv (td x) (td y)=eqT x y
 | .non,y,_,hy=>by cases y<;>first | rfl | exact absurd (show false=true from hy) lJl
 | .bl b,y,_,hy=>by cases y<;>first | rfl | exact absurd (show false=true from hy) lJl
 | .int b,y,_,hy=>by cases y<;>first | rfl | exact absurd (show false=true from hy) lJl
 | .str b,y,_,hy=>by cases y<;>first | rfl | exact absurd (show false=true from hy) lJl
 | .tup xs,y,hx,hy=>by
  cases y with
  | tup ys=>exact eqv_Ts xs ys (show jUi xs=true from hx) (show jUi ys=true from hy)
  | _=>first | rfl | exact absurd (show false=true from hy) lJl
 | .ref _,_,ht,_=>absurd (show false=true from ht) lJl
 | .scr _,_,ht,_=>absurd (show false=true from ht) lJl
 | .ty _,_,ht,_=>absurd (show false=true from ht) lJl
theorem eqv_Ts:∀(xs ys:List T),jUi xs=true->jUi ys=true->PyData.eqvAll (tds xs) (tds ys)=eqTs xs ys
 | [],[],_,_=>rfl
 | [],_::_,_,_=>rfl
 | _::_,[],_,_=>rfl
 | x::xs,y::ys,hx,hy=>by
  have hx':tree x=true/\jUi xs=true:=by simpa[jUi] using hx
  have hy':tree y=true/\jUi ys=true:=by simpa[jUi] using hy
  show (PyData.eqv (td x) (td y)&&PyData.eqvAll (tds xs) (tds ys))=(eqT x y&&eqTs xs ys)
  rw[eqv_T x y hx'.1 hy'.1,eqv_Ts xs ys hx'.2 hy'.2]
end
theorem eq_reads {pins:List (Addr×Obj)} {σ:L2.St} {H:Hp} {s:Shared} {G:Gp} {x y:T} {a b:V} {u v:Value} {k:Bool} (I:Inv X pins σ H s) (hg:GRel X.K H G) (ra:Rep X.K H x a) (rb:Rep X.K H y b) (ru:RelV a u) (rv:RelV b v) (h:eqG G x y=some k):
  ∃da db as bs,Reads s.heap u da as/\Reads s.heap v db bs/\da.canLay0=true/\db.canLay0=true/\da.depth<=50/\PyData.eqv da db=k:=by
 rcases eqG_cases h with ⟨p,q,xs,ys,ex,ey,hp,hq,ox,oy,e⟩ | ⟨ox,oy,e⟩
 ·subst ex;subst ey
  cases (show a= .ref p from ra);cases (show b= .ref q from rb)
  cases ru;cases rv
  obtain⟨vs,h1,h2⟩:=hg.lst hp
  obtain⟨ws,h3,h4⟩:=hg.lst hq
  obtain⟨its,r1,⟨o,n,ho,hc,_,hd⟩,_⟩:=I.list (.of h1)
  obtain⟨its',r2,⟨o',n',ho',hc',_,hd'⟩,_⟩:=I.list (.of h3)
  simp only[kUz,lKe,decide_eq_true_eq] at ox oy
  obtain⟨as,r3⟩:=kJk I xs ox.1.1 h2 r1
  obtain⟨bs,r4⟩:=kJk I ys oy.1.1 h4 r2
  exact⟨.list (tds xs),.list (tds ys),_,_,.list ho hc hd (by simpa using r3),.list ho' hc' hd' (by simpa using r4),ox.1.2,oy.1.2,ox.2,by rw[e];exact eqv_Ts xs ys ox.1.1 oy.1.1⟩
 ·simp only[eqOk,lKe,decide_eq_true_eq] at ox oy
  obtain⟨as,r3⟩:=reads_T I x ox.1.1 ra ru
  obtain⟨bs,r4⟩:=reads_T I y oy.1.1 rb rv
  exact⟨td x,td y,_,_,r3,r4,ox.1.2,oy.1.2,ox.2,by rw[e];exact eqv_T x y ox.1.1 oy.1.1⟩
theorem kJc (hu:X.A.units+64<cLine):Op3 X (compareOp .Eq) rEqA:=by
 rintro pins s τ G H x y v u Q ⟨σ,I,hs,hg⟩ ⟨a,ra,rv⟩ ⟨b,rb,ru⟩ ⟨k,hk,q⟩
 obtain⟨da,db,as,bs,r1,r2,c1,c2,d,e⟩:=eq_reads I hg ra rb rv ru hk
 exact SeqAt.compareEq_reads r1 r2 c1 c2 (by omega) ⟨.bl k,G,H,.refl H,⟨σ,I,hs,hg⟩,⟨.bl k,rfl,by rw[e];rfl⟩,q⟩
theorem o_neA (hu:X.A.units+64<cLine):Op3 X (compareOp .NotEq) rNeA:=by
 rintro pins s τ G H x y v u Q ⟨σ,I,hs,hg⟩ ⟨a,ra,rv⟩ ⟨b,rb,ru⟩ ⟨k,hk,q⟩
 obtain⟨da,db,as,bs,r1,r2,c1,c2,d,e⟩:=eq_reads I hg ra rb rv ru hk
 exact SeqAt.compareNe_reads r1 r2 c1 c2 (by omega) ⟨.bl (!k),G,H,.refl H,⟨σ,I,hs,hg⟩,⟨.bl (!k),rfl,by rw[e];rfl⟩,q⟩
end
end L3
namespace L3
open PySem PySem.Spec PyProof.Rows L2
section
variable {X:Cx}
noncomputable def jXj:T->Bool
 | .non=>true
 | .bl _=>true
 | .int _=>true
 | .str _=>true
 | _=>false
theorem jYd {K:PySem.W.Frag} {H:Hp} {x:T} {a:V} (r:Rep K H x a) (f:jXj x=true):kQd a=true:=by
 cases x with
 | non=>cases (show a= .non from r);rfl
 | bl _=>cases (show a= .bl _ from r);rfl
 | int _=>cases (show a= .int _ from r);rfl
 | str _=>cases (show a= .str _ from r);rfl
 | _=>exact absurd (show false=true from f) lJl
theorem flat_eq {K:PySem.W.Frag} {H:Hp} {x y:T} {a b:V} (r:Rep K H x a) (q:Rep K H y b) (f:jXj x=true) (g:jXj y=true):eqV a b=eqT x y:=by
 cases x with
 | non=>cases (show a= .non from r);cases y with
  | non=>cases (show b= .non from q);rfl
  | bl _=>cases (show b= .bl _ from q);rfl
  | int _=>cases (show b= .int _ from q);rfl
  | str _=>cases (show b= .str _ from q);rfl
  | _=>exact absurd (show false=true from g) lJl
 | bl _=>cases (show a= .bl _ from r);cases y with
  | non=>cases (show b= .non from q);rfl
  | bl _=>cases (show b= .bl _ from q);rfl
  | int _=>cases (show b= .int _ from q);rfl
  | str _=>cases (show b= .str _ from q);rfl
  | _=>exact absurd (show false=true from g) lJl
 | int _=>cases (show a= .int _ from r);cases y with
  | non=>cases (show b= .non from q);rfl
  | bl _=>cases (show b= .bl _ from q);rfl
  | int _=>cases (show b= .int _ from q);rfl
  | str _=>cases (show b= .str _ from q);rfl
  | _=>exact absurd (show false=true from g) lJl
 | str _=>cases (show a= .str _ from r);cases y with
  | non=>cases (show b= .non from q);rfl
  | bl _=>cases (show b= .bl _ from q);rfl
  | int _=>cases (show b= .int _ from q);rfl
  | str _=>cases (show b= .str _ from q);rfl
  | _=>exact absurd (show false=true from g) lJl
 | _=>exact absurd (show false=true from f) lJl
noncomputable def inT (x:T) (xs:List T):Bool:=xs.any fun y=>eqT y x
theorem kJq {K:PySem.W.Frag} {H:Hp} {x:T} {a:V} (r:Rep K H x a) (f:jXj x=true):∀ {xs:List T} {vs:List V},Reps K H xs vs->xs.all jXj=true->vs.all kQd=true/\inV a vs=inT x xs
 | [],_,h,_=>by cases h;exact⟨rfl,rfl⟩
 | y::ys,_,⟨v,ws,e,r1,r2⟩,g=>by
  subst e
  rw[lKw,lKe] at g
  obtain⟨h1,h2⟩:=kJq r f r2 g.2
  refine⟨by rw[lKw,jYd r1 g.1,h1];rfl,?_⟩
  unfold inV inT at h2 ⊢
  rw[lKx,lKx,flat_eq r1 r g.1 f,h2]
noncomputable def rInF (neg:Bool):R3:=fun x y G Q=>∃xs,seqT G y=some xs/\jXj x=true/\xs.all jXj=true/\Q (.bl (if neg then !inT x xs else inT x xs)) G
theorem in_lift {neg:Bool} {op:CmpOp} (h:OpR X (compareOp op) (L2.rIn X.K neg)):Op3 X (compareOp op) (rInF neg):=
 Op3.of h fun H G x y a b Q hg ra rb ⟨xs,hx,fx,fs,q⟩=>by
  obtain⟨p,vs,e,hq,r⟩:=jVt hg rb hx
  obtain⟨h1,h2⟩:=kJq ra fx r fs
  exact⟨p,vs,e,hq,jYd ra fx,h1,.bl _,G,.refl H,hg,by rw[h2];rfl,q⟩
theorem o_notInF:Op3 X (compareOp .NotIn) (rInF true):=in_lift op_notIn_seq
noncomputable def kT:Key->T
 | .inl i=> .int i
 | .inr x=> .str x
noncomputable def jV3:T->Option Key
 | .int i=>some (.inl i)
 | .str x=>some (.inr x)
 | _=>none
noncomputable def allK {K:Type} (f:T->Option K):List T->Option (List K)
 | []=>some []
 | x::xs=>match f x,allK f xs with
  | some k,some ks=>some (k::ks)
  | _,_=>none
noncomputable def key1:T->Option K1
 | .tup ts=>(allK jV3 ts).map .inr
 | x=>(jV3 x).map .inl
noncomputable def key2:T->Option K2
 | .tup ts=>(allK key1 ts).map .inr
 | x=>(jV3 x).map .inl
noncomputable def jQ9:List T->Option TKey:=allK key2
theorem jZd {K:PySem.W.Frag} {H:Hp} {x:T} {a:V} {k:Key} (h:jV3 x=some k) (r:Rep K H x a):a=kV k:=by
 cases x with
 | int i=>cases h;exact r
 | str i=>cases h;exact r
 | non=>cases h
 | bl _=>cases h
 | tup _=>cases h
 | scr _=>cases h
 | ref _=>cases h
 | ty _=>cases h
theorem kJv {K:PySem.W.Frag} {H:Hp} {κ:Type} {f:T->Option κ} {R:κ->V->Prop} (hf:∀x k a,f x=some k->Rep K H x a->R k a):∀ {xs:List T} {vs:List V} {ks:List κ},allK f xs=some ks->Reps K H xs vs->Paired R ks vs
 | [],_,_,h,r=>by cases h;cases (show _=[] from r);exact .nil
 | x::xs,_,ks,h,⟨v,ws,e,r1,r2⟩=>by
  subst e
  unfold allK at h
  cases e1:f x with
  | none=>rw[e1] at h;cases h
  | some k=>
   cases e2:allK f xs with
   | none=>rw[e1,e2] at h;cases h
   | some ks'=>
    rw[e1,e2] at h;cases h
    exact .cons (hf _ _ _ e1 r1) (kJv hf e2 r2)
theorem key1_rep {K:PySem.W.Frag} {H:Hp} (x:T) (k:K1) (a:V) (h:key1 x=some k) (r:Rep K H x a):Rk1 H k a:=by
 cases x with
 | tup ts=>
  obtain⟨ks,h1,rfl⟩:=lKi.mp (show (allK jV3 ts).map Sum.inr=some k from h)
  obtain⟨p,vs,e,h3,h4⟩:=(show ∃p vs,a= .ref p/\H p=some (.tup vs)/\Reps K H ts vs from r)
  exact⟨p,vs,e,h3,kJv (fun x k a h r=>jZd h r) h1 h4⟩
 | int i=>cases h;exact r
 | str i=>cases h;exact r
 | non=>cases h
 | bl _=>cases h
 | scr _=>cases h
 | ref _=>cases h
 | ty _=>cases h
theorem key2_rep {K:PySem.W.Frag} {H:Hp} (x:T) (k:K2) (a:V) (h:key2 x=some k) (r:Rep K H x a):Rk2 H k a:=by
 cases x with
 | tup ts=>
  obtain⟨ks,h1,rfl⟩:=lKi.mp (show (allK key1 ts).map Sum.inr=some k from h)
  obtain⟨p,vs,e,h3,h4⟩:=(show ∃p vs,a= .ref p/\H p=some (.tup vs)/\Reps K H ts vs from r)
  exact⟨p,vs,e,h3,kJv key1_rep h1 h4⟩
 | int i=>cases h;exact r
 | str i=>cases h;exact r
 | non=>cases h
 | bl _=>cases h
 | scr _=>cases h
 | ref _=>cases h
 | ty _=>cases h
theorem jU8 {K:PySem.W.Frag} {H:Hp} {xs:List T} {vs:List V} {ks:TKey} {p:Addr} (h:jQ9 xs=some ks) (e:H p=some (.tup vs)) (r:Reps K H xs vs):TKeyAt H ks p:=⟨vs,e,kJv key2_rep h r⟩
noncomputable def valT {κ:Type} [DecidableEq κ] (kvs:List (κ×T)) (k:κ):Option T:=(kvs.find? fun kv=>decide (kv.1=k)).map (·.2)
noncomputable def putT {κ:Type} [DecidableEq κ] (kvs:List (κ×T)) (k:κ) (v:T):List (κ×T):=
 if (kvs.any fun kv=>decide (kv.1=k))=true then kvs.map (fun kv=>if kv.1=k then (kv.1,v) else kv) else kvs++[(k,v)]
theorem PKV.val {κ:Type} [DecidableEq κ] {K:PySem.W.Frag} {H:Hp} {kvs:List (κ×T)} {ws:List (κ×V)} (r:PKV K H kvs ws) (k:κ):(∀t,valT kvs k=some t->∃v,valV ws k=some v/\Rep K H t v)/\(valT kvs k).isSome=(valV ws k).isSome:=by
 unfold PKV at r
 induction r with
 | nil=>exact⟨fun t h=>by simp[valT] at h,rfl⟩
 | @cons p q ps qs h t ih=>
  by_cases e:p.1=k
  ·have e':q.1=k:=h.1.symm.trans e
   have b:valT (p::ps) k=some p.2:=by simp[valT,lKs,e]
   rw[b,kJh e']
   exact⟨fun t ht=>by cases ht;exact⟨q.2,rfl,h.2⟩,rfl⟩
  ·have e':¬ q.1=k:=fun z=>e (h.1.trans z)
   have b:valT (p::ps) k=valT ps k:=by simp[valT,lKs,e]
   rw[b,kJi e']
   exact ih
theorem PKV.any {κ:Type} [DecidableEq κ] {K:PySem.W.Frag} {H:Hp} {kvs:List (κ×T)} {ws:List (κ×V)} (r:PKV K H kvs ws) (k:κ):(kvs.any fun kv=>decide (kv.1=k))=ws.any fun kv=>decide (kv.1=k):=by
 unfold PKV at r
 induction r with
 | nil=>rfl
 | cons h t ih=>rw[lKx,lKx,ih,h.1]
theorem PKV.put {κ:Type} [DecidableEq κ] {K:PySem.W.Frag} {H:Hp} {kvs:List (κ×T)} {ws:List (κ×V)} (r:PKV K H kvs ws) (k:κ) {t:T} {v:V} (rt:Rep K H t v):PKV K H (putT kvs k t) (putK ws k v):=by
 unfold putT putK
 rw[r.any k]
 by_cases e:(ws.any fun kv=>decide (kv.1=k))=true
 ·rw[if_pos e,if_pos e]
  unfold PKV at r ⊢
  clear e
  induction r with
  | nil=>exact .nil
  | @cons p q ps qs h t' ih=>
   rw[lJh,lJh]
   refine .cons ?_ ih
   obtain⟨h1,h2⟩:=h
   by_cases e:p.1=k
   ·rw[if_pos e,if_pos (h1.symm.trans e)];exact⟨h1,rt⟩
   ·rw[if_neg e,if_neg (fun z=>e (h1.trans z))];exact⟨h1,h2⟩
 ·rw[if_neg e,if_neg e];exact Paired.snoc r ⟨rfl,rt⟩
theorem PKV.length {κ:Type} {K:PySem.W.Frag} {H:Hp} {kvs:List (κ×T)} {ws:List (κ×V)} (r:PKV K H kvs ws):kvs.length=ws.length:=Paired.length r
noncomputable def dAt (G:Gp) (x y:T):Option (Option T):=match x with
 | .ref p=>match G p with
  | some (.dct kvs)=>match y with
   | .tup ys=>match jQ9 ys with
    | some ks=>some (valT kvs ks)
    | none=>none
   | _=>none
  | some (.dck kvs)=>match jV3 y with
   | some k=>some (valT kvs k)
   | none=>none
  | some (.fdc kvs)=>match y with
   | .tup ys=>match jQ9 ys with
    | some ks=>some (valT kvs ks)
    | none=>none
   | _=>none
  | _=>none
 | _=>none
theorem dAt_get {K:PySem.W.Frag} {H:Hp} {G:Gp} {x y:T} {a b:V} {o:Option T} (hg:GRel K H G) (ra:Rep K H x a) (rb:Rep K H y b) (h:dAt G x y=some o):
  ∃p ov,a= .ref p/\DGet H p b ov/\o.isSome=ov.isSome/\∀t,o=some t->∃v,ov=some v/\Rep K H t v:=by
 unfold dAt at h
 split at h
 ·rename_i p
  cases (show a= .ref p from ra)
  split at h
  ·rename_i kvs hG
   split at h
   ·rename_i ys
    split at h
    ·rename_i ks hk
     cases h
     obtain⟨ws,h1,h2⟩:=hg p _ hG
     obtain⟨q,vs,e,h3,h4⟩:=(show ∃q vs,b= .ref q/\H q=some (.tup vs)/\Reps K H ys vs from rb)
     subst e
     exact⟨p,_,rfl,DGet.t h1 (jU8 hk h3 h4),(h2.val ks).2,(h2.val ks).1⟩
    ·cases h
   ·cases h
  ·rename_i kvs hG
   split at h
   ·rename_i k hk
    cases h
    obtain⟨ws,h1,h2⟩:=hg p _ hG
    rw[jZd hk rb]
    exact⟨p,_,rfl,DGet.k h1,(h2.val k).2,(h2.val k).1⟩
   ·cases h
  ·rename_i kvs hG
   split at h
   ·rename_i ys
    split at h
    ·rename_i ks hk
     cases h
     obtain⟨ob,ws,h1,h2⟩:=(show ∃ob ws,H p=some (.frz ob (.dT ws))/\PKV K H kvs ws from hg p _ hG)
     obtain⟨q,vs,e,h3,h4⟩:=(show ∃q vs,b= .ref q/\H q=some (.tup vs)/\Reps K H ys vs from rb)
     subst e
     exact⟨p,_,rfl,.inr ⟨ws,ks,q,.inr ⟨ob,h1⟩,rfl,jU8 hk h3 h4,rfl⟩,(h2.val ks).2,(h2.val ks).1⟩
    ·cases h
   ·cases h
  ·cases h
 ·cases h
noncomputable def rDGet:R3:=fun x y G Q=>∃t,dAt G x y=some (some t)/\Q t G
theorem ix_dict (hu:X.A.units+20<cLine):Ix3 X rDGet:=by
 rintro value slice pins s τ G H x y v u Q ⟨σ,I,hs,hg⟩ ⟨a,ra,rv⟩ ⟨b,rb,ru⟩ ⟨t,hd,q⟩ hsl
 obtain⟨p,ov,e,g,_,hh⟩:=dAt_get hg ra rb hd
 obtain⟨w,ew,rw'⟩:=hh t rfl
 subst e;subst ew
 cases rv
 have hT:s.TypeIs (.ref p) "dict":=dict_typeIs I g
 unfold subscriptTail
 refine wpAny_bind ?_
 rw[getitemInPython_of_ne hT.not_modules]
 refine wpAny_bind (wpAny_specialOf hT PySem.F.slot_dict_getitem.lookup ?_)
 have fin:wpAny (model X.prog X.w) X.A (subscripted slice false (.ref p) u) (fun r s₃=>wpAny (model X.prog X.w) X.A (letTemporaryGo value (.ref p) r >>= fun _=>pure r) (EP3 X pins τ H Q) X.xe s₃) X.xe s:=by
  rw[hsl]
  exact wpAny_operating (d_getItem hu I g ru fun w' s' I' r'=>wpAny_bind (wpAny_letTemporaryGo (wpAny_pure ⟨t,G,H,.refl H,⟨σ,I',hs,hg⟩,⟨w,rw',r'⟩,q⟩)))
 first
  | exact wpAny_pure (wpAny_bind fin)
  | exact wpAny_bind (wpAny_pure (wpAny_bind fin))
  | exact wpAny_bind fin
theorem Ix3.or {r r':R3} (h:Ix3 X r) (h':Ix3 X r'):Ix3 X (fun x y G Q=>r x y G Q\/r' x y G Q):=by
 intro value slice pins s τ G H x y v u Q I rx ry q hs
 rcases q with q | q
 ·exact h value slice pins s τ G H x y v u Q I rx ry q hs
 ·exact h' value slice pins s τ G H x y v u Q I rx ry q hs
noncomputable def rIxA:R3:=fun x y G Q=>rIx x y G Q\/rDGet x y G Q
theorem ix_anyA (hu:X.A.units+20<cLine):Ix3 X rIxA:=ix_any.or (ix_dict hu)
noncomputable def rDNotIn:R3:=fun x y G Q=>∃o,dAt G y x=some o/\Q (.bl (!o.isSome)) G
theorem o_dNotIn (hu:X.A.units+20<cLine):Op3 X (compareOp .NotIn) rDNotIn:=by
 rintro pins s τ G H x y v u Q ⟨σ,I,hs,hg⟩ ⟨a,ra,rv⟩ ⟨b,rb,ru⟩ ⟨o,hd,q⟩
 obtain⟨p,ov,e,g,e2,_⟩:=dAt_get hg rb ra hd
 subst e;cases ru
 exact d_notIn hu I g rv fun s' I'=>⟨.bl _,G,H,.refl H,⟨σ,I',hs,hg⟩,⟨.bl _,rfl,by rw[<-e2];rfl⟩,q⟩
noncomputable def rNotInL:R3:=fun x y G Q=>rInF true x y G Q\/rDNotIn x y G Q
theorem o_notIn (hu:X.A.units+20<cLine):Op3 X (compareOp .NotIn) rNotInL:=o_notInF.or (o_dNotIn hu)
noncomputable def jZl:TE3:=fun _ G Q=>(∀p,G p=none->Q (.ref p) (gup G p (.dct [])))\/∀p,G p=none->Q (.ref p) (gup G p (.dck []))
theorem e_dct {pos:Pos}:PE3 X (.Dict [] [] pos) jZl:=by
 rintro pins s τ G H Q ⟨σ,I,hs,hg⟩ h
 rcases h with h | h
 ·exact thn (pe_dnewT pins s σ H (up X.K H Q) I fun p hp=>⟨.ref p,_,.upd (.none hp),hg.upd (.none hp) (go:= .dct []) ⟨[],jUc,.nil⟩,rfl,h p (hg.fresh hp)⟩) fun u s' z=>jZq hs z
 ·exact thn (pe_dnewK pins s σ H (up X.K H Q) I fun p hp=>⟨.ref p,_,.upd (.none hp),hg.upd (.none hp) (go:= .dck []) ⟨[],jUc,.nil⟩,rfl,h p (hg.fresh hp)⟩) fun u s' z=>jZq hs z
noncomputable def rDPutT:T->T->T->Gp->(Gp->Prop)->Prop:=fun o i v G Q=>∃p ys ks kvs,o= .ref p/\i= .tup ys/\jQ9 ys=some ks/\G p=some (.dct kvs)/\kvs.length<sizeLine/\Q (gup G p (.dct (putT kvs ks v)))
noncomputable def rDPutK:T->T->T->Gp->(Gp->Prop)->Prop:=fun o i v G Q=>∃p k kvs,o= .ref p/\jV3 i=some k/\G p=some (.dck kvs)/\kvs.length<sizeLine/\Q (gup G p (.dck (putT kvs k v)))
theorem s_dictT (hu:X.A.units+20<cLine):Set3 X rDPutT:=by
 rintro pins s τ G H o i v ov iv u Q ⟨σ,I,hs,hg⟩ ⟨a,ra,rv⟩ ⟨b,rb,ru⟩ ⟨c,rc,rw'⟩ ⟨p,ys,ks,kvs,eo,ei,hk,hG,hz,q⟩
 subst eo;subst ei
 cases (show a= .ref p from ra);cases rv
 obtain⟨ws,h1,h2⟩:=hg p _ hG
 obtain⟨b',vs,e,h3,h4⟩:=(show ∃q vs,b= .ref q/\H q=some (.tup vs)/\Reps X.K H ys vs from rb)
 subst e
 have h3:=jU8 hk h3 h4
 have e:Ext H (upd H p (.dT (putK ws ks c))):= .upd (.dT h1)
 exact d_setItem hu I (DPut.t h1 h3 (by rw[<-h2.length];exact hz)) ru rw' fun s' I'=>⟨_,_,e,⟨σ,I',hs.mono e,hg.upd (.dT h1) (go:= .dct (putT kvs ks v)) ⟨_,jUc,(h2.put ks rc).mono e⟩⟩,q⟩
theorem s_dictK (hu:X.A.units+20<cLine):Set3 X rDPutK:=by
 rintro pins s τ G H o i v ov iv u Q ⟨σ,I,hs,hg⟩ ⟨a,ra,rv⟩ ⟨b,rb,ru⟩ ⟨c,rc,rw'⟩ ⟨p,k,kvs,eo,hk,hG,hz,q⟩
 subst eo
 cases (show a= .ref p from ra);cases rv
 obtain⟨ws,h1,h2⟩:=hg p _ hG
 have eb:=jZd hk rb
 subst eb
 have e:Ext H (upd H p (.dK (putK ws k c))):= .upd (.dK h1)
 exact d_setItem hu I (DPut.k h1 (by rw[<-h2.length];exact hz)) ru rw' fun s' I'=>⟨_,_,e,⟨σ,I',hs.mono e,hg.upd (.dK h1) (go:= .dck (putT kvs k v)) ⟨_,jUc,(h2.put k rc).mono e⟩⟩,q⟩
theorem Set3.or {r r':T->T->T->Gp->(Gp->Prop)->Prop} (h:Set3 X r) (h':Set3 X r'):Set3 X (fun o i v G Q=>r o i v G Q\/r' o i v G Q):=by
 intro pins s τ G H o i v ov iv u Q I ro ri rv q
 rcases q with q | q
 ·exact h pins s τ G H o i v ov iv u Q I ro ri rv q
 ·exact h' pins s τ G H o i v ov iv u Q I ro ri rv q
noncomputable def rSetA:T->T->T->Gp->(Gp->Prop)->Prop:=fun o i v G Q=>rSetL o i v G Q\/rDPutT o i v G Q\/rDPutK o i v G Q
theorem s_any (hu:X.A.units+20<cLine):Set3 X rSetA:=s_list.or ((s_dictT hu).or (s_dictK hu))
end
end L3
namespace L3
open PySem PySem.Spec PyProof.Rows L2
noncomputable def tyOfT (G:Gp):T->Option String
 | .non=>some "NoneType"
 | .bl _=>some "bool"
 | .int _=>some "int"
 | .str _=>some "str"
 | .tup _=>some "tuple"
 | .scr _=>some "list"
 | .ref p=>match G p with
  | some (.lst _)=>some "list"
  | some (.dct _)=>some "dict"
  | some (.dck _)=>some "dict"
  | some (.fdc _)=>none
  | some (.ins _ _)=>none
  | none=>none
 | .ty _=>none
noncomputable def subT (t n:String):Option Bool:=
 if n="bool"\/n="int"\/n="str"\/n="list"\/n="tuple" then some (t == n||(t == "bool"&&n == "int")) else none
theorem kit_bool (K:PySem.W.Frag) {n:String} {b:Bool} (h:subT "bool" n=some b):PySem.W.kitOne K (.type "bool") (.type n)=some b:=by
 unfold subT at h
 split at h
 ·rename_i hn
  rcases hn with rfl | rfl | rfl | rfl | rfl<;>(cases h;kernel_rfl)
 ·cases h
theorem kit_none (K:PySem.W.Frag) {n:String} {b:Bool} (h:subT "NoneType" n=some b):PySem.W.kitOne K (.type "NoneType") (.type n)=some b:=by
 unfold subT at h
 split at h
 ·rename_i hn
  rcases hn with rfl | rfl | rfl | rfl | rfl<;>(cases h;kernel_rfl)
 ·cases h
theorem kit_int (K:PySem.W.Frag) {n:String} {b:Bool} (h:subT "int" n=some b):PySem.W.kitOne K (.type "int") (.type n)=some b:=by
 unfold subT at h
 split at h
 ·rename_i hn
  rcases hn with rfl | rfl | rfl | rfl | rfl<;>(cases h;kernel_rfl)
 ·cases h
theorem kit_str (K:PySem.W.Frag) {n:String} {b:Bool} (h:subT "str" n=some b):PySem.W.kitOne K (.type "str") (.type n)=some b:=by
 unfold subT at h
 split at h
 ·rename_i hn
  rcases hn with rfl | rfl | rfl | rfl | rfl<;>(cases h;kernel_rfl)
 ·cases h
theorem kit_tuple (K:PySem.W.Frag) {n:String} {b:Bool} (h:subT "tuple" n=some b):PySem.W.kitOne K (.type "tuple") (.type n)=some b:=by
 unfold subT at h
 split at h
 ·rename_i hn
  rcases hn with rfl | rfl | rfl | rfl | rfl<;>(cases h;kernel_rfl)
 ·cases h
theorem kit_list (K:PySem.W.Frag) {n:String} {b:Bool} (h:subT "list" n=some b):PySem.W.kitOne K (.type "list") (.type n)=some b:=by
 unfold subT at h
 split at h
 ·rename_i hn
  rcases hn with rfl | rfl | rfl | rfl | rfl<;>(cases h;kernel_rfl)
 ·cases h
theorem kit_dict (K:PySem.W.Frag) {n:String} {b:Bool} (h:subT "dict" n=some b):PySem.W.kitOne K (.type "dict") (.type n)=some b:=by
 unfold subT at h
 split at h
 ·rename_i hn
  rcases hn with rfl | rfl | rfl | rfl | rfl<;>(cases h;kernel_rfl)
 ·cases h
end L3
namespace L3
open PySem PySem.Spec PyProof.Rows L2
section
variable {X:Cx}
theorem e_ty {x:Str} {n:String} {pos:Pos} (hg:Gl X x) (hm:X.mg x=none) (hv:bootBuiltins x=some (.type n)) (hn:x≠"__name__":=by decide) (hd:(x == ("__debug__":Str))=false:=by decide):PE3 X (.Name x pos) (tC (.ty n)):=
 fun pins s τ G H Q ⟨σ,I,hs,hg'⟩ q=>thn (pe_bltn (v:= .ty n) hg hm hv rfl hn hd pins s σ H (up X.K H Q) I ⟨.ty n,G,.refl H,hg',rfl,q⟩) fun u s' h=>jZq hs h
noncomputable def kitT (t:String):List T->Option Bool
 | []=>some false
 | .ty n::r=>match subT t n with
  | some true=>some true
  | some false=>kitT t r
  | none=>none
 | _::_=>none
noncomputable def isiC:Option String->T->Option Bool
 | some t,.ty n=>subT t n
 | some t,.tup cs=>kitT t cs
 | _,_=>none
noncomputable def isiT (G:Gp) (x c:T):Option Bool:=isiC (tyOfT G x) c
noncomputable def rIsi:List T->Gp->VK3->Prop:=fun xs G Q=>∃x c b,xs=[x,c]/\isiT G x c=some b/\Q (.bl b) G
theorem kit_any {K:PySem.W.Frag} {H:Hp} {t:String} (ok:∀n b,subT t n=some b->PySem.W.kitOne K (.type t) (.type n)=some b):∀ {cs:List T} {vs:List V} {us:List Value} {b:Bool},Reps K H cs vs->Vals vs us->kitT t cs=some b->PySem.W.kitAny K (.type t) us=some b
 | [],_,_,_,r,q,h=>by cases r;cases q;exact h
 | c::cs,_,_,b,⟨v,ws,e,r1,r2⟩,q,h=>by
  subst e
  cases q with
  | cons q1 q2=>
   cases c with
   | ty n=>
    cases (show v= .ty n from r1)
    cases q1
    unfold kitT at h
    unfold PySem.W.kitAny
    cases e:subT t n with
    | none=>rw[e] at h;cases h
    | some k=>
     rw[e] at h
     rw[ok n k e]
     cases k with
     | true=>exact h
     | false=>exact kit_any ok r2 q2 h
   | _=>cases h
theorem jU2 {pins:List (Addr×Obj)} {τ:St3} {G:Gp} {H:Hp} {s:Shared} {σ:L2.St} {c:T} {cv:V} {u cu:Value} {t:String} {b:Bool} {Q:VK3} {Hh:Heap->Prop} (I:Inv X pins σ H s) (hs:SRel X.K H σ τ) (hg:GRel X.K H G)
  (Z:PySem.W.KitX X.K u (.type t) Hh) (p:Hh s.heap) (hx:u≠ .builtin "__main__.__loader__#opaque") (ok:∀n b,subT t n=some b->PySem.W.kitOne X.K (.type t) (.type n)=some b)
  (rc:Rep X.K H c cv) (ru:RelV cv cu) (h:isiC (some t) c=some b) (q:Q (.bl b) G):
  wpAny (model X.prog X.w) X.A (call (.builtin "isinstance") [u,cu]) (EP3 X pins τ H Q) X.xe s:=by
 have fin:∀tk,EP3 X pins τ H Q (.bool b) {s with toks:=tk}:=fun tk=>⟨.bl b,G,H,.refl H,⟨σ,I.tok tk,hs,hg⟩,⟨.bl b,rfl,rfl⟩,q⟩
 cases c with
 | ty n=>
  cases (show cv= .ty n from rc);cases ru
  exact PySem.W.kia_one Z I.kIn p (ok n b h) hx fin
 | tup cs=>
  obtain⟨pp,vs,e,h1,h2⟩:=(show ∃p vs,cv= .ref p/\H p=some (.tup vs)/\Reps X.K H cs vs from rc)
  subst e;cases ru
  obtain⟨its,rv,⟨⟨cls,dd,data,sl⟩,ho,hc,n,hd⟩,_⟩:=I.tuple (.of h1)
  simp only at hc hd
  subst hc hd
  exact PySem.W.kia_tup Z I.kIn p ho (kit_any ok h2 rv h) hx fin
 | _=>cases h
theorem c_isi:Call3 X (.builtin "isinstance") rIsi:=by
 rintro pins s τ G H xs us Q ⟨σ,I,hs,hg⟩ ⟨as,ras,rvs⟩ ⟨x,c,b,e,h,q⟩
 subst e
 obtain⟨a,cv,rfl,ra,rc⟩:=reps2 ras
 obtain⟨u,cu,rfl,ru,rcu⟩:=rvs.two
 unfold isiT at h
 cases x with
 | non=>cases (show a= .non from ra);cases ru;exact jU2 I hs hg PySem.W.kitx_none True.intro (fun z=>nomatch z) (fun n b=>kit_none _) rc rcu h q
 | bl k=>cases (show a= .bl k from ra);cases ru;exact jU2 I hs hg PySem.W.kitx_bool True.intro (fun z=>nomatch z) (fun n b=>kit_bool _) rc rcu h q
 | int k=>cases (show a= .int k from ra);obtain⟨t,rfl⟩:=ru;exact jU2 I hs hg PySem.W.kitx_int True.intro (fun z=>nomatch z) (fun n b=>kit_int _) rc rcu h q
 | str k=>cases (show a= .str k from ra);obtain⟨t,rfl⟩:=ru;exact jU2 I hs hg PySem.W.kitx_str True.intro (fun z=>nomatch z) (fun n b=>kit_str _) rc rcu h q
 | tup ys=>
  obtain⟨p,vs,e,h1,h2⟩:=(show ∃p vs,a= .ref p/\H p=some (.tup vs)/\Reps X.K H ys vs from ra)
  subst e;cases ru
  obtain⟨its,rv,⟨o,ho,hc,_⟩,_⟩:=I.tuple (.of h1)
  exact jU2 I hs hg PySem.W.kitx_tuple ⟨o,ho,hc⟩ (fun z=>nomatch z) (fun n b=>kit_tuple _) rc rcu h q
 | scr ys=>
  obtain⟨p,vs,e,h1,h2⟩:=(show ∃p vs,a= .ref p/\FrL X.K H p vs/\Reps X.K H ys vs from ra)
  subst e;cases ru
  obtain⟨its,rv,⟨o,n,ho,hc,_⟩,_⟩:=I.list h1.sq
  exact jU2 I hs hg PySem.W.kitx_list ⟨o,ho,hc⟩ (fun z=>nomatch z) (fun n b=>kit_list _) rc rcu h q
 | ref p=>
  cases (show a= .ref p from ra);cases ru
  cases hG:G p with
  | none=>simp only[tyOfT,hG] at h;cases h
  | some g=>
   cases g with
   | lst ys=>
    simp only[tyOfT,hG] at h
    obtain⟨vs,h1,h2⟩:=hg.lst hG
    obtain⟨its,rv,⟨o,n,ho,hc,_⟩,_⟩:=I.list (.of h1)
    exact jU2 I hs hg PySem.W.kitx_list ⟨o,ho,hc⟩ (fun z=>nomatch z) (fun n b=>kit_list _) rc rcu h q
   | fdc kvs=>simp only[tyOfT,hG] at h;cases h
   | ins _ _=>simp only[tyOfT,hG] at h;cases h
   | dct kvs=>
    simp only[tyOfT,hG] at h
    obtain⟨ws,h1,_⟩:=hg p _ hG
    obtain⟨_,_,xs,_,o,es,ep,h3,h4,_⟩:=(show ObjOk X.prog X.w H s.heap p (.dT ws) from I.hok p _ h1)
    exact jU2 I hs hg PySem.W.kitx_dict ⟨o,h3,h4.1⟩ (fun z=>nomatch z) (fun n b=>kit_dict _) rc rcu h q
   | dck kvs=>
    simp only[tyOfT,hG] at h
    obtain⟨ws,h1,_⟩:=hg p _ hG
    obtain⟨_,_,vs,_,pp⟩:=(show ObjOk X.prog X.w H s.heap p (.dK ws) from I.hok p _ h1)
    obtain⟨o,es,ep,h3,h4,_⟩:=pp
    exact jU2 I hs hg PySem.W.kitx_dict ⟨o,h3,h4.1⟩ (fun z=>nomatch z) (fun n b=>kit_dict _) rc rcu h q
 | ty _=>cases h
end
end L3
namespace HT
open PySem PyProof.Rows
end HT
namespace L3
open PySem PySem.Spec PyProof.Rows L2
section
variable {X:Cx}
noncomputable def jU3 (ta:TA3):TE3:=fun τ G Q=>ta τ G fun vs G1=>∃j:Int,vs=[.int j]/\ -(2^62)<=j/\j<=2^20/\∀p,G1 p=none->Q (.ref p) (gup G1 p (.lst (rngT 0 j.toNat)))
theorem reps_rng {K:PySem.W.Frag} {H:Hp} {n:Nat} {vs:List V} (hl:vs.length=n) (h:∀(i:Nat) v,vs[i]? =some v->v= .int (0+i)):Reps K H (rngT 0 n) vs:=by
 have e:vs=(List.range n).map fun (k:Nat)=>V.int (0+k):=by
  apply lJx
  intro i
  cases hv:vs[i]? with
  | none=>
   have:n<=i:=by rw[<-hl];exact List.getElem?_eq_none_iff.mp hv
   simp[this]
  | some v=>
   have hi:i<n:=by rw[<-hl];exact (lJb.mp hv).1
   rw[h i v hv];simp[hi]
 rw[e]
 unfold rngT
 generalize List.range n=l
 induction l with
 | nil=>rfl
 | cons k ks ih=>exact⟨_,_,rfl,rfl,ih⟩
end
end L3
namespace L3
open PySem PySem.Spec PyProof.Rows L2
section
variable {X:Cx}
theorem kKj {a:Expr} {ta:TA3} {pos p p2 p3:Pos} (hgl:Gl X "list") (hml:X.mg "list"=none) (hgr:Gl X "range") (hmr:X.mg "range"=none) (hc:X.calm=true) (ha:PA3 X [a] ta) (hs:starEach [a] X.env=[(false,eval a X.env)]:=by rfl)
  (ho:starEach [Expr.Call (.Name "range" p2) [a] [] p3] X.env=[(false,eval (.Call (.Name "range" p2) [a] [] p3) X.env)]:=by rfl):
  PE3 X (.Call (.Name "list" p) [.Call (.Name "range" p2) [a] [] p3] [] pos) (jU3 ta):=by
 intro pins s τ G H Q I h
 obtain⟨σ0,I0,hs0,hg0⟩:=id I
 refine wpAny_Call_Name_kw (jV2 I0 hgl hml (u:= .type "list") (by rfl) ?_)
 refine PyProof.Rows.callWith_type1 (T:="list") ?_ ho rfl
 rw[ho]
 show wpAny _ _ (spliced ((false,eval (.Call (.Name "range" p2) [a] [] p3) X.env)::backTo pos [])) _ _ s
 refine Calls.spliced_cons ?_
 refine Call_ (jV2 I0 hgr hmr boot_range (PyProof.Rows.callWith_type1 (thn (ha p3 pins s τ G H _ I h) fun us s1 w_=>w_.el fun xs G1 H1 e1 i_ r_ ⟨j,e,q1,q2,q⟩=>i_.el fun σ I1 hs1 hg1=>r_.el fun as ras rvs=> ?_) hs rfl))
 subst e
 obtain⟨v,rfl,rv⟩:=jXl ras
 cases (show v= .int j from rv)
 obtain⟨u,rfl,ru⟩:=rvs.one
 obtain⟨t,rfl⟩:=ru
 refine call_range_1 ?_
 refine Calls.spliced_nil ?_
 have I2:Inv X pins σ H1 {s1 with heap:=s1.heap.push {cls:= .type "range",data:= .fields #[.int 0 s1.toks,.int j t,.int 1 (s1.toks+1)]},toks:=s1.toks+1+1}:=I1.kept fun b o e=>Heap.get?_push_of_some _ e
 refine call_list_range (n:=j.toNat) (I1.ok.hd hc) (IsRange.new ..) (small_one (by omega) (by omega) q1 (by omega)) (by rw[rangeSize_one];split<;>omega) (by omega) fun h' tk acc' c' hk hobj hit=> ?_
 have hf:H1 (s1.heap.push {cls:= .type "range",data:= .fields #[.int 0 s1.toks,.int j t,.int 1 (s1.toks+1)]}).objs.size=none:=I2.hok.fresh (lJd _)
 have hz:acc'.size<=sizeLine:=by rw[hit.1,sizeLine_eq];omega
 obtain⟨vs,hvs,rr⟩:∃vs:List V,Vals vs acc'.toList/\Reps X.K H1 (rngT 0 j.toNat) vs:=by
  refine⟨(List.range j.toNat).map fun (k:Nat)=>V.int (0+k),?_,reps_rng (by simp) (fun i v hv=> ?_)⟩
  ·have all:∀(l:List Value) (n0:Nat),(∀(i:Nat) v,l[i]? =some v->∃t,v= .int ((0:Int)+((n0+i:Nat):Int)*1) t)->Vals ((List.range' n0 l.length).map fun (k:Nat)=>V.int (0+k)) l:=by
    intro l
    induction l with
    | nil=>intro n0 _;exact .nil
    | cons v l ih=>
     intro n0 hh
     obtain⟨t,ht⟩:=hh 0 v rfl
     rw[lJy,List.range'_succ,lJh]
     refine .cons ⟨t,by rw[ht];simp⟩ (ih (n0+1) fun i w hw=> ?_)
     obtain⟨t',ht'⟩:=hh (i+1) w (by simpa using hw)
     exact⟨t',by rw[ht'];congr 1;omega⟩
   have:=all acc'.toList 0 (fun i v hv=>by
    obtain⟨t,ht⟩:=hit.2 i v (by simpa using hv)
    exact⟨t,by rw[ht];simp⟩)
   rw[List.range_eq_range']
   rw[show acc'.toList.length=j.toNat by simpa using hit.1] at this
   exact this
  ·rw[lJe] at hv
   cases e:(List.range j.toNat)[i]? with
   | none=>rw[e] at hv;cases hv
   | some k=>
    rw[e] at hv;cases hv
    have:=lJb.mp e
    obtain⟨h1,h2⟩:=this
    simp at h2;rw[<-h2]
 refine⟨.ref _,_,_,e1.trans (.upd (.none hf)),⟨σ,I2.laid (t':=tk) (o:= .lst vs) hk (lJd _) ⟨by rw[hvs.length];simpa using hz,acc'.toList,c',hvs,by simpa using hobj⟩,hs1.mono (.upd (.none hf)),hg1.lstNew rr (.none hf)⟩,⟨.ref _,rfl,rfl⟩,q _ (hg1.fresh hf)⟩
noncomputable def insT (xs:List T) (k:Nat) (y:T):List T:=xs.take k++y::xs.drop k
noncomputable def kJ4:T->List T->Gp->VK3->Prop:=fun x as G Q=>∃p xs k y,x= .ref p/\as=[.int k,y]/\G p=some (.lst xs)/\0<=k/\k<=xs.length/\xs.length<sizeLine/\Q .non (gup G p (.lst (insT xs k.toNat y)))
theorem m_insert:Mt3 X "list.insert" kJ4:=by
 rintro pins s τ G H x as v us Q ⟨σ,I,hs,hg⟩ ⟨a,ra,rv⟩ ⟨bs,rbs,rus⟩ ⟨p,xs,k,y,ex,ea,hp,k0,k1,hz,q⟩
 subst ex;subst ea
 cases (show a= .ref p from ra);cases rv
 obtain⟨b1,b2,rfl,r1,r2⟩:=reps2 rbs
 cases (show b1= .int k from r1)
 obtain⟨u1,u2,rfl,ru1,ru2⟩:=rus.two
 obtain⟨t,rfl⟩:=ru1
 obtain⟨vs,h1,h2⟩:=hg.lst hp
 obtain⟨z,its,n,r,hl,e⟩:=I.lstM h1
 have hlen:=h2.length
 have hfit:¬ (!Builtin.List.listFitsIndex k)=true:=by
  have h63:=jZ1
  rw[fitsIndex_both (by omega) (by omega)]
  exact lJl
 refine call_meets F.slot_list_insert ⟨_,e,rfl⟩ F.entry_list_insert (F.args_list_insert_3 _ _ _) (AutoSeq1.list_insert_list_int_val_1 p its.toArray n k t u2 hfit (by rw[lJp];omega)) ⟨e,?_⟩
 have e2:Ext H (upd H p (.lst (vs.take k.toNat++b2::vs.drop k.toNat))):= .upd (.lst h1)
 refine⟨.non,_,_,e2,⟨σ,I.lset (its':=its.take k.toNat++u2::its.drop k.toNat) h1 e ?_ ((r.take _).append (.cons ru2 (r.drop _))) ?_,hs.mono e2,hg.lstNew (xs:=insT xs k.toNat y) ((h2.take _).append ⟨b2,_,rfl,r2,h2.drop _⟩) (.lst h1)⟩,⟨.non,rfl,rfl⟩,q⟩
 ·have hk:¬ k<0:=by omega
  have hm:min k.toNat its.toArray.size=k.toNat:=by rw[lJp];omega
  simp only[hk,if_false,hm]
  apply Array.ext'
  simp[Array.toList_extract]
  rw[List.take_of_length_le (Nat.le_of_eq (by simp))]
 ·simp only[lJ2,lJy,lK9,List.length_drop]
  omega
noncomputable def rCount:T->List T->Gp->VK3->Prop:=fun x as G Q=>∃p xs y,x= .ref p/\as=[y]/\G p=some (.lst xs)/\jXj y=true/\xs.all jXj=true/\Q (.int (xs.countP fun z=>eqT z y)) G
theorem count_eqU {K:PySem.W.Frag} {H:Hp} {y:T} {b:V} (ry:Rep K H y b) (fy:jXj y=true):∀ {xs:List T} {vs:List V} {us:List Value},Reps K H xs vs->Vals vs us->xs.all jXj=true->us.countP (eqU b)=xs.countP fun z=>eqT z y
 | [],_,_,r,q,_=>by cases r;cases q;rfl
 | x::xs,_,_,⟨v,ws,e,r1,r2⟩,q,f=>by
  subst e
  cases q with
  | cons q1 q2=>
   rw[lKw,lKe] at f
   rw[List.countP_cons,List.countP_cons,count_eqU ry fy r2 q2 f.2,eqU_of q1 (jYd r1 f.1),flat_eq r1 ry f.1 fy]
theorem m_count:Mt3 X "list.count" rCount:=by
 rintro pins s τ G H x as v us Q ⟨σ,I,hs,hg⟩ ⟨a,ra,rv⟩ ⟨bs,rbs,rus⟩ ⟨p,xs,y,ex,ea,hp,fy,fs,q⟩
 subst ex;subst ea
 cases (show a= .ref p from ra);cases rv
 obtain⟨b,rfl,rb⟩:=jXl rbs
 obtain⟨u,rfl,ru⟩:=rus.one
 obtain⟨vs,h1,h2⟩:=hg.lst hp
 obtain⟨z,its,n,r,hl,e⟩:=I.lstM h1
 have fl:=(kJq rb fy h2 fs).1
 refine call_meets F.slot_list_count ⟨_,e,rfl⟩ F.entry_list_count (F.args_list_count_2 _ _) (SeqAt.list_countAt p its.toArray n none #[] u (eqU b)) ⟨e,fun w hw=>jZa ru (jYd rb fy) r fl w (by simpa using hw),?_⟩
 refine⟨.int _,G,H,.refl H,⟨σ,I.tok _,hs,hg⟩,⟨.int _,rfl,s.toks,?_⟩,q⟩
 rw[<-count_eqU rb fy h2 r fs]
noncomputable def allBl:List T->Option Bool
 | []=>some true
 | .bl b::r=>match allBl r with
  | some c=>some (b&&c)
  | none=>none
 | _::_=>none
noncomputable def rAll:List T->Gp->VK3->Prop:=fun as G Q=>∃p xs b,as=[.ref p]/\G p=some (.lst xs)/\allBl xs=some b/\Q (.bl b) G
theorem allBl_map:∀ {xs:List T} {b:Bool},allBl xs=some b->∃bs:List Bool,xs=bs.map T.bl/\b=bs.all (fun x=>x)
 | [],b,h=>by cases h;exact⟨[],rfl,rfl⟩
 | .bl c::r,b,h=>by
  unfold allBl at h
  cases e:allBl r with
  | none=>rw[e] at h;cases h
  | some d=>
   rw[e] at h;cases h
   obtain⟨bs,h1,h2⟩:=allBl_map e
   exact⟨c::bs,by rw[h1];rfl,by rw[h2];rfl⟩
 | .non::_,_,h=>by cases h
 | .int _::_,_,h=>by cases h
 | .str _::_,_,h=>by cases h
 | .tup _::_,_,h=>by cases h
 | .scr _::_,_,h=>by cases h
 | .ref _::_,_,h=>by cases h
 | .ty _::_,_,h=>by cases h
theorem reps_bls {K:PySem.W.Frag} {H:Hp}:∀ {bs:List Bool} {vs:List V} {us:List Value},Reps K H (bs.map T.bl) vs->Vals vs us->us=bs.map Value.bool
 | [],_,_,h,q=>by cases h;cases q;rfl
 | n::ns,_,_,⟨v,ws,e,r,rs⟩,q=>by
  subst e;cases (show v= .bl n from r)
  cases q with
  | cons q1 q2=>cases q1;rw[reps_bls rs q2];rfl
theorem all_range:∀(bs:List Bool),bs.all (fun x=>x)=(List.range bs.length).all fun i=>bs.getD i true
 | []=>rfl
 | b::bs=>by
  rw[lKw,all_range bs,lJy,List.range_succ_eq_map,lKw,List.all_map]
  simp[Function.comp_def,List.getD]
theorem c_all (hc:X.calm=true):Call3 X (.builtin "all") rAll:=by
 rintro pins s τ G H as us Q ⟨σ,I,hs,hg⟩ ⟨bs',rbs,rus⟩ ⟨p,xs,b,e,hp,hb,q⟩
 subst e
 obtain⟨a,rfl,ra⟩:=jXl rbs
 cases (show a= .ref p from ra)
 obtain⟨u,rfl,ru⟩:=rus.one
 cases ru
 obtain⟨vs,h1,h2⟩:=hg.lst hp
 obtain⟨bs,ex,eb⟩:=allBl_map hb
 subst ex
 obtain⟨its,rv,pl,hz⟩:=I.list (.of h1)
 have eit:=reps_bls h2 rv
 subst eit
 refine call_all_walk (wpAny_pyIter_list pl.isList ?_)
 have hne:p≠s.heap.objs.size:=by obtain⟨o,n,ho,_⟩:=pl;exact lJo (Heap.lt_size ho)
 refine⟨s.heap.objs.size,[s.heap.objs.size,p],[s.heap.objs.size],(bs.map Value.bool).toArray.size,_,_,fun i=>bs.getD i true,rfl,Walks.list (A:=X.A.in1) (show X.A.in1.handled=none from I.ok.hd hc) s.heap.objs.size p hne (bs.map Value.bool).toArray,⟨⟨_,Heap.get?_push_size _ rfl,rfl,rfl⟩,pl.isList.push _⟩,?_,?_⟩
 ·intro i v s' Q' E' hP hQ
  have hP':(bs.map Value.bool)[i]? =some v:=by simpa using hP
  rw[lJe] at hP'
  cases e:bs[i]? with
  | none=>rw[e] at hP';cases hP'
  | some c=>
   rw[e] at hP';cases hP'
   have:bs.getD i true=c:=by simp[List.getD,e]
   have hQ':Q' (bs.getD i true) s':=hQ
   rw[this] at hQ'
   exact wpAny_truthy_bool hQ'
 ·intro h' tk hk
  have hk2:∀b o,s.heap.get? b=some o->h'.get? b=some o:=fun b o e=>hk b o (by simpa using lJo (Heap.lt_size e)) (Heap.get?_push_of_some _ e)
  refine⟨.bl b,G,H,.refl H,⟨σ,I.kept hk2,hs,hg⟩,⟨.bl b,rfl,?_⟩,q⟩
  rw[eb,all_range]
  simp
  rfl
end
end L3
namespace L3
open PySem PySem.Spec PyProof.Rows L2
structure Cal (P:Program) (w:World) (K:PySem.W.Frag) (mg:Str->Option Value) (base:Heap) (k:Nat) (x:Str) (ps:List Str) (sp:Sp3):Prop where
 ex:∃f fd,Fn3 P w K mg base k f fd ps sp/\mg x=some (.ref f)/\PySem.W.keepIn K (.ref f)=true/\Binds K fd ps []
 mono:Mono sp
 len:∀xs G Q,sp xs G Q->xs.length=ps.length
theorem jJ7 {X:Cx} {k:Nat} {ps:List Str} {sp:Sp3} {x:Str} {p pos:Pos} {e:Expr} {es:List Expr} {t:TA3} (C:Cal X.prog X.w X.K X.mg X.base k x ps sp) (hr:Room k X.A) (ha:PA3 X (e::es) t) (hg:Gl X x:=by rfl)
  (hdb:(x == ("__debug__":Str))=false:=by decide) (he:starEach (e::es) X.env=(false,eval e X.env)::starEach es X.env:=by rfl) (hpl:(backTo pos (starEach es X.env)).any (·.1)=false:=by rfl):
  PE3 X (.Call (.Name x p) (e::es) [] pos) (jJy sp t):=by
 intro pins s τ G H Q I h
 obtain⟨f,fd,F,hm,hk,hb⟩:=C.ex
 obtain⟨σ0,I0,hs0,hg0⟩:=id I
 refine wpAny_Call_Name_kw (ld_glob I0 hg hm ?_ hdb)
 refine PySem.W.callWith_K (h₀:=X.base) I0.ok.mod.kin hk (thn (ha pos pins s τ G H _ I h) fun us s1 w_=>w_.el fun xs G1 H1 e1 i_ r_ q=>i_.el fun σ I1 hs1 hg1=>r_.el fun as ras rvs=>⟨I1.kIn,?_⟩) he hpl
 refine thn (run_fn (dvs:=[]) (ds:=[]) (E:=E0) (Q:=up X.K H1 Q) F hr hb .nil pass0 I1 rvs ?_) fun u s' z=>(jZq hs1 z).ext e1
 rw[lQg]
 exact⟨by rw[<-ras.length];exact C.len _ _ _ q,xs,G1,ras,hg1,C.mono _ _ _ _ (fun t G' hq v H' e g r=>⟨t,G',e,g,r,hq⟩) q⟩
noncomputable def rListA:=rListOf
theorem c_listA {X:Cx}:Call3 X (.type "list") rListA:=c_list
end L3
namespace L3
open PySem PySem.Spec PyProof.Rows
inductive Res where
 | val (t:T) | newL (xs:List T)
noncomputable def fin3:Res->Gp->VK3->Prop
 | .val t,G,Q=>Q t G
 | .newL xs,G,Q=>∀p,G p=none->Q (.ref p) (gup G p (.lst xs))
theorem Op3.imp {X:L2.Cx} {f:Value->Value->Sem Value} {r r':R3} (h:Op3 X f r) (i:∀x y G Q,r' x y G Q->r x y G Q):Op3 X f r':=fun pins s τ G H x y v u Q I rx ry q=>h pins s τ G H x y v u Q I rx ry (i x y G Q q)
theorem Ix3.imp {X:L2.Cx} {r r':R3} (h:Ix3 X r) (i:∀x y G Q,r' x y G Q->r x y G Q):Ix3 X r':=fun a b pins s τ G H x y v u Q I rx ry q hs=>h a b pins s τ G H x y v u Q I rx ry (i x y G Q q) hs
theorem Set3.imp {X:L2.Cx} {r r':T->T->T->Gp->(Gp->Prop)->Prop} (h:Set3 X r) (i:∀o j v G Q,r' o j v G Q->r o j v G Q):Set3 X r':=fun pins s τ G H o j v a b c Q I ro rj rv q=>h pins s τ G H o j v a b c Q I ro rj rv (i o j v G Q q)
noncomputable def addR (G:Gp):T->T->Option Res
 | .int i,.int j=>some (.val (.int (i+j)))
 | .ref p,.ref q=>match G p,G q with
  | some (.lst xs),some (.lst ys)=>if xs.length+ys.length<=sizeLine then some (.newL (xs++ys)) else none
  | _,_=>none
 | .tup xs,.tup ys=>if xs.length≠0/\xs.length+ys.length<=sizeLine then some (.val (.tup (xs++ys))) else none
 | _,_=>none
noncomputable def jK6:R3:=fun x y G Q=>∃r,addR G x y=some r/\fin3 r G Q
theorem add_F {x y:T} {G:Gp} {Q:VK3} (h:jK6 x y G Q):rAddA x y G Q:=by
 obtain⟨r,hr,q⟩:=h
 unfold addR at hr
 split at hr
 ·cases hr;exact .inl ⟨_,_,rfl,rfl,q⟩
 ·rename_i p q'
  split at hr
  ·rename_i xs ys h1 h2
   split at hr
   ·rename_i hz;cases hr;exact .inr (.inl ⟨p,q',xs,ys,rfl,rfl,h1,h2,hz,q⟩)
   ·cases hr
  ·cases hr
 ·rename_i xs ys
  split at hr
  ·rename_i hz;cases hr;exact .inr (.inr ⟨xs,ys,rfl,rfl,fun z=>hz.1 (by rw[z];rfl),hz.2,q⟩)
  ·cases hr
 ·cases hr
theorem o_addF {X:L2.Cx}:Op3 X (binaryOp .Add) jK6:=o_addA.imp fun _ _ _ _=>add_F
noncomputable def mulR (G:Gp):T->T->Option Res
 | .int i,.int j=>some (.val (.int (i*j)))
 | .ref p,.int n=>match G p with
  | some (.lst xs)=>if n.toNat * xs.length<=sizeLine/\n<2^62/\ -(2^62)<n then some (.newL (List.replicate n.toNat xs).flatten) else none
  | _=>none
 | _,_=>none
noncomputable def mulC:T->T->Prop
 | .int i,.int j=>L2.CMul i j
 | _,_=>True
noncomputable def jXm:R3:=fun x y G Q=>∃r,mulR G x y=some r/\mulC x y/\fin3 r G Q
theorem mul_F {x y:T} {G:Gp} {Q:VK3} (h:jXm x y G Q):rMulA x y G Q:=by
 obtain⟨r,hr,c,q⟩:=h
 unfold mulR at hr
 split at hr
 ·cases hr;exact .inl ⟨_,_,rfl,rfl,c,q⟩
 ·rename_i p n
  split at hr
  ·rename_i xs h1
   split at hr
   ·rename_i hz;cases hr;exact .inr ⟨p,xs,n,rfl,rfl,h1,hz.1,hz.2.1,hz.2.2,q⟩
   ·cases hr
  ·cases hr
 ·cases hr
theorem jVb {X:L2.Cx}:Op3 X (binaryOp .Mult) jXm:=o_mulA.imp fun _ _ _ _=>mul_F
noncomputable def ixR (G:Gp) (x y:T):Option T:=match seqT G x with
 | some xs=>match y with
  | .int i=>L2.atI xs i
  | _=>none
 | none=>match dAt G x y with
  | some o=>o
  | none=>none
noncomputable def rIxF:R3:=fun x y G Q=>∃t,ixR G x y=some t/\Q t G
theorem ix_F' {x y:T} {G:Gp} {Q:VK3} (h:rIxF x y G Q):rIxA x y G Q:=by
 obtain⟨t,ht,q⟩:=h
 unfold ixR at ht
 split at ht
 ·rename_i xs hx
  split at ht
  ·rename_i i;exact .inl ⟨xs,i,t,hx,rfl,ht,q⟩
  ·cases ht
 ·split at ht
  ·rename_i o ho;subst ht;exact .inr ⟨t,ho,q⟩
  ·cases ht
theorem ix_F {X:L2.Cx} (hu:X.A.units+20<cLine):Ix3 X rIxF:=(ix_anyA hu).imp fun _ _ _ _=>ix_F'
noncomputable def setR (G:Gp) (o i v:T):Option Gp:=match o with
 | .ref p=>match G p with
  | some (.lst xs)=>match i with
   | .int k=>match L2.ixN xs.length k with
    | some j=>some (gup G p (.lst (xs.set j v)))
    | none=>none
   | _=>none
  | some (.dct kvs)=>match i with
   | .tup ys=>match jQ9 ys with
    | some ks=>if kvs.length<sizeLine then some (gup G p (.dct (putT kvs ks v))) else none
    | none=>none
   | _=>none
  | some (.dck kvs)=>match jV3 i with
   | some k=>if kvs.length<sizeLine then some (gup G p (.dck (putT kvs k v))) else none
   | none=>none
  | some (.fdc _)=>none
  | some (.ins _ _)=>none
  | none=>none
 | _=>none
noncomputable def jVz:T->T->T->Gp->(Gp->Prop)->Prop:=fun o i v G Q=>∃G',setR G o i v=some G'/\Q G'
theorem set_F' {o i v:T} {G:Gp} {Q:Gp->Prop} (h:jVz o i v G Q):rSetA o i v G Q:=by
 obtain⟨G',hr,q⟩:=h
 unfold setR at hr
 split at hr
 ·rename_i p
  split at hr
  ·rename_i xs h1
   split at hr
   ·rename_i k
    split at hr
    ·rename_i j hj;cases hr;exact .inl ⟨p,xs,k,j,rfl,rfl,h1,hj,q⟩
    ·cases hr
   ·cases hr
  ·rename_i kvs h1
   split at hr
   ·rename_i ys
    split at hr
    ·rename_i ks hk
     split at hr
     ·rename_i hz;cases hr;exact .inr (.inl ⟨p,ys,ks,kvs,rfl,rfl,hk,h1,hz,q⟩)
     ·cases hr
    ·cases hr
   ·cases hr
  ·rename_i kvs h1
   split at hr
   ·rename_i k hk
    split at hr
    ·rename_i hz;cases hr;exact .inr (.inr ⟨p,k,kvs,rfl,hk,h1,hz,q⟩)
    ·cases hr
   ·cases hr
  ·cases hr
  ·cases hr
  ·cases hr
 ·cases hr
theorem s_F {X:L2.Cx} (hu:X.A.units+20<cLine):Set3 X jVz:=(s_any hu).imp fun _ _ _ _ _=>set_F'
noncomputable def rLeF:R3:=fun x y G Q=>∃b,(match x,y with
 | .int i,.int j=>some (decide (i<=j))
 | .tup [.int a,.int b],.tup [.int c,.int d]=>some (HT.lexLe [a,b] [c,d])
 | _,_=>none)=some b/\Q (.bl b) G
theorem le_F' {x y:T} {G:Gp} {Q:VK3} (h:rLeF x y G Q):rLeA x y G Q:=by
 obtain⟨b,hb,q⟩:=h
 split at hb
 ·cases hb;exact .inl ⟨_,_,rfl,rfl,q⟩
 ·cases hb;exact .inr ⟨_,_,rfl,rfl,q⟩
 ·cases hb
theorem o_leF {X:L2.Cx} (hu:X.A.units+20<cLine):Op3 X (compareOp .LtE) rLeF:=(o_leA hu).imp fun _ _ _ _=>le_F'
noncomputable def inR (G:Gp) (x y:T):Option Bool:=match seqT G y with
 | some xs=>if jXj x=true/\xs.all jXj=true then some (inT x xs) else none
 | none=>match dAt G y x with
  | some o=>some o.isSome
  | none=>none
noncomputable def jUf:R3:=fun x y G Q=>∃b,inR G x y=some b/\Q (.bl (!b)) G
theorem notIn_F' {x y:T} {G:Gp} {Q:VK3} (h:jUf x y G Q):rNotInL x y G Q:=by
 obtain⟨b,hb,q⟩:=h
 unfold inR at hb
 split at hb
 ·rename_i xs hx
  split at hb
  ·rename_i hc;cases hb;exact .inl ⟨xs,hx,hc.1,hc.2,q⟩
  ·cases hb
 ·split at hb
  ·rename_i o ho;cases hb;exact .inr ⟨o,ho,q⟩
  ·cases hb
theorem jY7 {X:L2.Cx} (hu:X.A.units+20<cLine):Op3 X (compareOp .NotIn) jUf:=(o_notIn hu).imp fun _ _ _ _=>notIn_F'
end L3
namespace L2
open PySem PySem.Spec PyProof.Rows
noncomputable def Its (lo c:Int) (n:Nat):It:=⟨fun i _=>i<n,fun i H x H'=>H'=H/\x= .int (lo+i*c),fun i _=>n<=i⟩
theorem turn_ranges {P:Program} {w:World} {K:PySem.W.Frag} {tg:Expr} (it:Addr) (lo c:Int) (n:Nat):Turn P w K tg (Its lo c n) [it] it (fun i h=>IsRangeIter h it (lo+(i:Nat)*c) ((n:Int)-(i:Nat)) c) where
 mem:=by simp
 obj:=fun i h st b hb=>by
  have e:b=it:=by simpa using hb
  subst e
  exact⟨_,st,fun v z=>by
   have z':Data.fields _=Data.cell v:=z
   cases z'⟩
 keep:=fun i h h' st k=>k it (by simp) _ st
 item:=by
  intro X hP hw hK hc i pins s σ H E I hf st hg
  subst hP hw hK
  obtain⟨f0,f1,f2,f3,f4,f5⟩:=hf it (by simp)
  have W:=Walks.range (prog:=X.prog) (w:=X.w) (I.ok.hd hc) it lo c n
  refine W.item i s _ _ hg st fun v h' tk hv st' kk=> ?_
  obtain⟨t,rfl⟩:=hv
  have I1:Inv X pins σ H {s with heap:=h',toks:=tk}:=I.turned (fun b o hb e=>kk b o (by simpa using hb) e) f0 f1 f3 f4 f5
  exact⟨_,rfl,go_of (s:={s with heap:=h',toks:=tk}) (n:="range_iterator") st' rfl rfl (by decide) ⟨.int (lo+i*c),H,I1,⟨t,rfl⟩,⟨rfl,rfl⟩,st',fun b hb=>(hf b hb).1⟩⟩
 done:=by
  intro X hP hw hK hc i pins s σ H E I hf st hg
  subst hP hw hK
  obtain⟨f0,f1,f2,f3,f4,f5⟩:=hf it (by simp)
  exact wpAny_pyNext_range_end (I.ok.hd hc) st (by have:n<=i:=hg;omega) fun h' eb=>⟨rfl,I.turned (t':=s.toks) (fun b o hb e=>eb b o hb e) f0 f1 f3 f4 f5⟩
 self:=fun _ _ _ _ _ st h=>wpAny_pyIter_rangeiter st h
section
variable {X:Cx} {tg:Expr}
theorem ranges_it {pins:List (Addr×Obj)} {σ:St} {H:Hp} {s:Shared} {R:It->Hp->Prop} {E:Value->Shared->Prop} {lo hi c:Int} {t u v:Tok} {tk:Nat} (I:Inv X pins σ H s) (hsm:Builtin.Range.small lo hi c=true)
  (q:R (Its lo c (Builtin.Range.rangeSize lo hi c).toNat) H):wpAny (model X.prog X.w) X.A (pyIter (.ref s.heap.objs.size)) (PIE X pins σ tg R) E {s with heap:=s.heap.push {cls:= .type "range",data:= .fields #[.int lo t,.int hi u,.int c v]},toks:=tk}:=by
 refine wpAny_pyIter_range (IsRange.new ..) hsm ?_
 have I1:Inv X pins σ H {s with heap:=s.heap.push {cls:= .type "range",data:= .fields #[.int lo t,.int hi u,.int c v]},toks:=tk}:=I.kept fun b o e=>Heap.get?_push_of_some _ e
 refine⟨(s.heap.push {cls:= .type "range",data:= .fields #[.int lo t,.int hi u,.int c v]}).objs.size,[(s.heap.push {cls:= .type "range",data:= .fields #[.int lo t,.int hi u,.int c v]}).objs.size],_,_,H,rfl,
  I1.kept (t':=tk) fun b o e=>Heap.get?_push_of_some _ e,turn_ranges _ lo c (Builtin.Range.rangeSize lo hi c).toNat,?_,fun b hb=> ?_,q⟩
 ·show IsRangeIter _ _ (lo+((0:Nat):Int)*c) ((((Builtin.Range.rangeSize lo hi c).toNat:Nat):Int)-((0:Nat):Int)) c
  rw[<-rangeSize_toNat,show lo+((0:Nat):Int)*c=lo by simp,show Builtin.Range.rangeSize lo hi c-((0:Nat):Int)=Builtin.Range.rangeSize lo hi c by simp]
  exact Heap.get?_push_size _ rfl
 ·have e:b=(s.heap.push {cls:= .type "range",data:= .fields #[.int lo t,.int hi u,.int c v]}).objs.size:=by simpa using hb
  subst e
  exact I1.fpOk (lJd _) (I1.hok.fresh (lJd _))
end
end L2
namespace L3
open PySem PySem.Spec PyProof.Rows L2
noncomputable def rngS (lo c:Int) (n:Nat):List T:=(List.range n).map fun (k:Nat)=>T.int (lo+k*c)
noncomputable def iRng3 (ta:TA3):TI3:=fun τ G R=>ta τ G fun vs G1=>∃i j c:Int,vs=[.int i,.int j,.int c]/\(c≠0/\c.natAbs<1073741824/\Builtin.Range.small i j c=true)/\R (rngS i c (Builtin.Range.rangeSize i j c).toNat) (fun _=>True) G1
theorem items_rngS {K:PySem.W.Frag} {H:Hp} (lo c:Int) (n:Nat):Items K H (Its lo c n) (rngS lo c n) fun _=>True:=by
 intro i H' G e g _
 have hl:(rngS lo c n).length=n:=by simp[rngS]
 refine⟨fun h=>by rw[hl] at h;exact h,fun h=>by rw[hl] at h;exact h,fun hi x H2 ⟨eH,ex⟩=> ?_⟩
 rw[hl] at hi
 subst eH;subst ex
 exact⟨.refl _,g,.int (lo+i*c),by simp[rngS,hi],rfl⟩
theorem i_range3 {X:Cx} {tg:Expr} {pos:Pos} {a b c:Expr} {ta:TA3} {p:Pos} (hg:Gl X "range") (hm:X.mg "range"=none) (ha:PA3 X [a,b,c] ta) (hs:starEach [a,b,c] X.env=[(false,eval a X.env),(false,eval b X.env),(false,eval c X.env)]:=by rfl) (hs2:starEach [b,c] X.env=[(false,eval b X.env),(false,eval c X.env)]:=by rfl):
  PI3 X tg (.Call (.Name "range" p) [a,b,c] [] pos) (iRng3 ta):=by
 intro pins s τ G H R I h
 obtain⟨σ,I0,hs0,hg0⟩:=id I
 refine Call_ (jV2 I0 hg hm boot_range (PyProof.Rows.callWith_type1 (thn (ha pos pins s τ G H _ I h) fun us s1 w_=>w_.el fun xs G1 H1 e1 i_ r_ q1=>i_.el fun σ I1 hs1 hg1=>r_.el fun as ras rvs=> ?_) (by rw[hs,hs2]) (by rw[hs2];rfl)))
 obtain⟨i,j,k,e,⟨q1,q2,q3⟩,q⟩:=q1
 subst e
 obtain⟨v,as1,rfl,rv,ras1⟩:=ras
 obtain⟨w,z,rfl,rw',rz⟩:=reps2 ras1
 cases (show v= .int i from rv);cases (show w= .int j from rw');cases (show z= .int k from rz)
 cases rvs with
 | cons ru rvs=>
  obtain⟨u',u'',rfl,ru',ru''⟩:=Vals.two rvs
  obtain⟨t,rfl⟩:=ru
  obtain⟨t',rfl⟩:=ru'
  obtain⟨t'',rfl⟩:=ru''
  refine call_range_3 q1 (thn (ranges_it (tg:=tg) (R:=fun J H'=>J=Its i k (Builtin.Range.rangeSize i j k).toNat/\H'=H1) I1 q3 ⟨rfl,rfl⟩) fun itv s2 z=> ?_) (Or.inl (PyProof.noPylong_small q2))
  obtain⟨it,fp,tn,J,H',ei,I2,T0,st,fk,eJ,eH⟩:=z
  subst eJ;subst eH
  exact⟨it,fp,tn,_,rngS i k (Builtin.Range.rangeSize i j k).toNat,fun _=>True,G1,H',ei,e1,⟨σ,I2,hs1,hg1⟩,T0,st,fk,items_rngS i k _,q⟩
end L3
namespace L3
open PySem PySem.Spec PyProof.Rows L2
def Off (cs:List Addr) (g g':Heap):Prop:=∀c,c∉cs->∀o,g.get? c=some o->g'.get? c=some o
theorem Off.then {cs:List Addr} {g g' g'':Heap} (p:Off cs g g') (q:Off cs g' g''):Off cs g g'':=fun c n o e=>q c n o (p c n o e)
theorem Off.ext {cs:List Addr} {c:Addr} {g g':Heap} (h:Heap.ExtBut c g g') (m:c∈cs):Off cs g g':=fun b n o e=>h b o (fun q=>n (q▸m)) e
theorem Off.one {cs:List Addr} {c:Addr} {g g':Heap} (h:Heap.SameBut c g g') (m:c∈cs):Off cs g g':= .ext h.extBut m
theorem Off.new (cs:List Addr) (g:Heap) (o:Obj):Off cs g (g.push o):=fun _ _ _ e=>Heap.get?_push_of_some _ e
theorem Off.at {cs:List Addr} {g g':Heap} (p:Off cs g g') {c:Addr} {o:Obj} (n:c∉cs) (e:g.get? c=some o):g'.get? c=some o:=p c n o e
def kKp (cs:List Addr) (S:Heap->Prop):Prop:=∀g g',Off cs g g'->S g->S g'
def Draw (P:Program) (w:World) (A:Around) (i:Addr) (r:Option Value) (S S':Heap->Prop):Prop:=
 ∀(s:Shared) (Q E:Value->Shared->Prop),S s.heap->
  (∀x g,r=some x->S' g->Heap.SameBut i s.heap g->Q x {s with heap:=g})->
  (∀g e o,r=none->Heap.ExtBut i s.heap g->g.get? e=some o->o.cls= .type "StopIteration"->E (.ref e) {s with heap:=g})->
  wpAny (model P w) A (Builtin.SmallTypes.nextOf (.ref i)) Q E s
def OnTup (i t:Addr) (k:Nat) (xs:Array Value) (h:Heap):Prop:=h.IsTupleIter i t k/\h.IsTuple t xs
theorem OnTup.still {cs:List Addr} {i t:Addr} {k:Nat} {xs:Array Value} (hi:i∉cs) (ht:t∉cs):kKp cs (OnTup i t k xs):=
 fun _ _ p ⟨⟨o,e,c⟩,⟨q,e',c'⟩⟩=>⟨⟨o,p.at hi e,c⟩,⟨q,p.at ht e',c'⟩⟩
theorem jV6 {P:Program} {w:World} {A:Around} {i t:Addr} {k:Nat} {xs:Array Value} (hh:A.handled=none) (ne:t≠i):Draw P w A i xs[k]? (OnTup i t k xs) (OnTup i t (k+1) xs):=by
 rintro s Q E ⟨⟨o,ho,hc,hd⟩,q,hq,hqc,n,hn⟩ item stop
 have ty:s.TypeIs (.ref i) "tuple_iterator":=⟨o,ho,hc⟩
 refine wpAny_bind (wpAny_callSpecial?_slot (name:=Str.ofString "__next__") ty F.slot_tuple_iterator_next (wpAny_call_entry F.slot_tuple_iterator_next ty F.entry_tuple_iterator_next ?_ (F.args_tuple_iterator_next_1 _)))
 refine (show wpAny _ _ (field (.ref i) 0 >>= _) _ _ s from wpAny_bind (wpAny_field ho hd (x:= .ref t) rfl ?_))
 refine (show wpAny _ _ (if (Value.ref t == Value.none)=true then _ else field (.ref i) 1 >>= _) _ _ s from ?_)
 rw[if_neg (by exact lJl)]
 refine wpAny_bind (wpAny_field ho hd (x:= .int k 0) rfl (show wpAny _ _ (seqItems? (.ref t) >>= _) _ _ s from wpAny_bind (wpAny_seqItems hq hn ?_)))
 cases hx:xs[k]? with
 | some x=>
  simp only[hx,Int.toNat_natCast]
  have up:OnTup i t (k+1) xs (s.heap.update i (Obj.mapFields (·.setIfInBounds 1 (rawInt ((k:Int)+1))))):=by
   refine⟨⟨_,Heap.get?_update_self _ ho (Obj.isFreed_of_fields (Obj.data_mapFields hd _)),(Obj.cls_mapFields ..).trans hc,?_⟩,q,(Heap.SameBut.update ..).extBut t q ne hq,hqc,n,hn⟩
   rw[Obj.data_mapFields hd];simp[rawInt]
  exact wpAny_bind (wpAny_setField ho hd (by simp) (wpAny_pure ⟨x,rfl,wpAny_pure (item x _ hx up (Heap.SameBut.update ..))⟩))
 | none=>
  simp only[hx,Int.toNat_natCast]
  refine wpAny_bind (wpAny_rule (wpAny_bind (wpAny_setField ho hd (by simp) (show wpAny _ _ (newExc (.type "StopIteration") [] >>= _) _ _ _ from wpAny_bind ?_))))
  simp only[newExc,newTuple,raiseNew]
  refine wpAny_bind (wpAny_newObj_type (wpAny_bind (m:=firstArgMember _ _) (wpAny_of_eq (a:=Value.none) (by first | rfl | (simp only[firstArgMember];rfl)) (wpAny_newObj_type ?_ (by size_fits)))) (by size_fits))
  refine wpAny_bind (wpAny_handled ?_);rw[show A.in1.handled=none from hh]
  exact wpAny_bind (wpAny_pure (wpAny_throw (stop _ _ _ hx (((Heap.SameBut.update ..).extBut.push _).push _) (Heap.get?_push_size _ rfl) rfl)))
structure ZipAt (z TI TO i j:Addr):Prop where
 nd:[z,TI,TO,i,j].Nodup
theorem zip_draw {P:Program} {w:World} {A:Around} {z TI TO i j:Addr} {r1 r2:Option Value} {S S' U U':Heap->Prop} {a b:Value} {s:Shared} {Q E:Value->Shared->Prop}
  (D1:Draw P w A i r1 S S') (D2:Draw P w A j r2 U U') (nd:ZipAt z TI TO i j) (s1:kKp [z,TO,j] S) (s1':kKp [z,TO,j] S') (s2:kKp [z,TO,i] U) (s2':kKp [z,TO,i] U')
  (hz:IsZip s.heap z TI TO .none) (hTI:IsPair s.heap TI (.ref i) (.ref j)) (hTO:IsPair s.heap TO a b) (h1:S s.heap) (h2:U s.heap)
  (item:∀x y g,r1=some x->r2=some y->IsZip g z TI TO (rawInt s.heap.objs.size)->IsPair g TO x y->S' g->U' g->IsPair g s.heap.objs.size x y->Off [z,TO,i,j] s.heap g->Q (.ref s.heap.objs.size) {s with heap:=g})
  (stop:∀g e o,(r1=none\/r2=none)->Off [z,TO,i,j] s.heap g->g.get? e=some o->o.cls= .type "StopIteration"->E (.ref e) {s with heap:=g}):
  wpAny (model P w) A (Builtin.«zip.__next__» ⟨[.ref z],[]⟩) (fun f s'=>∃v,f= .done (.ret v)/\Q v s') E s:=by
 have ap:=nd.nd
 simp only[lJ8,lJi,lJu,or_false,not_or] at ap
 obtain⟨⟨zTI,zTO,zi,zj⟩,⟨TITO,TIi,TIj⟩,⟨TOi,TOj⟩,ij,_⟩:=ap
 refine (show wpAny _ _ (field (.ref z) 2 >>= _) _ _ _ from wpAny_bind (wpAny_field hz rfl (x:= .bool false) rfl (show wpAny _ _ (field (.ref z) 3 >>= _) _ _ _ from wpAny_bind (wpAny_field hz rfl (x:= .ref TI) rfl (wpAny_bind (wpAny_seqItems hTI rfl ?_))))))
 refine (show wpAny _ _ (Builtin.SmallTypes.ownedTupleIsFree (.ref z) >>= _) _ _ _ from wpAny_bind ?_)
 unfold Builtin.SmallTypes.ownedTupleIsFree;refine wpAny_bind (wpAny_field hz rfl (x:= .none) rfl (wpAny_pure ?_))
 rw[if_pos rfl]
 refine wpAny_bind (wpAny_rule (wpAny_bind (wpAny_field hz rfl (x:= .ref TO) rfl (wpAny_bind (wpAny_setField_rec hz (by simp) fun g1 hz1 b1=>wpAny_bind ?_)))))
 replace hz1:IsZip g1 z TI TO .ellipsis:=hz1
 have o1:Off [z,TO,i,j] s.heap g1:= .one b1 (by simp)
 simp only[List.forIn_cons,List.forIn_nil,List.zipIdx_cons,List.zipIdx_nil]
 refine wpAny_bind (wpAny_bind (wpAny_onRaise (show wpAny _ _ (Builtin.SmallTypes.nextOf (.ref i) >>= _) _ _ _ from wpAny_bind (D1 _ _ _ (s1 _ _ (.one b1 (by simp)) h1) (fun x g2 ex S2 b2=>wpAny_pure ?_) fun g2 e o en b2 he hc=> ?_))))
 ·have o2:Off [z,TO,i,j] s.heap g2:=o1.then (.one b2 (by simp))
  have hz2:IsZip g2 z TI TO .ellipsis:=b2.extBut _ _ zi hz1
  have hp2:IsPair g2 TO a b:=b2.extBut _ _ TOi (b1.extBut _ _ (Ne.symm zTO) hTO)
  refine wpAny_bind (wpAny_seqItems hp2 rfl (wpAny_bind (wpAny_updateSeq_pair hp2 fun g3 hp3 b3=>wpAny_bind (wpAny_letGo (wpAny_pure ?_)))))
  replace hp3:IsPair g3 TO x b:=hp3
  have o3:Off [z,TO,i,j] s.heap g3:=o2.then (.one b3 (by simp))
  have hz3:IsZip g3 z TI TO .ellipsis:=b3.extBut _ _ zTO hz2
  have U3:U g3:=s2 _ _ (((Off.one b1 (by simp)).then (.one b2 (by simp))).then (.one b3 (by simp))) h2
  refine wpAny_bind (wpAny_bind (wpAny_onRaise (show wpAny _ _ (Builtin.SmallTypes.nextOf (.ref j) >>= _) _ _ _ from wpAny_bind (D2 _ _ _ U3 (fun y g4 ey U4 b4=>wpAny_pure ?_) fun g4 e o en b4 he hc=> ?_))))
  ·have hp4:IsPair g4 TO x b:=b4.extBut _ _ TOj hp3
   refine wpAny_bind (wpAny_seqItems hp4 rfl (wpAny_bind (wpAny_updateSeq_pair hp4 fun g5 hp5 b5=>wpAny_bind (wpAny_letGo (wpAny_pure (wpAny_pure ?_))))))
   replace hp5:IsPair g5 TO x y:=hp5
   have o5:Off [z,TO,i,j] s.heap g5:=(o3.then (.one b4 (by simp))).then (.one b5 (by simp))
   have hz5:IsZip g5 z TI TO .ellipsis:=b5.extBut _ _ zTO (b4.extBut _ _ zj hz3)
   have S5:S' g5:=s1' _ _ (((Off.one b3 (by simp)).then (.one b4 (by simp))).then (.one b5 (by simp))) S2
   have U5:U' g5:=s2' _ _ (.one b5 (by simp)) U4
   have n5:g5.objs.size=s.heap.objs.size:=by rw[b5.1,b4.1,b3.1,b2.1,b1.1]
   refine wpAny_bind (wpAny_seqItems hp5 rfl (wpAny_bind (wpAny_newTuple ?_)))
   refine (show wpAny _ _ (Builtin.SmallTypes.ownedTupleHandOut (.ref z) (.ref g5.objs.size) >>= _) _ _ _ from wpAny_bind ?_)
   unfold Builtin.SmallTypes.ownedTupleHandOut;refine wpAny_bind (wpAny_setField_rec (show IsZip (g5.push {cls:= .type "tuple",data:= .seq #[x,y]}) z TI TO .ellipsis from Heap.get?_push_of_some _ hz5) (by simp) fun g6 hz6 b6=> ?_)
   refine wpAny_setField_rec hz6 (by simp) fun g7 hz7 b7=>wpAny_pure ⟨_,rfl,?_⟩
   have o7:Off [z] g5 g7:=((Off.new _ _ _).then (.one b6 (by simp))).then (.one b7 (by simp))
   have zl:z<g5.objs.size:=Heap.lt_size hz5
   have new:IsPair g7 g5.objs.size x y:=b7.extBut _ _ (lKv zl) (b6.extBut _ _ (lKv zl) (Heap.get?_push_size _ rfl))
   replace hz7:IsZip g7 z TI TO (rawInt g5.objs.size):=hz7
   show Q (.ref g5.objs.size) _
   rw[n5] at hz7 new ⊢
   have w1:∀ {cs:List Addr},z∈cs->Off cs g5 g7:=fun m c n=>o7 c (by simp only[lJv];exact fun q=>n (q▸m))
   exact item x y g7 ex ey hz7 (o7.at (by simpa using Ne.symm zTO) hp5) (s1' _ _ (w1 (by simp)) S5) (s2' _ _ (w1 (by simp)) U5) new (o5.then (w1 (by simp)))
  ·have hz4:IsZip g4 z TI TO .ellipsis:=b4 _ _ zj hz3
   have ez:e≠z:=fun q=>by subst q;rw[hz4] at he;cases he;simp at hc
   exact wpAny_setField_rec hz4 (by simp) fun g5 _ b5=>stop g5 e o (.inr en) ((o3.then (.ext b4 (by simp))).then (.one b5 (by simp))) (b5.extBut _ _ ez he) hc
 ·have hz2:IsZip g2 z TI TO .ellipsis:=b2 _ _ zi hz1
  have ez:e≠z:=fun q=>by subst q;rw[hz2] at he;cases he;simp at hc
  exact wpAny_setField_rec hz2 (by simp) fun g3 _ b3=>stop g3 e o (.inl en) ((o1.then (.ext b2 (by simp))).then (.one b3 (by simp))) (b3.extBut _ _ ez he) hc
theorem zip_next {P:Program} {w:World} {A:Around} {z TI TO i j:Addr} {r1 r2:Option Value} {S S' U U':Heap->Prop} {a b:Value} {s:Shared} {Q:Option Value->Shared->Prop} {E:Value->Shared->Prop}
  (D1:Draw P w A.in1 i r1 S S') (D2:Draw P w A.in1 j r2 U U') (nd:ZipAt z TI TO i j) (s1:kKp [z,TO,j] S) (s1':kKp [z,TO,j] S') (s2:kKp [z,TO,i] U) (s2':kKp [z,TO,i] U')
  (hz:IsZip s.heap z TI TO .none) (hTI:IsPair s.heap TI (.ref i) (.ref j)) (hTO:IsPair s.heap TO a b) (h1:S s.heap) (h2:U s.heap)
  (item:∀x y g,r1=some x->r2=some y->IsZip g z TI TO (rawInt s.heap.objs.size)->IsPair g TO x y->S' g->U' g->IsPair g s.heap.objs.size x y->Off [z,TO,i,j] s.heap g->Q (some (.ref s.heap.objs.size)) {s with heap:=g})
  (stop:∀g,(r1=none\/r2=none)->Off [z,TO,i,j] s.heap g->Q none {s with heap:=g}):wpAny (model P w) A (pyNext (.ref z)) Q E s:=by
 have ty:s.TypeIs (.ref z) "zip":=⟨_,hz,rfl⟩
 refine wpAny_bind (wpAny_attempt (wpAny_callSpecial?_slot (name:=Str.ofString "__next__") ty F.slot_zip_next (wpAny_call_entry F.slot_zip_next ty F.entry_zip_next ?_ (F.args_zip_next_1 _))))
 refine zip_draw D1 D2 nd s1 s1' s2 s2' hz hTI hTO h1 h2 (fun x y g q1 q2 q3 q4 q5 q6 q7 q8=>wpAny_pure (item x y g q1 q2 q3 q4 q5 q6 q7 q8)) fun g e o en f he hc=> ?_
 exact wpAny_bind (wpAny_isInstance (T:="StopIteration") (b:=true) ⟨o,he,hc⟩ isSubtype_stop (wpAny_pure (stop g en f)))
noncomputable def itOf (t:Addr):Obj:={cls:= .type "tuple_iterator",data:= .fields #[.ref t,.int 0 0]}
noncomputable def jZk (xs:Array Value):Obj:={cls:= .type "tuple",data:= .seq xs}
noncomputable def zips (g:Heap) (t u:Addr):Heap:=
 let g2:=(g.push (itOf t)).push (itOf u)
 let g3:=g2.push (jZk #[.ref g.objs.size,.ref (g.push (itOf t)).objs.size])
 let g4:=g3.push (jZk #[.none,.none])
 g4.push {cls:= .type "zip",data:= .fields #[.none,.bool false,.bool false,.ref g2.objs.size,.ref g3.objs.size]}
theorem zip_new (t u:Addr) (xs ys:Array Value):
  Meets (Builtin.«zip.__new__» ⟨[.type "zip",.ref t,.ref u],[]⟩) fun _ R s=>s.heap.IsTuple t xs/\s.heap.IsTuple u ys/\R (.ok (.ret (.ref (((((s.heap.push (itOf t)).push (itOf u)).push (jZk #[.ref s.heap.objs.size,.ref (s.heap.push (itOf t)).objs.size])).push (jZk #[.none,.none])).objs.size)))) {s with heap:=zips s.heap t u}:=by
 refine .of_wp fun P w A R s ⟨ht,hu,h⟩=> ?_
 obtain⟨g,a1,a2,a3,a4⟩:=s
 have sb:=sub_zip
 have m1:Heap.IsTuple (Shared.heap ⟨g,a1,a2,a3,a4⟩) t xs:=ht
 have m2:Heap.IsTuple (Shared.heap ⟨g.push {cls:= .type "tuple_iterator",data:= .fields #[.ref t,.int 0 0]},a1,a2,a3,a4⟩) u ys:=hu.push _
 wp_walk using wpAny_pyIter_tuple m1,wpAny_pyIter_tuple m2
 exact⟨_,rfl,h⟩
theorem zip_made {P:Program} {w:World} {A:Around} {s:Shared} {t u:Addr} {xs ys:Array Value} {Q E:Value->Shared->Prop} (ht:s.heap.IsTuple t xs) (hu:s.heap.IsTuple u ys)
  (h:∀g n,n=s.heap.objs.size->IsZip g (n+4) (n+2) (n+3) .none->IsPair g (n+2) (.ref n) (.ref (n+1))->IsPair g (n+3) .none .none->OnTup n t 0 xs g->OnTup (n+1) u 0 ys g->
   (∀c o,s.heap.get? c=some o->g.get? c=some o)->Q (.ref (n+4)) {s with heap:=g}):wpAny (model P w) A (call (.type "zip") [.ref t,.ref u]) Q E s:=by
 refine callType_new F.called_zip (by decide) (F.typeCall_zip_2 _ _) (F.newCall_zip_2 _ _) (fun obj=>F.args_object_init_3 obj _ _) F.entry_zip_new (zip_new t u xs ys) ⟨ht,hu,?_⟩
 have hn:∀(g:Heap) (o:Obj),(g.push o).objs.size=g.objs.size+1:=fun _ _=>Heap.size_push ..
 have up:∀ {g:Heap} {o q:Obj} {c:Addr},g.get? c=some q->(g.push o).get? c=some q:=fun e=>Heap.get?_push_of_some _ e
 have at':∀(g:Heap) (o:Obj),o.isFreed=false->(g.push o).get? g.objs.size=some o:=fun g o h=>Heap.get?_push_size _ h
 have kp:∀c o,s.heap.get? c=some o->(zips s.heap t u).get? c=some o:=fun c o e=>up (up (up (up (up e))))
 obtain⟨q,hq,hr⟩:=ht
 obtain⟨q',hq',hr'⟩:=hu
 have c0:(zips s.heap t u).get? s.heap.objs.size=some (itOf t):=up (up (up (up (at' _ _ rfl))))
 have c1:(zips s.heap t u).get? (s.heap.push (itOf t)).objs.size=some (itOf u):=up (up (up (at' _ _ rfl)))
 have c2:=up (g:=((s.heap.push (itOf t)).push (itOf u)).push (jZk #[.ref s.heap.objs.size,.ref (s.heap.push (itOf t)).objs.size])) (o:=jZk #[.none,.none]) (at' ((s.heap.push (itOf t)).push (itOf u)) (jZk #[.ref s.heap.objs.size,.ref (s.heap.push (itOf t)).objs.size]) rfl)
 have c2':(zips s.heap t u).get? ((s.heap.push (itOf t)).push (itOf u)).objs.size=some (jZk #[.ref s.heap.objs.size,.ref (s.heap.push (itOf t)).objs.size]):=up c2
 have c3:(zips s.heap t u).get? (((s.heap.push (itOf t)).push (itOf u)).push (jZk #[.ref s.heap.objs.size,.ref (s.heap.push (itOf t)).objs.size])).objs.size=some (jZk #[.none,.none]):=up (at' _ _ rfl)
 have c4:(zips s.heap t u).get? ((((s.heap.push (itOf t)).push (itOf u)).push (jZk #[.ref s.heap.objs.size,.ref (s.heap.push (itOf t)).objs.size])).push (jZk #[.none,.none])).objs.size=some {cls:= .type "zip",data:= .fields #[.none,.bool false,.bool false,.ref ((s.heap.push (itOf t)).push (itOf u)).objs.size,.ref (((s.heap.push (itOf t)).push (itOf u)).push (jZk #[.ref s.heap.objs.size,.ref (s.heap.push (itOf t)).objs.size])).objs.size]}:=at' _ _ rfl
 show _/\_
 simp only[hn] at c1 c2' c3 c4 ⊢
 exact⟨⟨_,c4,rfl⟩,h _ _ rfl c4 c2' c3 ⟨⟨_,c0,rfl,rfl⟩,q,kp _ _ hq,hr⟩ ⟨⟨_,c1,rfl,rfl⟩,q',kp _ _ hq',hr'⟩ kp⟩
end L3
namespace L3
open PySem PySem.Spec PyProof.Rows L2
noncomputable def Itz (K:PySem.W.Frag) (a1 a2:Addr):It:=
 ⟨fun i H=>∃xs ys x y,SqT K H a1 xs/\SqT K H a2 ys/\xs[i]? =some x/\ys[i]? =some y,
  fun i H v H'=>∃p x y,H p=none/\v= .ref p/\(∀xs,SqT K H a1 xs->xs[i]? =some x)/\(∀ys,SqT K H a2 ys->ys[i]? =some y)/\H'=upd H p (.tup [x,y]),
  fun i H=>∃xs ys,SqT K H a1 xs/\SqT K H a2 ys/\(xs.length<=i\/ys.length<=i)⟩
theorem zip_at {z TI TO i1 i2 a1 a2:Addr} (D:ZipApart z TI TO i1 i2 a1 a2):ZipAt z TI TO i1 i2:=
 ⟨by simp[D.TIz.symm,D.TOz.symm,D.i1z.symm,D.i2z.symm,D.TITO,D.TIi1,D.TIi2,D.TOi1,D.TOi2,D.i12]⟩
theorem kQ7 {z TI TO i1 i2 a1 a2:Addr} {k:Nat} {xs:Array Value} (D:ZipApart z TI TO i1 i2 a1 a2):kKp [z,TO,i2] (OnTup i1 a1 k xs):=
 OnTup.still (by simp[D.i1z,D.TOi1.symm,D.i12]) (by simp[D.l1z,D.l1TO,D.l1i2])
theorem kQ6 {z TI TO i1 i2 a1 a2:Addr} {k:Nat} {xs:Array Value} (D:ZipApart z TI TO i1 i2 a1 a2):kKp [z,TO,i1] (OnTup i2 a2 k xs):=
 OnTup.still (by simp[D.i2z,D.TOi2.symm,D.i12.symm]) (by simp[D.l2z,D.l2TO,D.l2i1])
theorem turn_zip {P:Program} {w:World} {K:PySem.W.Frag} {elts:List Expr} {k:Nat} {pos:Pos} (z TI TO i1 i2 a1 a2:Addr) (D:ZipApart z TI TO i1 i2 a1 a2):
  Turn P w K (.Tuple elts k pos) (Itz K a1 a2) [z,TI,TO,i1,i2] z (fun i h=>IsZip h z TI TO .none/\IsPair h TI (.ref i1) (.ref i2)/\(∃a b,IsPair h TO a b)/\h.IsTupleIter i1 a1 i/\h.IsTupleIter i2 a2 i) where
 mem:=by simp
 obj:=fun i h ⟨hz,hTI,⟨a,b,hTO⟩,h1,h2⟩ c hc=>by
  simp only[lJi,lJu,or_false] at hc
  rcases hc with rfl | rfl | rfl | rfl | rfl
  ·exact⟨_,hz,fun v z=>nomatch (show Data.fields _=Data.cell v from z)⟩
  ·exact⟨_,hTI,fun v z=>nomatch (show Data.seq _ _=Data.cell v from z)⟩
  ·exact⟨_,hTO,fun v z=>nomatch (show Data.seq _ _=Data.cell v from z)⟩
  ·obtain⟨o,e,c,d⟩:=h1;exact⟨o,e,fun v z=>by rw[d] at z;cases z⟩
  ·obtain⟨o,e,c,d⟩:=h2;exact⟨o,e,fun v z=>by rw[d] at z;cases z⟩
 keep:=fun i h h' ⟨hz,hTI,⟨a,b,hTO⟩,h1,h2⟩ kp=>⟨kp z (by simp) _ hz,kp TI (by simp) _ hTI,⟨a,b,kp TO (by simp) _ hTO⟩,h1.at fun o q=>kp i1 (by simp) o q,h2.at fun o q=>kp i2 (by simp) o q⟩
 item:=by
  rintro X hP hw hK hc i pins s σ H E I hf ⟨hz,hTI,⟨a,b,hTO⟩,h1,h2⟩ hg
  subst hP hw hK
  obtain⟨xs,ys,x,y,hq1,hq2,hx,hy⟩:=hg
  obtain⟨its1,rv1,p1,hz1⟩:=I.tuple hq1
  obtain⟨its2,rv2,p2,hz2⟩:=I.tuple hq2
  obtain⟨u1,hu1,ru1⟩:=rv1.get hx
  obtain⟨u2,hu2,ru2⟩:=rv2.get hy
  refine zip_next (r1:=its1.toArray[i]?) (r2:=its2.toArray[i]?) (jV6 (I.ok.hd hc) D.l1i1) (jV6 (I.ok.hd hc) D.l2i2) (zip_at D) (kQ7 D) (kQ7 D) (kQ6 D) (kQ6 D) hz hTI hTO ⟨h1,p1⟩ ⟨h2,p2⟩ (fun x' y' g1 ex ey ho gTO g3 g4 hT hk=> ?_) (fun g en _=> ?_)
  rotate_left
  ·rcases en with e | e
   ·rw[show its1.toArray[i]? =some u1 by simpa using hu1] at e;cases e
   ·rw[show its2.toArray[i]? =some u2 by simpa using hu2] at e;cases e
  obtain rfl:u1=x':=by simpa[hu1] using ex
  obtain rfl:u2=y':=by simpa[hu2] using ey
  refine⟨_,rfl,wpAny_letOwnedTupleGo_zip ho fun g2 gz hs2=> ?_⟩
  have hzl:z<s.heap.objs.size:=Heap.lt_size hz
  have hp2:∀b o,b∉[z,TI,TO,i1,i2]->s.heap.get? b=some o->g2.get? b=some o:=fun b o hb q=>by
   simp only[lJi,lJu,or_false,not_or] at hb
   exact (hs2.2 b hb.1).trans (hk b (by simp only[lJi,lJu,or_false,not_or];exact⟨hb.1,hb.2.2.1,hb.2.2.2.1,hb.2.2.2.2⟩) o q)
  have hT2:g2.get? s.heap.objs.size=some {cls:= .type "tuple",data:= .seq #[u1,u2]}:=(hs2.2 _ (lKv hzl)).trans hT
  have I2:=kJz (t':=s.toks) (h':=g2) (p:=s.heap.objs.size) (vs:=[x,y]) (us:=[u1,u2]) I hp2 hf (lJd _) ⟨_,hT2,rfl,_,rfl,rfl⟩ (.cons ru1 (.cons ru2 .nil)) (by show 2<=sizeLine;decide)
  refine⟨.ref s.heap.objs.size,_,I2,rfl,⟨_,x,y,I.hok.fresh (lJd _),rfl,fun zs hz=>by rw[I.tuple_inj hz hq1];exact hx,fun zs hz=>by rw[I.tuple_inj hz hq2];exact hy,rfl⟩,
   ⟨gz,(hs2.2 _ D.TIz).trans (hk _ (by simp[D.TIz,D.TITO,D.TIi1,D.TIi2]) _ hTI),⟨_,_,(hs2.2 _ D.TOz).trans gTO⟩,g3.1.at fun o q=>(hs2.2 _ D.i1z).trans q,g4.1.at fun o q=>(hs2.2 _ D.i2z).trans q⟩,fun b hb=> ?_⟩
  have hbs:∃o,s.heap.get? b=some o:=by
   have hbq:=hb
   simp only[lJi,lJu,or_false] at hbq
   rcases hbq with rfl | rfl | rfl | rfl | rfl
   ·exact⟨_,hz⟩
   ·exact⟨_,hTI⟩
   ·exact⟨_,hTO⟩
   ·obtain⟨o,q,_⟩:=h1;exact⟨o,q⟩
   ·obtain⟨o,q,_⟩:=h2;exact⟨o,q⟩
  obtain⟨o,q⟩:=hbs
  rw[jKx (lJo (Heap.lt_size q))]
  exact (hf b hb).1
 done:=by
  rintro X hP hw hK hc i pins s σ H E I hf ⟨hz,hTI,⟨a,b,hTO⟩,h1,h2⟩ hg
  subst hP hw hK
  obtain⟨xs,ys,hq1,hq2,hx⟩:=hg
  obtain⟨its1,rv1,p1,hz1⟩:=I.tuple hq1
  obtain⟨its2,rv2,p2,hz2⟩:=I.tuple hq2
  have hl1:=rv1.length
  have hl2:=rv2.length
  refine zip_next (r1:=its1.toArray[i]?) (r2:=its2.toArray[i]?) (jV6 (I.ok.hd hc) D.l1i1) (jV6 (I.ok.hd hc) D.l2i2) (zip_at D) (kQ7 D) (kQ7 D) (kQ6 D) (kQ6 D) hz hTI hTO ⟨h1,p1⟩ ⟨h2,p2⟩ (fun x' y' g1 ex ey _ _ _ _ _ _=> ?_) (fun g1 _ hk=>⟨rfl,turnedL (t':=s.toks) (fp:=[z,TI,TO,i1,i2]) I (fun b o hb q=> ?_) hf⟩)
  ·have q1:i<its1.length:=by simpa using (lQ2.mp ex).1
   have q2:i<its2.length:=by simpa using (lQ2.mp ey).1
   omega
  ·exact hk b (fun m=>hb (by simp only[lJi,lJu,or_false] at m ⊢; rcases m with h | h | h | h<;>simp[h])) o q
 self:=fun _ _ _ _ _ ⟨hz,_⟩ h=>wpAny_pyIter_zip hz h
theorem zapart {n a b:Nat} (ha:a<n) (hb:b<n):ZipApart (n+4) (n+2) (n+3) n (n+1) a b:=by
 constructor<;>(show @Ne Nat _ _;omega)
noncomputable def zipT (xs ys:List T):List T:=(xs.zip ys).map fun p=>T.tup [p.1,p.2]
noncomputable def iZip (ta:TA3):TI3:=fun τ G R=>ta τ G fun vs G1=>∃xs ys,vs=[.tup xs,.tup ys]/\R (zipT xs ys) (fun _=>True) G1
theorem i_zip {X:Cx} {elts:List Expr} {k:Nat} {tpos pos p:Pos} {a b:Expr} {ta:TA3} (hg:Gl X "zip") (hm:X.mg "zip"=none) (hv:bootBuiltins "zip"=some (.type "zip")) (ha:PA3 X [a,b] ta) (hs:starEach [a,b] X.env=[(false,eval a X.env),(false,eval b X.env)]:=by rfl) (hs2:starEach [b] X.env=[(false,eval b X.env)]:=by rfl):
  PI3 X (.Tuple elts k tpos) (.Call (.Name "zip" p) [a,b] [] pos) (iZip ta):=by
 intro pins s τ G H R I h
 obtain⟨σ0,I0,hs0,hg0⟩:=id I
 refine Call_ (jV2 I0 hg hm hv (PyProof.Rows.callWith_type1 (thn (ha pos pins s τ G H _ I h) fun us s1 w_=>w_.el fun xs' G1 H1 e1 i_ r_ q1=>i_.el fun σ I1 hs1 hg1=>r_.el fun as ras rvs=> ?_) (by rw[hs,hs2]) (by rw[hs2];rfl)))
 obtain⟨xs,ys,e,q⟩:=q1
 subst e
 obtain⟨v,w,rfl,rv,rw'⟩:=reps2 ras
 obtain⟨u,u',rfl,ru,ru'⟩:=rvs.two
 obtain⟨pa,vs,rfl,hq1,r1⟩:=(show ∃p vs,v= .ref p/\H1 p=some (.tup vs)/\Reps X.K H1 xs vs from rv)
 obtain⟨pb,ws,rfl,hq2,r2⟩:=(show ∃p vs,w= .ref p/\H1 p=some (.tup vs)/\Reps X.K H1 ys vs from rw')
 cases ru;cases ru'
 obtain⟨its1,rv1,p1,hz1⟩:=I1.tuple (.of hq1)
 obtain⟨its2,rv2,p2,hz2⟩:=I1.tuple (.of hq2)
 have hal:pa<s1.heap.objs.size:=by obtain⟨o,ho,_⟩:=p1;exact Heap.lt_size ho
 have hbl:pb<s1.heap.objs.size:=by obtain⟨o,ho,_⟩:=p2;exact Heap.lt_size ho
 refine zip_made (show s1.heap.IsTuple pa its1.toArray from p1) (show s1.heap.IsTuple pb its2.toArray from p2) fun h1 n hn hz hTI hTO hi1 hi2 hk=> ?_
 subst hn
 have I2:Inv X pins σ H1 {s1 with heap:=h1}:=I1.kept (t':=s1.toks) hk
 refine wpAny_pyIter_zip hz ?_
 have fr:∀c∈[s1.heap.objs.size+4,s1.heap.objs.size+2,s1.heap.objs.size+3,s1.heap.objs.size,s1.heap.objs.size+1],FpOk X pins H1 c:=fun c hc=>by
  simp only[lJi,lJu,or_false] at hc
  have hle:s1.heap.objs.size<=c:=by omega
  exact I1.fpOk hle (I1.hok.fresh hle)
 have D:ZipApart (s1.heap.objs.size+4) (s1.heap.objs.size+2) (s1.heap.objs.size+3) s1.heap.objs.size (s1.heap.objs.size+1) pa pb:=zapart hal hbl
 refine⟨s1.heap.objs.size+4,_,_,_,zipT xs ys,fun _=>True,G1,H1,rfl,e1,⟨σ,I2,hs1,hg1⟩,turn_zip _ _ _ _ _ pa pb D,⟨hz,hTI,⟨_,_,hTO⟩,hi1.1,hi2.1⟩,fr,?_,q⟩
 intro i H2 G2 e2 g2 _
 obtain⟨pa',vs',ea,ha',ra'⟩:=(show ∃p vs,V.ref pa= .ref p/\H2 p=some (.tup vs)/\Reps X.K H2 xs vs from Rep.mono e2 _ rv)
 obtain⟨pb',ws',eb,hbq,rb'⟩:=(show ∃p vs,V.ref pb= .ref p/\H2 p=some (.tup vs)/\Reps X.K H2 ys vs from Rep.mono e2 _ rw')
 cases ea;cases eb
 have hl1:=ra'.length
 have hl2:=rb'.length
 have hzl:(zipT xs ys).length=min xs.length ys.length:=by simp[zipT]
 refine⟨fun hi=> ?_,fun hi=>⟨vs',ws',.of ha',.of hbq,by omega⟩,fun hi y H' ⟨pp,x1,x2,hn,ey,hy1,hy2,eH⟩=> ?_⟩
 ·exact⟨vs',ws',vs'[i]'(by omega),ws'[i]'(by omega),.of ha',.of hbq,lJa _,lJa _⟩
 ·subst ey;subst eH
  obtain⟨t1,ht1,rt1⟩:=ra'.get' (hy1 vs' (.of ha'))
  obtain⟨t2,ht2,rt2⟩:=rb'.get' (hy2 ws' (.of hbq))
  have hzi:(zipT xs ys)[i]? =some (.tup [t1,t2]):=by
   unfold zipT
   rw[lJe,show (xs.zip ys)[i]? =some (t1,t2) from lQ1.mpr ⟨ht1,ht2⟩];rfl
  exact⟨.upd (.none hn),g2.tupNew hn,_,hzi,Rep.tupNew ⟨_,_,rfl,rt1,_,_,rfl,rt2,rfl⟩ hn⟩
end L3
namespace L3
open PySem
theorem atN {α:Type} {xs:List α} {n:Nat}:L2.atI xs (n:Int)=xs[n]? :=by
 unfold L2.atI L2.ixN
 by_cases h:n<xs.length
 ·simp[h]
 ·simp[h]
theorem at0 {α:Type} {x:α} {xs:List α}:L2.atI (x::xs) 0=some x:=(atN (n:=0)).trans rfl
theorem at1 {α:Type} {x y:α} {xs:List α}:L2.atI (x::y::xs) 1=some y:=(atN (n:=1)).trans rfl
theorem at2 {α:Type} {x y z:α} {xs:List α}:L2.atI (x::y::z::xs) 2=some z:=(atN (n:=2)).trans rfl
theorem atZ {α:Type} {xs:List α} {i:Int} (h:0<=i):L2.atI xs i=xs[i.toNat]? :=by
 obtain⟨n,rfl⟩:=lKf h
 simpa using atN
theorem at_last {α:Type} {xs:List α} {y:α}:L2.atI (xs++[y]) (-1)=some y:=by
 unfold L2.atI L2.ixN
 have:¬ (0:Int)<= -1:=by decide
 simp only[this,if_false]
 rw[if_pos (by simp;omega)]
 have e:(-1+((xs++[y]).length:Int)).toNat=xs.length:=by simp;omega
 rw[e];simp
theorem kKe {n k:Nat} (h:k<n):L2.ixN n (k:Int)=some k:=by simp[L2.ixN,h]
theorem ix0 {n:Nat}:L2.ixN (n+1) 0=some 0:=kKe (k:=0) (by omega)
theorem ix1 {n:Nat}:L2.ixN (n+2) 1=some 1:=kKe (k:=1) (by omega)
theorem ix2 {n:Nat}:L2.ixN (n+3) 2=some 2:=kKe (k:=2) (by omega)
theorem ix30:L2.ixN 3 0=some 0:=ix0
theorem ix31:L2.ixN 3 1=some 1:=ix1
theorem ix32:L2.ixN 3 2=some 2:=ix2
theorem addR_int {G:Gp} {i j:Int}:addR G (.int i) (.int j)=some (.val (.int (i+j))):=rfl
theorem mulR_int {G:Gp} {i j:Int}:mulR G (.int i) (.int j)=some (.val (.int (i*j))):=rfl
theorem mulC_int {i j:Int}:mulC (.int i) (.int j)=L2.CMul i j:=rfl
theorem mulC_ref {p:Addr} {j:Int}:mulC (.ref p) (.int j)=True:=rfl
theorem fin_val {t:T} {G:Gp} {Q:VK3}:fin3 (.val t) G Q=Q t G:=rfl
theorem fin_new {xs:List T} {G:Gp} {Q:VK3}:fin3 (.newL xs) G Q=∀p,G p=none->Q (.ref p) (gup G p (.lst xs)):=rfl
theorem ixR_tup {G:Gp} {xs:List T} {i:Int}:ixR G (.tup xs) (.int i)=L2.atI xs i:=rfl
theorem ixR_scr {G:Gp} {xs:List T} {i:Int}:ixR G (.scr xs) (.int i)=L2.atI xs i:=rfl
theorem jKk {G:Gp} {p:Addr} {xs:List T} {i:Int} (h:G p=some (.lst xs)):ixR G (.ref p) (.int i)=L2.atI xs i:=by simp only[ixR,seqT,h,asL]
theorem kJj {G:Gp} {p:Addr} {xs:List T} {k:Int} {j:Nat} {v:T} (h:G p=some (.lst xs)) (hj:L2.ixN xs.length k=some j):setR G (.ref p) (.int k) v=some (gup G p (.lst (xs.set j v))):=by simp only[setR,h,hj]
theorem seqT_tup {G:Gp} {xs:List T}:seqT G (.tup xs)=some xs:=rfl
theorem jJm {G:Gp} {p:Addr} {xs:List T} (h:G p=some (.lst xs)):seqT G (.ref p)=some xs:=by simp only[seqT,h,asL]
theorem setR_m {G:Gp} {p:Addr} {xs:List T} {k:Int} {v:T} (h:G p=some (.lst xs)):setR G (.ref p) (.int k) v=(L2.ixN xs.length k).map fun j=>gup G p (.lst (xs.set j v)):=by
 cases e:L2.ixN xs.length k with
 | none=>simp only[setR,h,e,Option.map_none]
 | some j=>simp only[setR,h,e,lJ9]
theorem setR_gup {G:Gp} {p:Addr} {xs:List T} {k:Int} {v:T}:setR (gup G p (.lst xs)) (.ref p) (.int k) v=(L2.ixN xs.length k).map fun j=>gup G p (.lst (xs.set j v)):=by
 rw[setR_m jJi];simp only[gup_gup]
theorem ixR_gup {G:Gp} {p:Addr} {xs:List T} {i:Int}:ixR (gup G p (.lst xs)) (.ref p) (.int i)=L2.atI xs i:=jKk jJi
theorem seqT_gup {G:Gp} {p:Addr} {xs:List T}:seqT (gup G p (.lst xs)) (.ref p)=some xs:=jJm jJi
end L3
namespace L3
open PySem
def ForAt (g:TG3) (tb:TS3) (D:Ends3) (τ:St3) (xs:List T) (stay:Gp->Prop) (G:Gp):Prop:=∃P:Nat->St3->Gp->Prop,P 0 τ G/\(∀i τ G,i<=xs.length->P i τ G->stay G)/\
 (∀i x τ G,xs[i]? =some x->P i τ G->g x τ G fun τ2 G2=>tb {D with nx:=P (i+1),ct:=P (i+1),bk:=D.nx} τ2 G2)/\∀ τ G,P xs.length τ G->D.nx τ G
theorem jJ5 {wi:TI3} {g:TG3} {tb:TS3} {D:Ends3} {τ:St3} {G:Gp}:tFor wi g tb D τ G=wi τ G fun xs stay G1=>ForAt g tb D τ xs stay G1:=rfl
def CompAt (mask:List Bool) (g:TG3) (tif:TT3) (te:TE3) (τ:St3) (xs:List T) (stay:Gp->Prop) (G:Gp) (Q:VK3):Prop:=tCompAt mask g tif te τ xs stay G Q
theorem tComp_at {mask:List Bool} {wi:TI3} {g:TG3} {tif:TT3} {te:TE3} {τ:St3} {G:Gp} {Q:VK3}:jQ5 mask wi g tif te τ G Q=wi τ G fun xs stay G1=>CompAt mask g tif te τ xs stay G1 Q:=rfl
end L3
namespace L3
open PySem
def Sub (G G':Gp):Prop:=∀c o,G c=some o->G' c=some o
theorem Sub.refl (G:Gp):Sub G G:=fun _ _ h=>h
theorem Sub.trans {G G1 G2:Gp} (h:Sub G G1) (h':Sub G1 G2):Sub G G2:=fun c o e=>h' c o (h c o e)
theorem Sub.new {p:Addr} {G:Gp} {o:GO} (hp:G p=none):Sub G (gup G p o):=fun c u e=>by rw[jJu];exact e;rintro rfl;rw[hp] at e;cases e
theorem Sub.over {p:Addr} {G G':Gp} {o:GO} (h:Sub G G') (hp:G p=none):Sub G (gup G' p o):=fun c u e=>by rw[jJu];exact h c u e;rintro rfl;rw[hp] at e;cases e
theorem Sub.none {G G':Gp} {p:Addr} (h:Sub G G') (hp:G' p=none):G p=none:=by
 cases e:G p with
 | none=>rfl
 | some o=>rw[h p o e] at hp;cases hp
theorem jUg {G:Gp} {a p:Addr} {o:GO} (h:gup G a o p=none):p≠a/\G p=none:=by
 by_cases e:p=a
 ·subst e;rw[jJi] at h;cases h
 ·rw[jJu e] at h;exact⟨e,h⟩
theorem jJh {G:Gp} {a p:Addr} {o:GO} (h:G a=some o) (hp:G p=none):a≠p:=by rintro rfl;rw[h] at hp;cases hp
end L3
namespace L3
open PySem
theorem jKm {α β:Type} {enc:α->β} {es:List α} {i:Nat} {x:β} (h:(es.map enc)[i]? =some x):∃e,es[i]? =some e/\x=enc e:=by
 rw[lJe] at h
 cases e1:es[i]? with
 | none=>rw[e1] at h;cases h
 | some e=>rw[e1] at h;exact⟨e,rfl,(lJr h).symm⟩
theorem kU3 {α:Type} {mask:List Bool} {g:TG3} {tif:TT3} {te:TE3} {τ:St3} {es:List α} {enc:α->T} {stay:Gp->Prop} {G:Gp} {Q:VK3} (f:α->Option T) (hz:es.length<=sizeLine) (hst:∀G',Sub G G'->stay G')
  (h:∀(i:Nat) e,es[i]? =some e->∀G' (K:T->Gp->Prop) (K0:Gp->Prop),Sub G G'->(∀y G4,f e=some y->Sub G' G4->K y G4)->(f e=none->∀G4,Sub G' G4->K0 G4)->g (enc e) (msk mask τ) G' fun τ2 G2=>tif τ2 G2 fun b G3=>if b=true then te τ2 G3 K else K0 G3)
  (hq:∀D G',G D=none->G' D=some (.lst (es.filterMap f))->Sub G G'->Q (.ref D) G'):CompAt mask g tif te τ (es.map enc) stay G Q:=by
 intro D hD
 refine⟨fun i acc G'=>acc=(es.take i).filterMap f/\G' D=some (.lst acc)/\Sub G G',⟨by simp,jJi,.new hD⟩,?_,?_,?_⟩
 ·rintro i acc G' hi ⟨ea,eg,hs⟩
  exact⟨hst G' hs,eg⟩
 ·rintro i x acc G' hx0 ⟨ea,eg,hs⟩
  obtain⟨e,hx,rfl⟩:=jKm hx0
  have hi:i<es.length:=(lJb.mp hx).1
  have tk:es.take (i+1)=es.take i++[e]:=by rw[lKz,hx];rfl
  have hlen:acc.length<sizeLine:=by
   have h1:acc.length<=(es.take i).length:=by rw[ea];exact List.length_filterMap_le _ _
   rw[lK9] at h1;omega
  refine h i e hx G' _ _ hs (fun y G4 hy h4=>⟨h4 D _ eg,hlen,?_,jJi,(hs.trans h4).over hD⟩) fun hn G4 h4=>⟨?_,h4 D _ eg,hs.trans h4⟩
  ·rw[tk,lQr,<-ea];simp[hy]
  ·rw[tk,lQr,<-ea];simp[hn]
 ·rintro acc G' ⟨ea,eg,hs⟩
  rw[lJc,lKt] at ea
  rw[ea] at eg
  exact hq D G' hD eg hs
theorem jKd {α:Type} {mask:List Bool} {g:TG3} {tif:TT3} {te:TE3} {τ:St3} {es:List α} {enc:α->T} {stay:Gp->Prop} {G:Gp} {Q:VK3} (f:α->T) (hz:es.length<=sizeLine) (hst:∀G',Sub G G'->stay G')
  (h:∀(i:Nat) e,es[i]? =some e->∀G' (K:T->Gp->Prop) (K0:Gp->Prop),Sub G G'->(∀G4,Sub G' G4->K (f e) G4)->g (enc e) (msk mask τ) G' fun τ2 G2=>tif τ2 G2 fun b G3=>if b=true then te τ2 G3 K else K0 G3)
  (hq:∀D G',G D=none->G' D=some (.lst (es.map f))->Sub G G'->Q (.ref D) G'):CompAt mask g tif te τ (es.map enc) stay G Q:=by
 refine kU3 (fun e=>some (f e)) hz hst (fun i e he G' K K0 hs hk _=>h i e he G' K K0 hs fun G4 h4=>hk _ G4 rfl h4) fun D G' hD h1 h2=>hq D G' hD ?_ h2
 rw[h1];congr 2;induction es with
 | nil=>rfl
 | cons a as ih=>simp
end L3
namespace L3
open PySem
theorem jK0 {G:Gp} {p:Addr} {xs:List T} (h:G p=some (.lst xs)):tyT G "list" (.ref p)=True:=by simp[tyT,h]
theorem tyT_gup {G:Gp} {p:Addr} {xs:List T}:tyT (gup G p (.lst xs)) "list" (.ref p)=True:=jK0 jJi
end L3
namespace L3
open PySem
theorem kQs {α:Type} {mask:List Bool} {g:TG3} {tif:TT3} {te:TE3} {τ:St3} {es:List α} {enc:α->T} {stay:Gp->Prop} {G:Gp} {Q:VK3} (f:α->List T) (hz:es.length<=sizeLine) (hst:∀G',Sub G G'->stay G')
  (h:∀(i:Nat) e,es[i]? =some e->∀G' (K:T->Gp->Prop) (K0:Gp->Prop),Sub G G'->(∀p G4,G' p=none->G4 p=some (.lst (f e))->Sub G' G4->K (.ref p) G4)->g (enc e) (msk mask τ) G' fun τ2 G2=>tif τ2 G2 fun b G3=>if b=true then te τ2 G3 K else K0 G3)
  (hq:∀D rs G',G D=none->G' D=some (.lst (rs.map T.ref))->Sub G G'->rs.length=es.length->(D::rs).Nodup->(∀(i:Nat) (r:Addr) (e:α),rs[i]? =some r->es[i]? =some e->G r=none/\G' r=some (.lst (f e)))->Q (.ref D) G'):CompAt mask g tif te τ (es.map enc) stay G Q:=by
 intro D hD
 refine⟨fun i acc G'=>∃rs:List Addr,acc=rs.map T.ref/\rs.length=i/\G' D=some (.lst acc)/\Sub G G'/\(D::rs).Nodup/\(∀(i:Nat) (r:Addr) (e:α),rs[i]? =some r->es[i]? =some e->G r=none/\G' r=some (.lst (f e))),⟨[],rfl,rfl,jJi,.new hD,by simp,by simp⟩,?_,?_,?_⟩
 ·rintro i acc G' hi ⟨rs,ea,hl,eg,hs,hn,hr⟩
  exact⟨hst G' hs,eg⟩
 ·rintro i x acc G' hx0 ⟨rs,ea,hl,eg,hs,hn,hr⟩
  obtain⟨e,hx,rfl⟩:=jKm hx0
  have hi:i<es.length:=(lJb.mp hx).1
  have hlen:acc.length<sizeLine:=by rw[ea,lJc];omega
  refine h i e hx G' _ _ hs fun p G4 hp h4 s4=>⟨s4 D _ eg,hlen,rs++[p],by simp[ea],by simp[hl],jJi,(hs.trans s4).over hD,?_,?_⟩
  ·have hDp:D≠p:=jJh eg hp
   have hpr:p∉rs:=by
    intro hm
    obtain⟨j,hj⟩:∃j:Nat,_:=lJm hm
    have hjl:j<rs.length:=(lJb.mp hj).1
    have:=(hr j p es[j] hj (lJa (by omega))).2
    rw[hp] at this;cases this
   rw[lJ8] at hn
   simp only[lJ8,lJ4,lJv,not_or,lQd,lJu,not_false_eq_true,lQj,and_true]
   exact⟨⟨hn.1,hDp⟩,hn.2,trivial,fun a ha b hb=>by subst hb;rintro rfl;exact hpr ha⟩
  ·intro j r e' hj he'
   have hjl:j<rs.length+1:=by have:=(lJb.mp hj).1;simpa using this
   by_cases hjr:j<rs.length
   ·rw[lKh hjr] at hj
    obtain⟨q1,q2⟩:=hr j r e' hj he'
    have:r≠D:=by rintro rfl;exact (lJ8.mp hn).1 (lJf hj)
    exact⟨q1,by rw[jJu this];exact s4 _ _ q2⟩
   ·have hj2:j=rs.length:=by omega
    subst hj2
    rw[lQa (lJd _)] at hj
    simp at hj
    subst hj
    rw[hl,hx] at he';cases he'
    exact⟨hs.none hp,by rw[jJu (jJh eg hp).symm];exact h4⟩
 ·rintro acc G' ⟨rs,ea,hl,eg,hs,hn,hr⟩
  rw[ea] at eg
  exact hq D rs G' hD eg hs (by simpa using hl) hn hr
end L3
namespace L3
open PySem PySem.Spec PyProof.Rows L2
section
variable {X:Cx}
end
end L3
namespace L3
open PySem PySem.Spec PyProof.Rows L2
theorem draws_tup {P:Program} {w:World} {A:Around} (hh:A.handled=none) (it t:Addr) (ne:t≠it) (xs:Array Value):Draws P w A it [it,t] xs.size (fun i v=>xs[i]? =some v) (fun i h=>OnTup it t i xs h) where
 live:=fun _ _ ⟨⟨o,ho,_⟩,_⟩=>⟨o,ho⟩
 frame:=fun _ _ _ ⟨⟨o,ho,r⟩,⟨q,hq,r'⟩⟩ k=>⟨⟨o,k it (by simp) o ho,r⟩,⟨q,k t (by simp) q hq,r'⟩⟩
 item:=fun i s Q E hi st hQ=>jV6 hh ne s Q E st (fun x g e s' b=>hQ x g s.toks e s' b) fun _ _ _ e=>by rw[lK0 hi] at e;cases e
 done:=fun s Q E st hE=>jV6 hh ne s Q E st (fun x _ e=>by rw[lQe (lJd _)] at e;cases e) fun g e o _ b he hc=>hE g e b ⟨o,he,hc⟩
noncomputable def enumOf (i:Addr):Obj:={cls:= .type "enumerate",data:= .fields #[.none,.bool false,.ref i,rawInt 0,.none,.none]}
theorem enum_new (t:Addr) (xs:Array Value):
  Meets (Builtin.«enumerate.__new__» ⟨[.type "enumerate",.ref t],[]⟩) fun _ R s=>s.heap.IsTuple t xs/\R (.ok (.ret (.ref (s.heap.push (itOf t)).objs.size))) {s with heap:=(s.heap.push (itOf t)).push (enumOf s.heap.objs.size)}:=by
 refine .of_wp fun P w A R s ⟨ht,h⟩=> ?_
 obtain⟨g,a1,a2,a3,a4⟩:=s
 have sb:=sub_enumerate
 have m1:Heap.IsTuple (Shared.heap ⟨g,a1,a2,a3,a4⟩) t xs:=ht
 obtain⟨⟨c,dct,dt,sl⟩,hl,hc,n,hd⟩:=id ht
 replace hc:c= .type "tuple":=hc
 replace hd:dt= .seq xs n:=hd
 subst hc hd
 wp_walk using AutoSeq1.wpAny_loadPart' hl
 refine wpAny_stack_any (fun stk=>wpAny_pure ?_)
 split
 ·rename_i k _ _ _ _ _
  cases (k == Value.type "enumerate")<;>(wp_walk using AutoSeq1.wpAny_loadPart' hl,wpAny_pyIter_tuple m1;exact⟨_,rfl,h⟩)
 ·wp_walk using AutoSeq1.wpAny_loadPart' hl,wpAny_pyIter_tuple m1;exact⟨_,rfl,h⟩
theorem enum_made {P:Program} {w:World} {A:Around} {s:Shared} {t:Addr} {xs:Array Value} {Q E:Value->Shared->Prop} (ht:s.heap.IsTuple t xs)
  (h:∀g n,n=s.heap.objs.size->IsEnum g (n+1) n 0 .none->OnTup n t 0 xs g->(∀c o,s.heap.get? c=some o->g.get? c=some o)->Q (.ref (n+1)) {s with heap:=g}):wpAny (model P w) A (call (.type "enumerate") [.ref t]) Q E s:=by
 refine callType_new F.called_enumerate (by decide) (F.typeCall_enumerate_1 _) (F.newCall_enumerate_1 _) (fun obj=>F.args_object_init_2 obj _) F.entry_enumerate_new (enum_new t xs) ⟨ht,?_⟩
 have hn:∀(g:Heap) (o:Obj),(g.push o).objs.size=g.objs.size+1:=fun _ _=>Heap.size_push ..
 have up:∀ {g:Heap} {o q:Obj} {c:Addr},g.get? c=some q->(g.push o).get? c=some q:=fun e=>Heap.get?_push_of_some _ e
 obtain⟨q,hq,hr⟩:=ht
 have c0:((s.heap.push (itOf t)).push (enumOf s.heap.objs.size)).get? s.heap.objs.size=some (itOf t):=up (Heap.get?_push_size _ rfl)
 have c1:((s.heap.push (itOf t)).push (enumOf s.heap.objs.size)).get? (s.heap.push (itOf t)).objs.size=some (enumOf s.heap.objs.size):=Heap.get?_push_size _ rfl
 show _/\_
 simp only[hn] at c1 ⊢
 exact⟨⟨_,c1,rfl⟩,h _ _ rfl c1 ⟨⟨_,c0,rfl,rfl⟩,q,up (up hq),hr⟩ fun c o e=>up (up e)⟩
theorem jV5 {P:Program} {w:World} {A:Around} {s:Shared} {e it t:Addr} {i:Int} {k:Nat} {old:Value} {xs:Array Value} {Q:Option Value->Shared->Prop} {E:Value->Shared->Prop} (hh:A.handled=none) (ne:t≠it) (he:IsEnum s.heap e it i old) (st:OnTup it t k xs s.heap) (hk:xs.size<=k)
  (hQ:∀g,Heap.ExtBut it s.heap g->Q none {s with heap:=g}):wpAny (model P w) A (pyNext (.ref e)) Q E s:=by
 have ty:s.TypeIs (.ref e) "enumerate":=⟨_,he,rfl⟩
 refine wpAny_bind (wpAny_attempt (wpAny_callSpecial?_slot (name:=Str.ofString "__next__") ty F.slot_enumerate_next (wpAny_call_entry F.slot_enumerate_next ty F.entry_enumerate_next ?_ (F.args_enumerate_next_1 _))))
 refine (show wpAny _ _ (field (.ref e) 2 >>= _) _ _ _ from wpAny_bind (wpAny_field he rfl (x:= .ref it) rfl (wpAny_bind ?_)))
 refine jV6 (A:=A.in1) hh ne s _ _ st (fun x _ e=>by rw[lQe hk] at e;cases e) fun g x o _ b hx hc=> ?_
 exact wpAny_bind (wpAny_isInstance (T:="StopIteration") (b:=true) ⟨o,hx,hc⟩ isSubtype_stop (wpAny_pure (hQ g b)))
noncomputable def Itn (K:PySem.W.Frag) (a:Addr):It:=
 ⟨fun i H=>∃xs x,SqT K H a xs/\xs[i]? =some x,fun i H x H'=>∃p y,H p=none/\x= .ref p/\(∀xs,SqT K H a xs->xs[i]? =some y)/\H'=upd H p (.tup [.int i,y]),fun i H=>∃xs,SqT K H a xs/\xs.length<=i⟩
theorem enum_off {h:Heap} {a e it:Addr} {i:Int} {old:Value} {k:Nat} {xs:Array Value} (he:IsEnum h e it i old) (hi:h.IsTupleIter it a k) (ht:h.IsTuple a xs):a≠it/\e∉[it,a]:=by
 obtain⟨o,ho,hc,_⟩:=hi
 obtain⟨q,hq,hqc,_⟩:=ht
 refine⟨fun z=> ?_,fun m=> ?_⟩
 ·subst z;rw[ho] at hq;cases hq;rw[hc] at hqc;simp at hqc
 ·simp only[lJi,lJu,or_false] at m
  rcases m with rfl | rfl
  ·rw[he] at ho;cases ho;simp at hc
  ·rw[he] at hq;cases hq;simp at hqc
theorem turn_enumT {P:Program} {w:World} {K:PySem.W.Frag} {elts:List Expr} {k:Nat} {pos:Pos} (a e it:Addr) (hei:e≠it):
  Turn P w K (.Tuple elts k pos) (Itn K a) [e,it] e (fun i h=>(∃old,IsEnum h e it i old)/\h.IsTupleIter it a i) where
 mem:=lJq ..
 obj:=fun i h ⟨⟨old,h1⟩,h2⟩ b hb=>by
  simp only[lJu,lJi,or_false] at hb
  rcases hb with rfl | rfl
  ·exact⟨_,h1,fun v z=>nomatch (show Data.fields _=Data.cell v from z)⟩
  ·obtain⟨o,e2,c,d⟩:=h2
   exact⟨o,e2,fun v z=>by rw[d] at z;cases z⟩
 keep:=fun i h h' ⟨⟨old,h1⟩,h2⟩ kp=>⟨⟨old,kp e (by simp) _ h1⟩,h2.at fun o q=>kp it (by simp) o q⟩
 item:=by
  rintro X hP hw hK hc i pins s σ H E I hf ⟨⟨old,he⟩,hit⟩ ⟨xs,x,hq,hx⟩
  subst hP hw hK
  obtain⟨its,rv,p,hz⟩:=I.tuple hq
  obtain⟨u,hu,ru⟩:=rv.get hx
  have p':s.heap.IsTuple a its.toArray:=p
  obtain⟨nei,hef⟩:=enum_off he hit p'
  have hlt:i<its.toArray.size:=by simpa using (lJb.mp hu).1
  refine wpAny_pyNext_enum_itemD (draws_tup (A:=X.A.in1) (I.ok.hd hc) it a nei its.toArray) he ⟨hit,p'⟩ hlt hei hef fun x' h1 tk hx' ho hit1 hT hsz hk=> ?_
  obtain rfl:u=x':=by simpa[hu] using hx'
  refine⟨_,rfl,wpAny_letOwnedTupleGo_enum ho fun h2 he2 hs2=> ?_⟩
  have hel:e<s.heap.objs.size:=Heap.lt_size he
  have hp2:∀b o,b∉[e,it]->s.heap.get? b=some o->h2.get? b=some o:=fun b o hb q=>by
   simp only[lJi,lJu,or_false,not_or] at hb
   exact (hs2.2 b hb.1).trans (hk b o hb.1 hb.2 q)
  have hT2:h2.get? s.heap.objs.size=some {cls:= .type "tuple",data:= .seq #[.int i tk,u]}:=(hs2.2 _ (lKv hel)).trans hT
  have I2:=kJz (t':=tk+1) (h':=h2) (p:=s.heap.objs.size) (vs:=[.int i,x]) (us:=[.int i tk,u]) I hp2 hf (lJd _) ⟨_,hT2,rfl,_,rfl,rfl⟩ (.cons ⟨_,rfl⟩ (.cons ru .nil)) (by show 2<=sizeLine;decide)
  refine⟨.ref s.heap.objs.size,_,I2,rfl,⟨_,x,I.hok.fresh (lJd _),rfl,fun ys hy=>by rw[I.tuple_inj hy hq];exact hx,rfl⟩,⟨⟨u,by simpa using he2⟩,hit1.1.at fun o q=>(hs2.2 it hei.symm).trans q⟩,fun b hb=> ?_⟩
  have hbs:∃o,s.heap.get? b=some o:=by
   have hb':=hb
   simp only[lJu,lJi,or_false] at hb'
   rcases hb' with rfl | rfl
   ·exact⟨_,he⟩
   ·obtain⟨o,q,_⟩:=hit;exact⟨o,q⟩
  obtain⟨o,q⟩:=hbs
  rw[jKx (lJo (Heap.lt_size q))]
  exact (hf b hb).1
 done:=by
  rintro X hP hw hK hc i pins s σ H E I hf ⟨⟨old,he⟩,hit⟩ ⟨xs,hq,hx⟩
  subst hP hw hK
  obtain⟨its,rv,p,hz⟩:=I.tuple hq
  have p':s.heap.IsTuple a its.toArray:=p
  obtain⟨nei,hef⟩:=enum_off he hit p'
  have hl:=rv.length
  refine jV5 (I.ok.hd hc) nei he ⟨hit,p'⟩ (by simp;omega) fun h1 hx1=>⟨rfl,turnedL (t':=s.toks) I (fun b o hb q=>hx1 b o (fun z=>hb (by simp[z])) q) hf⟩
 self:=fun _ _ _ _ _ ⟨⟨old,he⟩,_⟩ h=>wpAny_pyIter_enum he h
noncomputable def iEnT (ta:TA3):TI3:=fun τ G R=>ta τ G fun vs G1=>∃xs,vs=[.tup xs]/\R (numT xs) (fun _=>True) G1
theorem i_enT {X:Cx} {elts:List Expr} {k:Nat} {tpos pos p:Pos} {a:Expr} {ta:TA3} (hg:Gl X "enumerate") (hm:X.mg "enumerate"=none) (hv:bootBuiltins "enumerate"=some (.type "enumerate")) (ha:PA3 X [a] ta) (hs:starEach [a] X.env=[(false,eval a X.env)]:=by rfl):
  PI3 X (.Tuple elts k tpos) (.Call (.Name "enumerate" p) [a] [] pos) (iEnT ta):=by
 intro pins s τ G H R I h
 obtain⟨σ0,I0,_,_⟩:=id I
 refine Call_ (jV2 I0 hg hm hv (PyProof.Rows.callWith_type1 (thn (ha pos pins s τ G H _ I h) fun us s1 w_=>w_.el fun xs' G1 H1 e1 i_ r_ q1=>i_.el fun σ I1 hs1 hg1=>r_.el fun as ras rvs=> ?_) hs rfl))
 obtain⟨xs,e,q⟩:=q1
 subst e
 obtain⟨v,rfl,rv⟩:=jXl ras
 obtain⟨u,rfl,ru⟩:=rvs.one
 obtain⟨pa,vs,rfl,hq,r⟩:=(show ∃p vs,v= .ref p/\H1 p=some (.tup vs)/\Reps X.K H1 xs vs from rv)
 cases ru
 obtain⟨its,rvv,pl,hz⟩:=I1.tuple (.of hq)
 refine enum_made (show s1.heap.IsTuple pa its.toArray from pl) fun h1 n hn he hit hk=> ?_
 subst hn
 have I2:Inv X pins σ H1 {s1 with heap:=h1}:=I1.kept (t':=s1.toks) hk
 refine wpAny_pyIter_enum (Q:=PIE3 X pins τ H (.Tuple elts k tpos) R) he ?_
 have fr:∀b∈[s1.heap.objs.size+1,s1.heap.objs.size],FpOk X pins H1 b:=fun b hb=>by
  simp only[lJu,lJi,or_false] at hb
  have hle:s1.heap.objs.size<=b:=by omega
  exact I1.fpOk hle (I1.hok.fresh hle)
 refine⟨s1.heap.objs.size+1,[s1.heap.objs.size+1,s1.heap.objs.size],_,_,numT xs,fun _=>True,G1,H1,rfl,e1,⟨σ,I2,hs1,hg1⟩,turn_enumT pa _ _ (Nat.succ_ne_self _),⟨⟨.none,he⟩,hit.1⟩,fr,?_,q⟩
 intro i H2 G2 e2 g2 _
 obtain⟨pb,ws,eb,h1',h2⟩:=(show ∃p vs,V.ref pa= .ref p/\H2 p=some (.tup vs)/\Reps X.K H2 xs vs from Rep.mono e2 _ rv)
 cases eb
 have hlen:=h2.length
 refine⟨fun hi=> ?_,fun hi=>⟨ws,.of h1',by rw[jKj] at hi;omega⟩,fun hi y H' ⟨pp,z,hn,ey,hy,eH⟩=> ?_⟩
 ·rw[jKj] at hi
  exact⟨ws,ws[i]'(by omega),.of h1',by simp[hlen▸hi]⟩
 ·subst ey;subst eH
  obtain⟨t,ht,rt⟩:=h2.get' (hy ws (.of h1'))
  exact⟨.upd (.none hn),g2.tupNew hn,_,jYb ht,Rep.tupNew ⟨_,_,rfl,rfl,_,_,rfl,rt,rfl⟩ hn⟩
end L3
namespace L3
open PySem PySem.Spec PyProof.Rows L2
section
variable {X:Cx}
theorem at_eqU {K:PySem.W.Frag} {H:Hp} {y:T} {b:V} (ry:Rep K H y b) (fy:jXj y=true):∀ {xs:List T} {vs:List V} {us:List Value},Reps K H xs vs->Vals vs us->xs.all jXj=true->∀(m:Nat) (x:T) (u:Value),xs[m]? =some x->us[m]? =some u->eqU b u=eqT x y
 | [],_,_,_,_,_=>fun m x u h=>by simp at h
 | x::xs,_,_,⟨v,ws,e,r1,r2⟩,q,f=>by
  subst e
  cases q with
  | cons q1 q2=>
   rw[lKw,lKe] at f
   intro m z u hz hu
   cases m with
   | zero=>cases hz;cases hu;rw[eqU_of q1 (jYd r1 f.1),flat_eq r1 ry f.1 fy]
   | succ m=>exact at_eqU ry fy r2 q2 f.2 m z u hz hu
noncomputable def kQh:T->List T->Gp->VK3->Prop:=fun x as G Q=>∃(p:Addr) (xs:List T) (y z:T) (j:Nat),x= .ref p/\as=[y]/\G p=some (.lst xs)/\jXj y=true/\xs.all jXj=true/\xs[j]? =some z/\eqT z y=true/\(∀(m:Nat) (t:T),m<j->xs[m]? =some t->eqT t y=false)/\Q (.int j) G
theorem m_index:Mt3 X "list.index" kQh:=by
 rintro pins s τ G H x as v us Q ⟨σ,I,hs,hg⟩ ⟨a,ra,rv⟩ ⟨bs,rbs,rus⟩ ⟨p,xs,y,z,j,ex,ea,hp,fy,fs,hj,hit,hno,q⟩
 subst ex;subst ea
 cases (show a= .ref p from ra);cases rv
 obtain⟨b,rfl,rb⟩:=jXl rbs
 obtain⟨u,rfl,ru⟩:=rus.one
 obtain⟨vs,h1,h2⟩:=hg.lst hp
 obtain⟨hz,its,n,r,hl,e⟩:=I.lstM h1
 have fl:=(kJq rb fy h2 fs).1
 have hlen:its.length=xs.length:=by have:=r.length;have:=h2.length;omega
 have hjl:j<xs.length:=(lJb.mp hj).1
 have hsl:=jZ1
 refine call_meets F.slot_list_index ⟨_,e,rfl⟩ F.entry_list_index (F.args_list_index_2 _ _) (SeqAt.list_indexAt p its.toArray n none #[] u (eqU b) j (by simp;omega) (by omega) ?_ ?_) ⟨e,fun w hw=>jZa ru (jYd rb fy) r fl w (by simpa using hw),?_⟩
 ·rw[at_eqU rb fy h2 r fs j z _ hj (by simp)];exact hit
 ·intro m hm hmj
  have hx:xs[m]? =some xs[m]:=lJa (by omega)
  rw[at_eqU rb fy h2 r fs m xs[m] _ hx (by simp)];exact hno m _ hmj hx
 ·exact⟨.int _,G,H,.refl H,⟨σ,I.tok _,hs,hg⟩,⟨.int _,rfl,s.toks,rfl⟩,q⟩
noncomputable def tDisp1 (tk tv:TE3):TE3:=fun τ G Q=>∀p,G p=none->tk τ (gup G p (.dck [])) fun x G1=>tv τ G1 fun y G2=>∃k,jV3 x=some k/\G2 p=some (.dck [])/\Q (.ref p) (gup G2 p (.dck [(k,y)]))
theorem e_disp1 {pos:Pos} {k v:Expr} {tk tv:TE3} (hk:PE3 X k tk) (hv:PE3 X v tv):PE3 X (.Dict [some k] [v] pos) (tDisp1 tk tv):=by
 rintro pins s τ G H Q ⟨σ,I,hs,hg⟩ h
 have hn:=I.hok.fresh (lJd s.heap.objs.size)
 have I1:=I.laid (a:=s.heap.objs.size) (o:= .dK []) (h':=s.heap.push {cls:= .type "dict",data:= .dict #[]}) (t':=s.toks) (fun _ _ q=>Heap.get?_push_of_some _ q) (lJd _) (dk_empty s.heap I.big)
 have I3:Inv3 X pins τ (gup G s.heap.objs.size (.dck [])) (upd H s.heap.objs.size (.dK [])) {s with heap:=s.heap.push {cls:= .type "dict",data:= .dict #[]},toks:=s.toks}:=
  ⟨σ,I1,hs.mono (.upd (.none hn)),hg.upd (.none hn) (go:= .dck []) ⟨[],jUc,.nil⟩⟩
 refine wpAny_Dict_walk (knd:=jQg X.prog X.w) rfl rfl (by simp) (by simp) (pairTrees_cons_walk (thn (hk pins _ τ _ _ _ I3 (h _ (hg.fresh hn))) fun u s1 w_=>w_.el fun x G1 H1 e1 J1 ru q1=>thn (hv pins s1 τ G1 H1 _ J1 q1) fun u2 s2 w_=>w_.el fun y G2 H2 e2 i_ ru2 ⟨key,hkey,hd,q2⟩=>i_.el fun σ2 J2 hs2 hg2=>pairTrees_nil_walk ?_))
 obtain⟨ws,hH2,pk⟩:=(show ∃ws,H2 s.heap.objs.size=some (.dK ws)/\PKV X.K H2 [] ws from hg2 _ _ hd)
 cases pk
 obtain⟨a,ra,rva⟩:=ru.mono e2
 obtain⟨c,rc,rvc⟩:=ru2
 obtain rfl:=jZd hkey ra
 obtain⟨rs,cr,rk⟩:=kQw (P:=X.prog) (w:=X.w) (kvs:=[(key,c)]) (ws:=[(u,u2)]) (.cons ⟨rva,rvc⟩ .nil)
 obtain⟨z,hdd,vs0,r0,dd⟩:=dk_of J2.hok hH2
 cases r0
 refine⟨rs,cr,dd,fun h' dd' hsb=> ?_⟩
 have he:∃q,h'.get? s.heap.objs.size=some q:=let ⟨q,_,_,hq,_⟩:=dd';⟨q,hq⟩
 have JJ:=d_write (t':=s2.toks+[(u,u2)].length) J2 (by rw[hH2];exact True.intro) hsb he (dk_new (kvs:=[(key,c)]) (by rw[sizeLine_eq];exact Nat.succ_le_of_lt (Nat.succ_pos _)) hdd (rk.merge .nil) dd')
 have ext:Ext H2 (upd H2 s.heap.objs.size (.dK [(key,c)])):= .upd (.dK hH2)
 exact⟨.ref s.heap.objs.size,_,_,(((Ext.upd (.none hn)).trans e1).trans e2).trans ext,⟨σ2,JJ,hs2.mono ext,hg2.upd (.dK hH2) (go:= .dck [(key,y)]) ⟨_,jUc,PKV.put (kvs:=[]) .nil key (Rep.mono ext _ rc)⟩⟩,⟨.ref _,rfl,rfl⟩,q2⟩
end
end L3
namespace L3
open PySem PySem.Spec PyProof.Rows L2
section
variable {X:Cx}
theorem kV_of {P:Program} {w:World} {k:Key} {u:Value} (h:(jQg P w).is k u=true):RelV (kV k) u:=by
 cases k with
 | inl i=>exact Value.isInt_shape h
 | inr x=>
  have h':Value.isStrOf x u=true:=h
  cases u<;>simp[Value.isStrOf] at h'
  subst h';exact⟨_,rfl⟩
theorem vals_keys:∀(us:List Value) (ks:List Key),us.length=ks.length->(∀(j:Nat) (v:Value) (k:Key),us[j]? =some v->ks[j]? =some k->RelV (kV k) v)->Vals (ks.map kV) us
 | [],[],_,_=> .nil
 | u::us,k::ks,hl,h=> .cons (h 0 u k rfl rfl) (vals_keys us ks (by simpa using hl) fun j v k' h1 h2=>h (j+1) v k' h1 h2)
 | [],_::_,e,_=>by simp at e
 | _::_,[],e,_=>by simp at e
theorem kJ0 {K:PySem.W.Frag} {H:Hp}:∀ks:List Key,Reps K H (ks.map kT) (ks.map kV)
 | []=>rfl
 | .inl i::ks=>⟨_,_,rfl,rfl,kJ0 ks⟩
 | .inr x::ks=>⟨_,_,rfl,rfl,kJ0 ks⟩
theorem KV.keys {kvs:List (Key×V)} {vs:List (Key×Value)} (h:KV kvs vs):vs.map Prod.fst=kvs.map Prod.fst:=by
 unfold KV at h
 induction h with
 | nil=>rfl
 | cons h t ih=>rw[lJh,lJh,ih,h.1]
theorem PKV.keys {K:PySem.W.Frag} {H:Hp} {kvs:List (Key×T)} {ws:List (Key×V)} (h:PKV K H kvs ws):ws.map Prod.fst=kvs.map Prod.fst:=by
 unfold PKV at h
 induction h with
 | nil=>rfl
 | cons h t ih=>rw[lJh,lJh,ih,h.1]
noncomputable def rListD:List T->Gp->VK3->Prop:=fun xs G Q=>∃(p:Addr) (kvs:List (Key×T)),xs=[.ref p]/\G p=some (.dck kvs)/\∀q,G q=none->Q (.ref q) (gup G q (.lst (kvs.map fun kv=>kT kv.1)))
theorem c_listD (hc:X.calm=true):Call3 X (.type "list") rListD:=by
 rintro pins s τ G H xs us Q ⟨σ,I,hs,hg⟩ ⟨as,ras,rvs⟩ ⟨p,kvs,e,hp,q⟩
 subst e
 obtain⟨v,rfl,rv⟩:=jXl ras
 obtain⟨u,rfl,ru⟩:=rvs.one
 cases (show v= .ref p from rv);cases ru
 obtain⟨ws,h1,h2⟩:=(show ∃ws,H p=some (.dK ws)/\PKV X.K H kvs ws from hg p _ hp)
 obtain⟨z,hd,vs,kv,dd⟩:=dk_of I.hok h1
 obtain⟨ep,dat⟩:=dd.dictAt
 have hk:=KV.keys kv
 have hk2:ws.map Prod.fst=kvs.map Prod.fst:=PKV.keys h2
 have hlen:vs.length=ws.length:=by simpa using congrArg List.length hk
 refine PySem.W.kdl_call (PySem.W.kdl_dict (knd:=jQg X.prog X.w) (kvs:=vs) (ep:=ep) hd) (I.ok.hd hc) dat (by omega) fun h' tk acc c' kp hn it=> ?_
 have hv:Vals ((kvs.map Prod.fst).map kV) acc.toList:=vals_keys _ _ (by rw[<-hk2,<-hk];simpa using it.1) fun j v k h1 h2=>by
  obtain⟨k',x,e1,e2⟩:=it.2 j v (by simpa using h1)
  rw[<-hk2,<-hk,lJe,e1] at h2
  cases h2
  exact kV_of e2
 have fr:=I.hok.fresh (lJd s.heap.objs.size)
 have hkl:(kvs.map Prod.fst).length=ws.length:=by rw[<-hk2];simp
 have I3:=I.laid (a:=s.heap.objs.size) (o:= .lst ((kvs.map Prod.fst).map kV)) (h':=h') (t':=tk) kp (lJd _) ⟨by rw[lJc,hkl];exact z,acc.toList,c',hv,by simpa using hn⟩
 have ext:Ext H (upd H s.heap.objs.size (.lst ((kvs.map Prod.fst).map kV))):= .upd (.none fr)
 refine⟨.ref _,_,_,ext,⟨σ,I3,hs.mono ext,hg.lstNew (kJ0 _) (.none fr)⟩,⟨.ref _,rfl,rfl⟩,?_⟩
 have:=q _ (hg.fresh fr)
 rw[lJj]
 exact this
end
end L3
namespace L3
open PySem PySem.Spec PyProof.Rows L2
section
variable {P:Program} {w:World} {A:Around} {E:Value->Shared->Prop} {s:Shared} {d:Addr}
theorem jZ2 {o:Obj} {es:Array DictEntry} {ep:Nat} {Q:Value->Shared->Prop} (hd:(d == sysModules)=false) (ho:s.heap.get? d=some o) (hc:o.ExactDict) (hx:o.data= .dict es ep) (hz:es.size<=sizeLine)
  (h:Q (.int es.size (s.toks+1)) {s with toks:=s.toks+1+1}):wpAny (model P w) A (call (.builtin "len") [.ref d]) Q E s:=by
 have hsl:=sizeLine_eq
 have ty:s.TypeIs (.ref d) "dict":=⟨o,ho,hc.1⟩
 refine Calls.call_function_entry kind_len plain_len entry_len (args_len1 _) ?_;unfold Builtin.«len»; refine wpAny_bind (m:=oneArg "len" _) (wpAny_pure ?_)
 have M:MeetsIn P w (Builtin.«dict.__len__» ⟨[.ref d],[]⟩) (fun _ R z=>(∃o es ep,z.heap.get? d=some o/\o.data= .dict es ep/\R (.ok (.ret (.int es.size z.toks))) {z with toks:=z.toks+1})):=
  .of_wp fun A R z ⟨o,es,ep,ho,hx,h⟩=>by
   refine (show wpAny _ _ (dictSize d >>= _) _ _ z from ?_)
   unfold dictSize;refine wpAny_bind (wpAny_bind (wpAny_dictEntries ho hx (wpAny_pure ?_)))
   refine (show wpAny _ _ (Builtin.Dict.pendingCount d >>= _) _ _ z from wpAny_bind (wpAny_pendingCount_other hd (wpAny_ret_mkInt ?_)))
   rw[Nat.add_zero];exact h
 refine wpAny_bind (m:=callSpecial? (.ref d) (Str.ofString "__len__")) (wpAny_callSpecial?_slot (name:=Str.ofString "__len__") ty F.slot_dict_len (call_meetsIn F.slot_dict_len ty F.entry_dict_len (F.args_dict_len_1 _) M ⟨o,es,ep,ho,hx,?_⟩))
 refine (show wpAny _ _ _ _ _ {s with toks:=s.toks+1} from wpAny_bind (wpAny_holding (wpAny_pure (wpAny_bind (wpAny_letGo ?_)))))
 refine (show wpAny _ _ (if ((es.size:Nat):Int)<0 then _ else _) _ _ _ from ?_);rw[if_neg (by omega)]
 refine (show wpAny _ _ (if ((es.size:Nat):Int)>=2^63 then _ else _) _ _ _ from ?_);rw[if_neg (by omega)]
 exact (wpAny_bind (wpAny_mkInt (wpAny_pure ⟨_,rfl,h⟩)))
end
section
variable {X:Cx}
noncomputable def lenG (G:Gp):T->Option Nat
 | .ref p=>match G p with
  | some (.lst xs)=>some xs.length
  | some (.dct kvs)=>some kvs.length
  | some (.dck kvs)=>some kvs.length
  | some (.fdc _)=>none
  | some (.ins _ _)=>none
  | none=>none
 | .tup xs=>some xs.length
 | .scr xs=>some xs.length
 | _=>none
noncomputable def rLenD:List T->Gp->VK3->Prop:=fun xs G Q=>∃x n,xs=[x]/\lenG G x=some n/\Q (.int (n:Nat)) G
theorem c_lenD:Call3 X (.builtin "len") rLenD:=by
 rintro pins s τ G H xs us Q I rs ⟨x,n,ex,hx,q⟩
 by_cases hd:∃p,x= .ref p/\((∃kvs,G p=some (.dct kvs))\/∃kvs,G p=some (.dck kvs))
 ·subst ex
  obtain⟨p,rfl,hk⟩:=hd
  obtain⟨σ,I,hs,hg⟩:=I
  obtain⟨as,ras,rvs⟩:=rs
  obtain⟨v,rfl,rv⟩:=jXl ras
  obtain⟨u,rfl,ru⟩:=rvs.one
  cases (show v= .ref p from rv);cases ru
  rcases hk with ⟨kvs,hG⟩ | ⟨kvs,hG⟩
  ·simp only[lenG,hG] at hx;cases hx
   obtain⟨ws,h1,h2⟩:=hg p _ hG
   obtain⟨z,y,xs,r,o,es,ep,e1,e2,e3,e4,e5⟩:=(show ObjOk X.prog X.w H s.heap p (.dT ws) from I.hok p _ h1)
   have l1:es.size=kvs.length:=by
    have a1:=congrArg List.length e4
    have a2:=Paired.length r
    have a3:=h2.length
    simp at a1;omega
   refine jZ2 y e1 e2 e3 (by have:=h2.length;omega) ?_
   rw[l1]
   exact⟨.int (kvs.length:Nat),G,H,.refl H,⟨σ,I.tok _,hs,hg⟩,⟨.int _,rfl,_,rfl⟩,q⟩
  ·simp only[lenG,hG] at hx;cases hx
   obtain⟨ws,h1,h2⟩:=hg p _ hG
   obtain⟨z,y,vs,rel,o,es,ep,e1,e2,e3,e4,e5,e6⟩:=(show ObjOk X.prog X.w H s.heap p (.dK ws) from I.hok p _ h1)
   have l1:es.size=kvs.length:=by
    have a1:=e5.length
    have a2:=rel.length
    have a3:=h2.length
    simp at a1;omega
   refine jZ2 y e1 e2 e3 (by have:=h2.length;omega) ?_
   rw[l1]
   exact⟨.int (kvs.length:Nat),G,H,.refl H,⟨σ,I.tok _,hs,hg⟩,⟨.int _,rfl,_,rfl⟩,q⟩
 ·refine jQw pins s τ G H xs us Q I rs ?_
  cases x with
  | ref p=>
   cases hG:G p with
   | none=>simp only[lenG,hG] at hx;cases hx
   | some g=>
    cases g with
    | lst ys=>simp only[lenG,hG] at hx;cases hx;exact⟨_,ys,ex,by simp only[seqT,hG,asL],q⟩
    | dct kvs=>exact absurd ⟨p,rfl,.inl ⟨kvs,hG⟩⟩ hd
    | fdc kvs=>simp only[lenG,hG] at hx;cases hx
    | ins _ _=>simp only[lenG,hG] at hx;cases hx
    | dck kvs=>exact absurd ⟨p,rfl,.inr ⟨kvs,hG⟩⟩ hd
  | tup ys=>cases hx;exact⟨_,ys,ex,rfl,q⟩
  | scr ys=>cases hx;exact⟨_,ys,ex,rfl,q⟩
  | non=>cases hx
  | bl _=>cases hx
  | int _=>cases hx
  | str _=>cases hx
  | ty _=>cases hx
end
end L3
namespace L3
open PySem PySem.Spec PyProof.Rows L2
noncomputable def Itl (K:PySem.W.Frag) (a1 a2:Addr):It:=
 ⟨fun i H=>∃xs ys x y,SqL K H a1 xs/\SqL K H a2 ys/\xs[i]? =some x/\ys[i]? =some y,
  fun i H v H'=>∃p x y,H p=none/\v= .ref p/\(∀xs,SqL K H a1 xs->xs[i]? =some x)/\(∀ys,SqL K H a2 ys->ys[i]? =some y)/\H'=upd H p (.tup [x,y]),
  fun i H=>∃xs ys,SqL K H a1 xs/\SqL K H a2 ys/\(xs.length<=i\/ys.length<=i)⟩
end L3
namespace L3
open PySem PySem.Spec PyProof.Rows L2
section
variable {X:Cx}
noncomputable def rMin2:List T->Gp->VK3->Prop:=fun xs G Q=>∃i j,xs=[.int i,.int j]/\Q (.int (if j<i then j else i)) G
theorem c_min2 (hc:X.calm=true):Call3 X (.builtin "min") rMin2:=
 Call3.of (call_min2 hc) fun H G xs as Q hg ra ⟨i,j,e,q⟩=>by
  subst e
  obtain⟨v,w,rfl,rv,rw'⟩:=reps2 ra
  cases (show v= .int i from rv);cases (show w= .int j from rw')
  exact⟨i,j,rfl,.int _,G,.refl H,hg,rfl,q⟩
theorem jXn:∀ {is:List Int} {us:List Value},Vals (is.map V.int) us->∃ps:List (Int×Tok),us=ps.map (fun p=> .int p.1 p.2)/\ps.map (·.1)=is
 | [],_,.nil=>⟨[],rfl,rfl⟩
 | i::is,_,.cons ⟨t,e⟩ r=>by
  obtain⟨ps,e1,e2⟩:=jXn r
  subst e1;subst e2;subst e
  exact⟨(i,t)::ps,rfl,rfl⟩
end
end L3
namespace L3
open PySem PySem.Spec PyProof.Rows L2
section
variable {X:Cx}
end
section
variable {X:Cx} {pos:Pos}
end
theorem szle {n:Nat} (h:Nat.ble n 16777216=true):n<=sizeLine:=by rw[PySem.sizeLine_eq];exact Nat.le_of_ble_eq_true h
end L3
namespace L3
theorem xe1 {A0:Type} {σ:Type} {f:A0->σ} {p:A0->Prop} {τ:σ} {C:σ->Prop} (h:∃a0,τ=f a0/\p a0) (k:∀a0,p a0->C (f a0)):C τ:=by
 obtain⟨a0,e,h⟩:=h;rw[e];exact k _ h
theorem xi1 {A0:Type} {σ:Type} {f:A0->σ} {p:A0->Prop} {τ:σ} (a0:A0) (e:τ=f a0) (h:p a0):∃a0,τ=f a0/\p a0:=⟨a0,e,h⟩
theorem xe2 {A0 A1:Type} {σ:Type} {f:A0->A1->σ} {p:A0->A1->Prop} {τ:σ} {C:σ->Prop} (h:∃a0 a1,τ=f a0 a1/\p a0 a1) (k:∀a0 a1,p a0 a1->C (f a0 a1)):C τ:=by
 obtain⟨a0,a1,e,h⟩:=h;rw[e];exact k _ _ h
theorem xi2 {A0 A1:Type} {σ:Type} {f:A0->A1->σ} {p:A0->A1->Prop} {τ:σ} (a0:A0) (a1:A1) (e:τ=f a0 a1) (h:p a0 a1):∃a0 a1,τ=f a0 a1/\p a0 a1:=⟨a0,a1,e,h⟩
theorem xe3 {A0 A1 A2:Type} {σ:Type} {f:A0->A1->A2->σ} {p:A0->A1->A2->Prop} {τ:σ} {C:σ->Prop} (h:∃a0 a1 a2,τ=f a0 a1 a2/\p a0 a1 a2) (k:∀a0 a1 a2,p a0 a1 a2->C (f a0 a1 a2)):C τ:=by
 obtain⟨a0,a1,a2,e,h⟩:=h;rw[e];exact k _ _ _ h
theorem xi3 {A0 A1 A2:Type} {σ:Type} {f:A0->A1->A2->σ} {p:A0->A1->A2->Prop} {τ:σ} (a0:A0) (a1:A1) (a2:A2) (e:τ=f a0 a1 a2) (h:p a0 a1 a2):∃a0 a1 a2,τ=f a0 a1 a2/\p a0 a1 a2:=⟨a0,a1,a2,e,h⟩
theorem xe4 {A0 A1 A2 A3:Type} {σ:Type} {f:A0->A1->A2->A3->σ} {p:A0->A1->A2->A3->Prop} {τ:σ} {C:σ->Prop} (h:∃a0 a1 a2 a3,τ=f a0 a1 a2 a3/\p a0 a1 a2 a3) (k:∀a0 a1 a2 a3,p a0 a1 a2 a3->C (f a0 a1 a2 a3)):C τ:=by
 obtain⟨a0,a1,a2,a3,e,h⟩:=h;rw[e];exact k _ _ _ _ h
theorem xi4 {A0 A1 A2 A3:Type} {σ:Type} {f:A0->A1->A2->A3->σ} {p:A0->A1->A2->A3->Prop} {τ:σ} (a0:A0) (a1:A1) (a2:A2) (a3:A3) (e:τ=f a0 a1 a2 a3) (h:p a0 a1 a2 a3):∃a0 a1 a2 a3,τ=f a0 a1 a2 a3/\p a0 a1 a2 a3:=⟨a0,a1,a2,a3,e,h⟩
theorem xe5 {A0 A1 A2 A3 A4:Type} {σ:Type} {f:A0->A1->A2->A3->A4->σ} {p:A0->A1->A2->A3->A4->Prop} {τ:σ} {C:σ->Prop} (h:∃a0 a1 a2 a3 a4,τ=f a0 a1 a2 a3 a4/\p a0 a1 a2 a3 a4) (k:∀a0 a1 a2 a3 a4,p a0 a1 a2 a3 a4->C (f a0 a1 a2 a3 a4)):C τ:=by
 obtain⟨a0,a1,a2,a3,a4,e,h⟩:=h;rw[e];exact k _ _ _ _ _ h
theorem xe6 {A0 A1 A2 A3 A4 A5:Type} {σ:Type} {f:A0->A1->A2->A3->A4->A5->σ} {p:A0->A1->A2->A3->A4->A5->Prop} {τ:σ} {C:σ->Prop} (h:∃a0 a1 a2 a3 a4 a5,τ=f a0 a1 a2 a3 a4 a5/\p a0 a1 a2 a3 a4 a5) (k:∀a0 a1 a2 a3 a4 a5,p a0 a1 a2 a3 a4 a5->C (f a0 a1 a2 a3 a4 a5)):C τ:=by
 obtain⟨a0,a1,a2,a3,a4,a5,e,h⟩:=h;rw[e];exact k _ _ _ _ _ _ h
theorem xi6 {A0 A1 A2 A3 A4 A5:Type} {σ:Type} {f:A0->A1->A2->A3->A4->A5->σ} {p:A0->A1->A2->A3->A4->A5->Prop} {τ:σ} (a0:A0) (a1:A1) (a2:A2) (a3:A3) (a4:A4) (a5:A5) (e:τ=f a0 a1 a2 a3 a4 a5) (h:p a0 a1 a2 a3 a4 a5):∃a0 a1 a2 a3 a4 a5,τ=f a0 a1 a2 a3 a4 a5/\p a0 a1 a2 a3 a4 a5:=⟨a0,a1,a2,a3,a4,a5,e,h⟩
theorem xe7 {A0 A1 A2 A3 A4 A5 A6:Type} {σ:Type} {f:A0->A1->A2->A3->A4->A5->A6->σ} {p:A0->A1->A2->A3->A4->A5->A6->Prop} {τ:σ} {C:σ->Prop} (h:∃a0 a1 a2 a3 a4 a5 a6,τ=f a0 a1 a2 a3 a4 a5 a6/\p a0 a1 a2 a3 a4 a5 a6) (k:∀a0 a1 a2 a3 a4 a5 a6,p a0 a1 a2 a3 a4 a5 a6->C (f a0 a1 a2 a3 a4 a5 a6)):C τ:=by
 obtain⟨a0,a1,a2,a3,a4,a5,a6,e,h⟩:=h;rw[e];exact k _ _ _ _ _ _ _ h
theorem xi7 {A0 A1 A2 A3 A4 A5 A6:Type} {σ:Type} {f:A0->A1->A2->A3->A4->A5->A6->σ} {p:A0->A1->A2->A3->A4->A5->A6->Prop} {τ:σ} (a0:A0) (a1:A1) (a2:A2) (a3:A3) (a4:A4) (a5:A5) (a6:A6) (e:τ=f a0 a1 a2 a3 a4 a5 a6) (h:p a0 a1 a2 a3 a4 a5 a6):∃a0 a1 a2 a3 a4 a5 a6,τ=f a0 a1 a2 a3 a4 a5 a6/\p a0 a1 a2 a3 a4 a5 a6:=⟨a0,a1,a2,a3,a4,a5,a6,e,h⟩
theorem xe8 {A0 A1 A2 A3 A4 A5 A6 A7:Type} {σ:Type} {f:A0->A1->A2->A3->A4->A5->A6->A7->σ} {p:A0->A1->A2->A3->A4->A5->A6->A7->Prop} {τ:σ} {C:σ->Prop} (h:∃a0 a1 a2 a3 a4 a5 a6 a7,τ=f a0 a1 a2 a3 a4 a5 a6 a7/\p a0 a1 a2 a3 a4 a5 a6 a7) (k:∀a0 a1 a2 a3 a4 a5 a6 a7,p a0 a1 a2 a3 a4 a5 a6 a7->C (f a0 a1 a2 a3 a4 a5 a6 a7)):C τ:=by
 obtain⟨a0,a1,a2,a3,a4,a5,a6,a7,e,h⟩:=h;rw[e];exact k _ _ _ _ _ _ _ _ h
theorem ae2 {a0 a1 C:Prop} (h:a0/\a1) (k:a0->a1->C):C:=k h.1 h.2
theorem ae3 {a0 a1 a2 C:Prop} (h:a0/\a1/\a2) (k:a0->a1->a2->C):C:=k h.1 h.2.1 h.2.2
theorem ae4 {a0 a1 a2 a3 C:Prop} (h:a0/\a1/\a2/\a3) (k:a0->a1->a2->a3->C):C:=k h.1 h.2.1 h.2.2.1 h.2.2.2
theorem ae5 {a0 a1 a2 a3 a4 C:Prop} (h:a0/\a1/\a2/\a3/\a4) (k:a0->a1->a2->a3->a4->C):C:=k h.1 h.2.1 h.2.2.1 h.2.2.2.1 h.2.2.2.2
theorem ae6 {a0 a1 a2 a3 a4 a5 C:Prop} (h:a0/\a1/\a2/\a3/\a4/\a5) (k:a0->a1->a2->a3->a4->a5->C):C:=k h.1 h.2.1 h.2.2.1 h.2.2.2.1 h.2.2.2.2.1 h.2.2.2.2.2
theorem ae7 {a0 a1 a2 a3 a4 a5 a6 C:Prop} (h:a0/\a1/\a2/\a3/\a4/\a5/\a6) (k:a0->a1->a2->a3->a4->a5->a6->C):C:=k h.1 h.2.1 h.2.2.1 h.2.2.2.1 h.2.2.2.2.1 h.2.2.2.2.2.1 h.2.2.2.2.2.2
theorem ae8 {a0 a1 a2 a3 a4 a5 a6 a7 C:Prop} (h:a0/\a1/\a2/\a3/\a4/\a5/\a6/\a7) (k:a0->a1->a2->a3->a4->a5->a6->a7->C):C:=k h.1 h.2.1 h.2.2.1 h.2.2.2.1 h.2.2.2.2.1 h.2.2.2.2.2.1 h.2.2.2.2.2.2.1 h.2.2.2.2.2.2.2
theorem ae9 {a0 a1 a2 a3 a4 a5 a6 a7 a8 C:Prop} (h:a0/\a1/\a2/\a3/\a4/\a5/\a6/\a7/\a8) (k:a0->a1->a2->a3->a4->a5->a6->a7->a8->C):C:=k h.1 h.2.1 h.2.2.1 h.2.2.2.1 h.2.2.2.2.1 h.2.2.2.2.2.1 h.2.2.2.2.2.2.1 h.2.2.2.2.2.2.2.1 h.2.2.2.2.2.2.2.2
theorem ae10 {a0 a1 a2 a3 a4 a5 a6 a7 a8 a9 C:Prop} (h:a0/\a1/\a2/\a3/\a4/\a5/\a6/\a7/\a8/\a9) (k:a0->a1->a2->a3->a4->a5->a6->a7->a8->a9->C):C:=k h.1 h.2.1 h.2.2.1 h.2.2.2.1 h.2.2.2.2.1 h.2.2.2.2.2.1 h.2.2.2.2.2.2.1 h.2.2.2.2.2.2.2.1 h.2.2.2.2.2.2.2.2.1 h.2.2.2.2.2.2.2.2.2
end L3
namespace L3
open PySem PySem.Spec PyProof.Rows L2
section
variable {X:Cx}
end
end L3
namespace L3
open PySem PySem.Spec PyProof.Rows L2
section
variable {X:Cx}
noncomputable def rCatS (K:PySem.W.Frag):R2:=fun x y H Q=>∃l b xs zs,x= .ref l/\y= .ref b/\SqL K H l xs/\SqL K H b zs/\xs.length+zs.length<=sizeLine/\∀p,H p=none->Q (.ref p) (upd H p (.lst (xs++zs)))
theorem op_catS:OpR X (binaryOp .Add) (rCatS X.K):=by
 intro pins s σ H x y v u Q I rx ry h
 obtain⟨l,b,xs,zs,rfl,rfl,hH,hB,hz,q⟩:=h
 cases rx
 cases ry
 obtain⟨its,r,⟨⟨cls,dd,data,sl⟩,n,e,hc,_,hd⟩,_⟩:=I.list hH
 obtain⟨its2,r2,⟨⟨cls2,dd2,data2,sl2⟩,n2,e2,hc2,_,hd2⟩,_⟩:=I.list hB
 simp only at hc hd hc2 hd2
 subst hc hd hc2 hd2
 have l1:=r.length
 have l2:=r2.length
 refine concat_meets ⟨_,e,rfl⟩ ⟨_,e2,rfl⟩ noFill_list_add seq_list_add PySem.F.slot_list_add PySem.F.entry_list_add (PySem.F.args_list_add_2 _ _) (list_addW l b its.toArray its2.toArray n n2 dd dd2 sl sl2 (by rw[lJp,lJp];omega)) ⟨e,e2,?_⟩
 have ea:its.toArray++its2.toArray=(its++its2).toArray:=by simp
 rw[ea]
 exact⟨.ref _,_,I.lnew (t':=s.toks) (r.append r2) (by rw[lJ2];omega),rfl,q _ I.fresh⟩
noncomputable def rAddS:R3:=fun x y G Q=>match x with
 | .scr xs=>∃ys,jXf G y=some ys/\xs.length+ys.length<=sizeLine/\∀l,G l=none->Q (.ref l) (gup G l (.lst (xs++ys)))
 | _=>jK6 x y G Q
theorem o_addS:Op3 X (binaryOp .Add) rAddS:=by
 have hc:Op3 X (binaryOp .Add) fun x y G Q=>∃xs ys,x= .scr xs/\jXf G y=some ys/\xs.length+ys.length<=sizeLine/\∀l,G l=none->Q (.ref l) (gup G l (.lst (xs++ys))):=
  Op3.of op_catS fun H G x y a b Q hg ra rb ⟨xs,ys,ex,hy,hz,h⟩=>by
   subst ex
   obtain⟨p,vs,rfl,h1,h2⟩:=jZc hg ra (show jXf G (.scr xs)=some xs from rfl)
   obtain⟨q,ws,rfl,h3,h4⟩:=jZc hg rb hy
   exact⟨p,q,vs,ws,rfl,rfl,h1,h3,by rw[<-h2.length,<-h4.length];exact hz,fun l hl=>⟨.ref l,_,.upd (.none hl),hg.lstNew (h2.append h4) (.none hl),rfl,h l (hg.fresh hl)⟩⟩
 refine (o_addF.or hc).imp fun x y G Q h=> ?_
 cases x with
 | scr xs=>obtain⟨ys,h1,h2,h3⟩:=h;exact .inr ⟨xs,ys,rfl,h1,h2,h3⟩
 | _=>exact .inl h
end
end L3
namespace L3
open PySem PySem.Spec PyProof.Rows L2
section
variable {X:Cx}
end
end L3
namespace L3
open PySem
noncomputable def itr {α:Type} (f:α->α):Nat->α->α
 | 0,a=>a
 | n+1,a=>itr f n (f a)
theorem jQt {α:Type} (f:α->α):∀(m n:Nat) (a:α),itr f (m+n) a=itr f n (itr f m a)
 | 0,n,a=>by rw[Nat.zero_add];rfl
 | m+1,n,a=>by rw[Nat.add_right_comm];exact jQt f m n (f a)
theorem jZe {α:Type} (f:α->α) (n:Nat) (a:α):itr f (n+1) a=f (itr f n a):=jQt f n 1 a
namespace St
open SetTable
theorem getD_at {xs:Array Nat} {k d:Nat} (h:k<xs.size):xs.getD k d=xs[k]:=by simp[Array.getD,h]
theorem go_ok (xs:Array Nat) (j:Nat) (hs:∀a b:Nat,a<b->∀(hb:b<xs.size),xs.getD a 0<xs[b]):∀(fuel lo hi:Nat),hi<=xs.size->lo<=hi->hi-lo<=fuel->(∀k,k<lo->xs.getD k 0<j)->(∀k (h:k<xs.size),hi<=k->j<=xs[k])->
  (below.go xs j fuel lo hi)<=xs.size/\(∀k,k<below.go xs j fuel lo hi->xs.getD k 0<j)/\(∀k (h:k<xs.size),below.go xs j fuel lo hi<=k->j<=xs[k])
 | 0,lo,hi,h1,h2,h3,h4,h5=>by
  have e:hi=lo:=by omega
  subst e
  exact⟨h1,h4,h5⟩
 | fuel+1,lo,hi,h1,h2,h3,h4,h5=>by
  unfold below.go
  by_cases c:lo<hi
  ·rw[if_pos c]
   have hm:(lo+hi) / 2<xs.size:=by omega
   by_cases d:xs.getD ((lo+hi) / 2) j<j
   ·simp only[d,if_true]
    refine go_ok xs j hs fuel _ hi h1 (by omega) (by omega) (fun k hk=> ?_) h5
    rw[getD_at hm] at d
    by_cases e:k=(lo+hi) / 2
    ·subst e;rw[getD_at hm];exact d
    ·exact Nat.lt_trans (hs k _ (by omega) hm) d
   ·simp only[d,if_false]
    refine go_ok xs j hs fuel lo _ (by omega) (by omega) (by omega) h4 fun k h hk=> ?_
    rw[getD_at hm] at d
    by_cases e:k=(lo+hi) / 2
    ·subst e;omega
    ·have:=hs ((lo+hi) / 2) k (by omega) h
     rw[getD_at hm] at this
     omega
  ·rw[if_neg c]
   have e:hi=lo:=by omega
   subst e
   exact⟨h1,h4,h5⟩
def Ris (xs:Array Nat):Prop:=xs.toList.Pairwise (· < ·)
theorem Ris.lt {xs:Array Nat} (h:Ris xs) (a b:Nat) (hab:a<b) (hb:b<xs.size):xs.getD a 0<xs[b]:=by
 rw[getD_at (by omega)]
 have:=List.pairwise_iff_getElem.mp h a b (by simpa using (by omega:a<xs.size)) (by simpa using hb) hab
 simpa using this
theorem kJu {xs:Array Nat} (h:Ris xs) (j:Nat):below xs j<=xs.size/\(∀k,k<below xs j->xs.getD k 0<j)/\(∀k (h:k<xs.size),below xs j<=k->j<=xs[k]):=
 go_ok xs j h.lt xs.size 0 xs.size (lJd _) (lJt _) (lJd _) (fun k hk=>absurd hk (lJ0 _)) fun k h1 h2=>absurd h1 (by omega)
theorem below_at {xs:Array Nat} (h:Ris xs) {i:Nat} (hi:i<xs.size):below xs xs[i]=i:=by
 obtain⟨h1,h2,h3⟩:=kJu h xs[i]
 rcases Nat.lt_trichotomy (below xs xs[i]) i with c | c | c
 ·have a:=h3 (below xs xs[i]) (by omega) (lJd _)
  have b:=h.lt _ i c hi
  rw[getD_at (by omega)] at b
  omega
 ·exact c
 ·have:=h2 i c
  rw[getD_at hi] at this
  omega
theorem below_next {xs:Array Nat} (h:Ris xs) {i:Nat} (hi:i<xs.size):below xs (xs[i]+1)=i+1:=by
 obtain⟨h1,h2,h3⟩:=kJu h (xs[i]+1)
 rcases Nat.lt_trichotomy (below xs (xs[i]+1)) (i+1) with c | c | c
 ·have:=h3 i hi (by omega)
  omega
 ·exact c
 ·have a:=h2 (i+1) c
  have hi1:i+1<xs.size:=by omega
  rw[getD_at hi1] at a
  have b:=h.lt i (i+1) (by omega) hi1
  rw[getD_at hi] at b
  omega
theorem below_zero {xs:Array Nat} (h:Ris xs):below xs 0=0:=by
 obtain⟨h1,h2,h3⟩:=kJu h 0
 rcases Nat.eq_zero_or_pos (below xs 0) with c | c
 ·exact c
 ·exact absurd (h2 0 c) (lJ0 _)
theorem insertAt_ris {xs:Array Nat} (h:Ris xs) {j:Nat} (hj:j∉xs.toList):Ris (insertAt xs (below xs j) j):=by
 obtain⟨h1,h2,h3⟩:=kJu h j
 unfold Ris
 rw[SetTable.toList_insertAt,List.pairwise_append,List.pairwise_cons]
 have up:∀b,b∈xs.toList.drop (below xs j)->j<b:=by
  intro b hb
  obtain⟨k,hk,e⟩:=lK6 hb
  rw[List.length_drop] at hk
  rw[List.getElem_drop] at e
  have hk':below xs j+k<xs.size:=by simp at hk;omega
  have:=h3 _ hk' (by omega)
  have e':xs[below xs j+k]=b:=by simpa using e
  have ne:b≠j:=fun z=>hj (z▸List.mem_of_mem_drop hb)
  omega
 have dn:∀a,a∈xs.toList.take (below xs j)->a<j:=by
  intro a ha
  obtain⟨k,hk,e⟩:=lK6 ha
  rw[lK9] at hk
  rw[List.getElem_take] at e
  have:=h2 k (by omega)
  rw[getD_at (by simp at hk;omega)] at this
  have e':xs[k]'(by simp at hk;omega)=a:=by simpa using e
  omega
 refine⟨List.Pairwise.sublist (List.take_sublist _ _) h,⟨up,List.Pairwise.sublist (List.drop_sublist _ _) h⟩,?_⟩
 intro a ha b hb
 (rcases lJi.mp hb with rfl | hb)
 ·exact dn a ha
 ·exact Nat.lt_trans (dn a ha) (up b hb)
theorem has_nil (j:Nat):has #[] j=false:=rfl
theorem slot_cases {t:SetTable} (hd:t.dummies= #[]) (j:Nat):(t.slot j= .empty/\(Ris t.place->j∉t.place.toList))\/∃i,t.slot j= .live i/\∃h:i<t.place.size,t.place[i]=j/\i=below t.place j:=by
 unfold SetTable.slot
 by_cases c:(t.place[below t.place j]? == some j)=true
 ·right
  refine⟨below t.place j,?_,?_⟩
  ·simp only[c,if_true]
  ·have c':=eq_of_beq c
   obtain⟨h,e⟩:=lQ2.mp c'
   exact⟨h,e,rfl⟩
 ·left
  refine⟨?_,fun hr hm=> ?_⟩
  ·rw[hd]
   simp only[c,has_nil,lKa,if_false]
  ·obtain⟨k,hk,e⟩:=lK6 hm
   have hk':k<t.place.size:=by simpa using hk
   have e':t.place[k]=j:=by simpa using e
   apply c
   rw[<-e',below_at hr hk',lK0 hk']
   exact beq_self_eq_true _
theorem slot_empty {t:SetTable} (hd:t.dummies= #[]) {j:Nat} (h:j∉t.place.toList):t.slot j= .empty:=by
 rcases slot_cases hd j with c | ⟨i,_,hi,e,_⟩
 ·exact c.1
 ·exact absurd (by rw[<-e];simp) h
theorem slot_live {t:SetTable} (hr:Ris t.place) {i:Nat} (hi:i<t.place.size):t.slot t.place[i]= .live i:=by
 unfold SetTable.slot
 rw[below_at hr hi]
 simp[hi]
theorem runEnd_le (mask i:Nat):runEnd mask i-i<=9:=by unfold runEnd;split<;>omega
def kQ1 (t:SetTable) (p:Probe):Prop:=p.j=p.i/\p.more=runEnd t.mask p.i-p.i
theorem kJx (t:SetTable):∀(m:Nat) (p:Probe),m<=p.more->itr t.advance m p={p with j:=p.j+m,more:=p.more-m}
 | 0,p,_=>by cases p;rfl
 | m+1,p,h=>by
  show itr t.advance m (t.advance p)=_
  have e:t.advance p={p with j:=p.j+1,more:=p.more-1}:=by unfold SetTable.advance;rw[if_pos (by omega)]
  rw[e,kJx t m _ (by show m<=p.more-1;omega)]
  simp only[Probe.mk.injEq,and_true,true_and]
  omega
theorem adv_leap (t:SetTable) (p:Probe):∃m,m<=p.more+1/\kQ1 t (itr t.advance m p)/\(itr t.advance m p).i=(leap t.mask p.i p.perturb).1/\(itr t.advance m p).perturb=p.perturb / 32:=by
 refine⟨p.more+1,lJd _,?_⟩
 rw[jZe,kJx t p.more p (lJd _)]
 unfold SetTable.advance
 rw[if_neg (by show ¬ p.more-p.more>0;omega)]
 exact⟨⟨rfl,rfl⟩,rfl,rfl⟩
noncomputable def lp (mask:Nat) (x:Nat×Nat):Nat×Nat:=leap mask x.1 x.2
theorem kKo (t:SetTable):∀(k:Nat) (p:Probe),kQ1 t p->∃m,m<=10*k/\kQ1 t (itr t.advance m p)/\((itr t.advance m p).i,(itr t.advance m p).perturb)=itr (lp t.mask) k (p.i,p.perturb)
 | 0,p,h=>⟨0,lJd _,h,rfl⟩
 | k+1,p,h=>by
  obtain⟨m,h1,h2,h3,h4⟩:=adv_leap t p
  obtain⟨m',h1',h2',h3'⟩:=kKo t k _ h2
  have hm:p.more<=9:=by rw[h.2];exact runEnd_le _ _
  refine⟨m+m',by omega,?_,?_⟩
  ·rw[jQt];exact h2'
  ·rw[jQt,h3',h3,h4];rfl
theorem lp_pert (mask:Nat):∀(k:Nat) (x:Nat×Nat),(itr (lp mask) k x).2=x.2 / 32^k
 | 0,x=>by simp[itr]
 | k+1,x=>by
  show (itr (lp mask) k (lp mask x)).2=_
  rw[lp_pert mask k]
  show x.2 / 32 / 32^k=_
  rw[Nat.div_div_eq_div_mul,Nat.pow_succ,Nat.mul_comm]
noncomputable def five (mask i:Nat):Nat:=(i*5+1)%(mask+1)
theorem lp_five (mask:Nat):∀(k i:Nat),itr (lp mask) k (i,0)=(itr (five mask) k i,0)
 | 0,i=>rfl
 | k+1,i=>by
  show itr (lp mask) k (lp mask (i,0))=_
  have e:lp mask (i,0)=(five mask i,0):=by simp[lp,leap,five]
  rw[e];exact lp_five mask k _
noncomputable def orb (mask:Nat):Nat->Nat->List Nat
 | 0,_=>[]
 | n+1,i=>i::orb mask n (five mask i)
theorem orb_get (mask:Nat):∀(n i k:Nat),k<n->(orb mask n i)[k]? =some (itr (five mask) k i)
 | n+1,i,0,_=>rfl
 | n+1,i,k+1,h=>by
  show (orb mask n (five mask i))[k]? =_
  exact orb_get mask n _ k (by omega)
theorem orb_len (mask:Nat):∀(n i:Nat),(orb mask n i).length=n
 | 0,_=>rfl
 | n+1,i=>by simp[orb,orb_len mask n]
theorem orb_mem {mask n i j:Nat} (h:j∈orb mask n i):∃k,k<n/\itr (five mask) k i=j:=by
 obtain⟨k,hk,e⟩:=lK6 h
 rw[orb_len] at hk
 refine⟨k,hk,?_⟩
 have:=orb_get mask n i k hk
 rw[lJa (by rw[orb_len];exact hk),e] at this
 (exact (lJr this).symm)
def Full (mask:Nat):Prop:=(∀j,j<=mask->∃k,k<=mask/\itr (five mask) k 0=j)/\itr (five mask) (mask+1) 0=0
theorem full_of {mask:Nat} (h:(List.range (mask+1)).all (fun j=>(orb mask (mask+1) 0).contains j)=true) (h0:itr (five mask) (mask+1) 0=0):Full mask:=by
 refine⟨fun j hj=> ?_,h0⟩
 rw[lKy] at h
 have:=h j (lJn.mpr (by omega))
 obtain⟨k,hk,e⟩:=orb_mem (List.contains_iff_mem.mp this)
 exact⟨k,by omega,e⟩
theorem full7:Full 7:=full_of (by decide +kernel) (by decide +kernel)
theorem full31:Full 31:=full_of (by decide +kernel) (by decide +kernel)
theorem full127:Full 127:=full_of (by decide +kernel) (by decide +kernel)
theorem Full.all {mask:Nat} (h:Full mask) {i j:Nat} (hi:i<=mask) (hj:j<=mask):∃k,k<=mask/\itr (five mask) k i=j:=by
 obtain⟨a,ha,ea⟩:=h.1 i hi
 obtain⟨b,hb,eb⟩:=h.1 j hj
 by_cases c:a<=b
 ·refine⟨b-a,by omega,?_⟩
  rw[<-ea,<-jQt,show a+(b-a)=b by omega,eb]
 ·refine⟨mask+1-a+b,by omega,?_⟩
  rw[<-ea,<-jQt,show a+(mask+1-a+b)=mask+1+b by omega,jQt,h.2,eb]
theorem bits_lt (h:Int):bits h<2^64:=by
 unfold bits
 have h1:=lQs h (show (2^64:Int)≠0 by decide)
 have h2:=lQt h (show (0:Int)<2^64 by decide)
 omega
theorem kQf (t:SetTable) (h:Int):kQ1 t (t.probeStart h):=⟨rfl,rfl⟩
theorem met {t:SetTable} (hf:Full t.mask) (h:Int) {j:Nat} (hj:j<=t.mask):∃n,n<=10*(t.mask+14)/\(itr t.advance n (t.probeStart h)).j=j:=by
 obtain⟨m,h1,h2,h3⟩:=kKo t 13 _ (kQf t h)
 have hp:(itr t.advance m (t.probeStart h)).perturb=0:=by
  have e:=congrArg Prod.snd h3
  rw[lp_pert] at e
  refine e.trans (Nat.div_eq_of_lt (lJz (bits_lt h) (by decide)))
 have hi:(itr t.advance m (t.probeStart h)).i<=t.mask:=by
  have e:=congrArg Prod.fst h3
  rw[jZe] at e
  have:(lp t.mask (itr (lp t.mask) 12 ((t.probeStart h).i,(t.probeStart h).perturb))).1<=t.mask:=by
   unfold lp leap
   exact lKo (lK1 _ (Nat.succ_pos _))
  rw[<-e] at this
  exact this
 obtain⟨k,hk,ek⟩:=hf.all hi hj
 obtain⟨m',h1',h2',h3'⟩:=kKo t k _ h2
 refine⟨m+m',by omega,?_⟩
 rw[jQt,h2'.1]
 rw[hp,lp_five] at h3'
 exact (congrArg Prod.fst h3').trans ek
theorem adv_dummy (t:SetTable) (p:Probe):(t.advance p).dummy=p.dummy:=by unfold SetTable.advance;split<;>rfl
def Miss (t:SetTable) (hashAt:Nat->Int) (h:Int) (j:Nat):Prop:=∃i,t.slot j= .live i/\hashAt i≠h
theorem pgo_ok {t:SetTable} (hd:t.dummies= #[]) (hashAt:Nat->Int) (h:Int):∀(n fuel:Nat) (p:Probe),t.slot (itr t.advance n p).j= .empty->n<fuel->p.dummy=none->
  (∃m,m<=n/\t.slot (itr t.advance m p).j= .empty/\(∀k,k<m->Miss t hashAt h (itr t.advance k p).j)/\probe.go t hashAt h fuel p=some (.empty (itr t.advance m p).j none))\/
  (∃m i,m<n/\t.slot (itr t.advance m p).j= .live i/\hashAt i=h/\(∀k,k<m->Miss t hashAt h (itr t.advance k p).j)/\probe.go t hashAt h fuel p=some (.candidate (itr t.advance m p).j i (itr t.advance (m+1) p)))
 | n,0,p,_,hn,_=>absurd hn (lJ0 _)
 | n,fuel+1,p,he,hn,hp=>by
  rcases slot_cases hd p.j with ⟨c,_⟩ | ⟨i,c,_⟩
  ·left
   refine⟨0,lJt _,c,fun k hk=>absurd hk (lJ0 _),?_⟩
   unfold probe.go
   rw[c,hp];rfl
  ·by_cases q:hashAt i=h
   ·right
    have n0:n≠0:=by rintro rfl;rw[show itr t.advance 0 p=p from rfl,c] at he;cases he
    refine⟨0,i,by omega,c,q,fun k hk=>absurd hk (lJ0 _),?_⟩
    unfold probe.go
    simp only[c,q,beq_self_eq_true,if_true]
    rfl
   ·have n0:n≠0:=by rintro rfl;rw[show itr t.advance 0 p=p from rfl,c] at he;cases he
    obtain⟨n',rfl⟩:∃n',n=n'+1:=⟨n-1,by omega⟩
    have e:probe.go t hashAt h (fuel+1) p=probe.go t hashAt h fuel (t.advance p):=by
     conv=>lhs;unfold probe.go
     have q':(hashAt i == h)=false:=by simpa using q
     simp only[c,q',lKa,if_false]
    have ih:=pgo_ok hd hashAt h n' fuel (t.advance p) he (by omega) (by rw[adv_dummy];exact hp)
    rw[e]
    rcases ih with ⟨m,h1,h2,h3,h4⟩ | ⟨m,i',h1,h2,h3,h4,h5⟩
    ·left
     refine⟨m+1,by omega,h2,fun k hk=> ?_,h4⟩
     cases k with
     | zero=>exact⟨i,c,q⟩
     | succ k=>exact h3 k (by omega)
    ·right
     refine⟨m+1,i',by omega,h2,h3,fun k hk=> ?_,h5⟩
     cases k with
     | zero=>exact⟨i,c,q⟩
     | succ k=>exact h4 k (by omega)
end St
end L3
namespace L3
open PySem
namespace St
open SetTable
theorem fm_congr {α β:Type} {f g:α->Option β}:∀ {l:List α},(∀x,x∈l->f x=g x)->l.filterMap f=l.filterMap g
 | [],_=>rfl
 | a::l,h=>by rw[lK8,lK8,h a (lJq ..),fm_congr fun x hx=>h x (lJs _ hx)]
theorem jZf {g f:Nat->Option Nat} {j k:Nat} (hf:f j=none) (hg:g j=some k) (he:∀i,i≠j->g i=f i):∀ {l:List Nat},l.Nodup->j∈l->(l.filterMap g).Perm (k::l.filterMap f)
 | [],_,h=>absurd h (lJu)
 | a::l,hn,h=>by
  rw[lJ8] at hn
  by_cases e:a=j
  ·subst e
   rw[lQu hg,List.filterMap_cons_none hf]
   refine List.Perm.cons _ (List.Perm.of_eq (fm_congr fun x hx=>he x ?_))
   rintro rfl;exact hn.1 hx
  ·have ih:=jZf hf hg he hn.2 ((lJi.mp h).resolve_left (fun z=>e z.symm))
   cases q:f a with
   | none=>rw[List.filterMap_cons_none (by rw[he a e];exact q),List.filterMap_cons_none q];exact ih
   | some b=>
    rw[lQu (by rw[he a e];exact q),lQu q]
    exact (List.Perm.cons b ih).trans (List.Perm.swap _ _ _)
noncomputable def jUa (owner:Array (Option Nat)) (j:Nat):Option Nat:=owner.getD j none
def ChainO (t:SetTable) (owner:Array (Option Nat)) (h:Int) (j:Nat):Prop:=∃n,(itr t.advance n (t.probeStart h)).j=j/\∀k,k<n->jUa owner (itr t.advance k (t.probeStart h)).j≠none
structure Own (t:SetTable) (hashes:List Int) (owner:Array (Option Nat)) (n:Nat):Prop where
 size:owner.size=t.mask+1
 perm:((List.range (t.mask+1)).filterMap (jUa owner)).Perm (List.range n)
 chain:∀j i,jUa owner j=some i->∃h,hashes[i]? =some h/\ChainO t owner h j
theorem lp_mask {mask:Nat} {x:Nat×Nat} (hx:x.1<=mask):∀(k:Nat),(itr (lp mask) k x).1<=mask
 | 0=>hx
 | k+1=>by
  rw[jZe]
  unfold lp leap
  exact lKo (lK1 _ (Nat.succ_pos _))
theorem runEnd_mask {mask i:Nat} (h:i<=mask):runEnd mask i<=mask:=by unfold runEnd;split<;>omega
theorem runEnd_ge (mask i:Nat):i<=runEnd mask i:=by unfold runEnd;split<;>omega
theorem free_ok {t:SetTable} {owner:Array (Option Nat)} (hz:owner.size=t.mask+1):∀(fuel:Nat) (p:Probe),kQ1 t p->p.i<=t.mask->∀K,K<fuel->jUa owner (itr (lp t.mask) K (p.i,p.perturb)).1=none->
  ∃n j,layClean.free t.mask owner fuel p.i p.perturb=some j/\(itr t.advance n p).j=j/\j<=t.mask/\jUa owner j=none/\∀k,k<n->jUa owner (itr t.advance k p).j≠none
 | 0,p,_,_,K,hK,_=>absurd hK (lJ0 _)
 | fuel+1,p,hl,hi,K,hK,he=>by
  have hr:=runEnd_mask hi
  have hg:=runEnd_ge t.mask p.i
  have sl:∀k,k<runEnd t.mask p.i+1-p.i->((owner.getD (p.i+k) (some 0)).isNone=true↔jUa owner (p.i+k)=none):=by
   intro k hk
   unfold jUa
   have:p.i+k<owner.size:=by omega
   simp[Array.getD,this]
  have pj:∀k,k<runEnd t.mask p.i+1-p.i->(itr t.advance k p).j=p.i+k:=by
   intro k hk
   rw[kJx t k p (by rw[hl.2];omega)]
   show p.j+k=_
   rw[hl.1]
  unfold layClean.free
  cases q:(List.range (runEnd t.mask p.i+1-p.i)).find? (fun k=>(owner.getD (p.i+k) (some 0)).isNone) with
  | some k=>
   obtain⟨h1,as,bs,h2,h3⟩:=List.find?_eq_some_iff_append.mp q
   have hk:k<runEnd t.mask p.i+1-p.i:=by
    have:k∈List.range (runEnd t.mask p.i+1-p.i):=by rw[h2];simp
    exact lJn.mp this
   have ha:∀x,x<k->x∈as:=by
    intro x hx
    have e:as.length=k:=by
     have e1:(List.range (runEnd t.mask p.i+1-p.i))[as.length]? =some k:=by rw[h2];simp
     rw[lJw (by have:=congrArg List.length h2;simp at this;omega)] at e1
     exact lJr e1
    have e2:(List.range (runEnd t.mask p.i+1-p.i))[x]? =as[x]? :=by rw[h2,lKh (by omega)]
    rw[lJw (by omega)] at e2
    exact lJf e2.symm
   refine⟨k,p.i+k,rfl,pj k hk,by omega,(sl k hk).mp h1,fun x hx=> ?_⟩
   rw[pj x (by omega)]
   intro z
   have:=h3 x (ha x hx)
   rw[(sl x (by omega)).mpr z] at this
   exact absurd this (by decide)
  | none=>
   have none_:∀k,k<runEnd t.mask p.i+1-p.i->jUa owner (p.i+k)≠none:=by
    intro k hk z
    have:=List.find?_eq_none.mp q k (lJn.mpr hk)
    exact this ((sl k hk).mpr z)
   have K0:K≠0:=by
    rintro rfl
    exact none_ 0 (by omega) he
   obtain⟨K',rfl⟩:∃K',K=K'+1:=⟨K-1,by omega⟩
   have hm:p.more=runEnd t.mask p.i-p.i:=hl.2
   have e1:itr t.advance (p.more+1) p={p with j:=(leap t.mask p.i p.perturb).1,more:=runEnd t.mask (leap t.mask p.i p.perturb).1-(leap t.mask p.i p.perturb).1,i:=(leap t.mask p.i p.perturb).1,perturb:=(leap t.mask p.i p.perturb).2}:=by
    rw[jZe,kJx t p.more p (lJd _)]
    unfold SetTable.advance
    rw[if_neg (by show ¬ p.more-p.more>0;omega)]
   have hl2:kQ1 t (itr t.advance (p.more+1) p):=by rw[e1];exact⟨rfl,rfl⟩
   have hi2:(itr t.advance (p.more+1) p).i<=t.mask:=by
    rw[e1];exact lKo (lK1 _ (Nat.succ_pos _))
   obtain⟨n,j,g1,g2,g3,g4,g5⟩:=free_ok hz fuel _ hl2 hi2 K' (by omega) (by rw[e1];exact he)
   refine⟨p.more+1+n,j,?_,?_,g3,g4,fun k hk=> ?_⟩
   ·rw[e1] at g1;exact g1
   ·rw[jQt];exact g2
   ·by_cases c:k<p.more+1
    ·rw[pj k (by omega)];exact none_ k (by omega)
    ·have:=g5 (k-(p.more+1)) (by omega)
     rw[<-jQt,show p.more+1+(k-(p.more+1))=k by omega] at this
     exact this
theorem jYr {owner:Array (Option Nat)} {j k:Nat} (hj:j<owner.size) (i:Nat):jUa (owner.setIfInBounds j (some k)) i=if i=j then some k else jUa owner i:=by
 unfold jUa
 rw[lQ3,lQ3,Array.getElem?_setIfInBounds]
 by_cases e:j=i
 ·subst e;simp[hj]
 ·rw[if_neg e,if_neg (fun z=>e z.symm)]
theorem free_slot {t:SetTable} (hf:Full t.mask) {owner:Array (Option Nat)} {hashes:List Int} {n:Nat} (o:Own t hashes owner n) (hn:n<=t.mask) (h:Int):∃K,K<turns t.mask/\jUa owner (itr (lp t.mask) K ((t.probeStart h).i,(t.probeStart h).perturb)).1=none:=by
 have hex:∃j,j<=t.mask/\jUa owner j=none:=by
  apply lK4
  intro q
  have all:∀j,j∈List.range (t.mask+1)->(jUa owner j).isSome=true:=by
   intro j hj
   cases e:jUa owner j with
   | none=>exact absurd ⟨j,by have:=lJn.mp hj;omega,e⟩ q
   | some _=>rfl
  have len:∀l:List Nat,(∀j,j∈l->(jUa owner j).isSome=true)->(l.filterMap (jUa owner)).length=l.length:=by
   intro l hl
   induction l with
   | nil=>rfl
   | cons a l ih=>
    obtain⟨b,hb⟩:=Option.isSome_iff_exists.mp (hl a (lJq ..))
    rw[lQu hb,lJy,lJy,ih fun j hj=>hl j (lJs _ hj)]
  have:=o.perm.length_eq
  rw[len _ all,lJ1,lJ1] at this
  omega
 obtain⟨j,hj,e⟩:=hex
 have hs:(t.probeStart h).i<=t.mask:=lKo (lK1 _ (Nat.succ_pos _))
 have h13:=lp_pert t.mask 13 ((t.probeStart h).i,(t.probeStart h).perturb)
 have z:(t.probeStart h).perturb / 32^13=0:=Nat.div_eq_of_lt (lJz (bits_lt h) (by decide))
 obtain⟨k,hk,ek⟩:=hf.all (lp_mask (x:=((t.probeStart h).i,(t.probeStart h).perturb)) hs 13) hj
 refine⟨13+k,by unfold turns;omega,?_⟩
 rw[jQt]
 generalize hy:itr (lp t.mask) 13 ((t.probeStart h).i,(t.probeStart h).perturb)=y at h13 ek
 obtain⟨y1,y2⟩:=y
 have y0:y2=0:=h13.trans z
 subst y0
 rw[lp_five,ek]
 exact e
theorem own_step {t:SetTable} (hf:Full t.mask) {owner:Array (Option Nat)} {hashes:List Int} {n:Nat} {h:Int} (o:Own t hashes owner n) (hn:n<t.mask+1) (hh:hashes[n]? =some h) (hn':n<=t.mask):
  ∃j,layClean.free t.mask owner (turns t.mask) (bits h%(t.mask+1)) (bits h)=some j/\Own t hashes (owner.setIfInBounds j (some n)) (n+1):=by
 obtain⟨K,hK,eK⟩:=free_slot hf o hn' h
 have hs:(t.probeStart h).i<=t.mask:=lKo (lK1 _ (Nat.succ_pos _))
 obtain⟨m,j,g1,g2,g3,g4,g5⟩:=free_ok o.size (turns t.mask) (t.probeStart h) (kQf t h) hs K hK eK
 have hj:j<owner.size:=by rw[o.size];omega
 have grow:∀i,jUa owner i≠none->jUa (owner.setIfInBounds j (some n)) i≠none:=by
  intro i hi
  rw[jYr hj]
  split
  ·simp
  ·exact hi
 refine⟨j,g1,by rw[Array.size_setIfInBounds];exact o.size,?_,?_⟩
 ·refine (jZf (f:=jUa owner) (j:=j) (k:=n) g4 (by rw[jYr hj,if_pos rfl]) (fun i hi=>by rw[jYr hj,if_neg hi]) (lQf) (lJn.mpr (by omega))).trans ?_
  rw[lKk (n:=n)]
  exact (List.Perm.cons n o.perm).trans (List.perm_append_singleton n _).symm
 ·intro i x hx
  rw[jYr hj] at hx
  by_cases e:i=j
  ·subst e
   rw[if_pos rfl] at hx;cases hx
   exact⟨h,hh,m,g2,fun k hk=>grow _ (g5 k hk)⟩
  ·rw[if_neg e] at hx
   obtain⟨h',e1,n',e2,e3⟩:=o.chain i x hx
   exact⟨h',e1,n',e2,fun k hk=>grow _ (e3 k hk)⟩
theorem own_start (t:SetTable) (hashes:List Int):Own t hashes (Array.replicate (t.mask+1) none) 0:=by
 have z:∀j,jUa (Array.replicate (t.mask+1) none) j=none:=by
  intro j
  unfold jUa
  rw[lQ3,Array.getElem?_replicate]
  split<;>rfl
 refine⟨by simp,?_,fun j i h=>by rw[z] at h;cases h⟩
 have:(List.range (t.mask+1)).filterMap (jUa (Array.replicate (t.mask+1) none))=[]:=by
  rw[List.filterMap_eq_nil_iff];intro j _;exact z j
 rw[this];exact List.Perm.nil
theorem fold_ok {t:SetTable} (hf:Full t.mask) (all:List Int) (hn:all.length<=t.mask):∀(l:List Int) (done:List Int) (owner:Array (Option Nat)),all=done++l->Own t all owner done.length->
  ∃owner',l.foldl (fun (acc:Option (Array (Option Nat)×Nat)) h=>do
   let (owner,k) <-acc
   let j <-layClean.free t.mask owner (turns t.mask) (bits h%(t.mask+1)) (bits h)
   pure (owner.setIfInBounds j (some k),k+1)) (some (owner,done.length))=some (owner',all.length)/\Own t all owner' all.length
 | [],done,owner,e,o=>by
  rw[lQg] at e;subst e
  exact⟨owner,rfl,o⟩
 | h::l,done,owner,e,o=>by
  have hlt:done.length<all.length:=by rw[e];simp
  obtain⟨j,h1,o'⟩:=own_step (h:=h) hf o (by omega) (by rw[e];simp) (by omega)
  have e':all=(done++[h])++l:=by rw[e];simp
  obtain⟨owner',h2,h3⟩:=fold_ok hf all hn l (done++[h]) _ e' (by simpa using o')
  refine⟨owner',?_,h3⟩
  rw[lQi]
  have:(do
   let (owner,k) <-some (owner,done.length)
   let j <-layClean.free t.mask owner (turns t.mask) (bits h%(t.mask+1)) (bits h)
   pure (owner.setIfInBounds j (some k),k+1))=some (owner.setIfInBounds j (some done.length),done.length+1):=by
   show (layClean.free t.mask owner (turns t.mask) (bits h%(t.mask+1)) (bits h)).bind _=_
   rw[h1];rfl
  rw[this]
  simpa using h2
theorem layClean_ok {t:SetTable} (hf:Full t.mask) (hashes:Array Int) (hn:hashes.size<=t.mask):∃owner,layClean t.mask hashes=some owner/\Own t hashes.toList owner hashes.size:=by
 obtain⟨owner,h1,h2⟩:=fold_ok hf hashes.toList (by simpa using hn) hashes.toList [] _ rfl (own_start t _)
 refine⟨owner,?_,by simpa using h2⟩
 unfold layClean
 rw[<-Array.foldl_toList]
 have h1':=h1
 simp only[lKn] at h1'
 rw[h1'];rfl
def Chain (t:SetTable) (h:Int) (j:Nat):Prop:=∃n,(itr t.advance n (t.probeStart h)).j=j/\∀k,k<n->(itr t.advance k (t.probeStart h)).j∈t.place.toList
structure Good (t:SetTable) (hs:List Int):Prop where
 len:t.place.size=hs.length
 ris:Ris t.place
 dum:t.dummies= #[]
 chain:∀x,x∈t.place.toList.zip hs->Chain t x.2 x.1
theorem laid_ok {mask:Nat} (hf:Full mask) (finger moves:Nat) (led plain:Bool) (hashes:Array Int) (hn:hashes.size<=mask):
  ∃t order,laid mask finger moves led plain hashes=some (t,order)/\t.mask=mask/\t.led=led/\t.plain=plain/\order.toList.Perm (List.range hashes.size)/\Good t (order.toList.filterMap (hashes[·]?)):=by
 let t0:SetTable:={mask:=mask,place:= #[],dummies:= #[],finger:=finger,led:=led,moves:=moves,plain:=plain}
 obtain⟨owner,h1,o⟩:=layClean_ok (t:=t0) hf hashes hn
 have hl:layClean mask hashes=some owner:=h1
 let live:=(List.range (mask+1)).filterMap fun j=>((owner.getD j none).map (j,·))
 refine⟨{mask:=mask,place:=(live.map (·.1)).toArray,dummies:= #[],finger:=finger,led:=led,moves:=moves,plain:=plain},(live.map (·.2)).toArray,?_,rfl,rfl,rfl,?_,?_⟩
 ·unfold laid
  rw[hl];rfl
 ·have e:live.map (·.2)=(List.range (mask+1)).filterMap (jUa owner):=by
   show ((List.range (mask+1)).filterMap fun j=>(owner.getD j none).map (j,·)).map (·.2)=_
   rw[List.map_filterMap]
   refine fm_congr fun j _=> ?_
   unfold jUa
   cases owner.getD j none<;>rfl
  show (live.map (·.2)).Perm _
  rw[e];exact o.perm
 ·have live_mem:∀j k,(j,k)∈live->jUa owner j=some k/\j<=mask:=by
   intro j k hm
   obtain⟨j',hj',e⟩:=lQh.mp hm
   obtain⟨k',e1,e2⟩:=lKi.mp e
   cases e2
   exact⟨e1,by have:=lJn.mp hj';omega⟩
  have mem_place:∀j,j∈live.map (·.1)↔jUa owner j≠none/\j<=mask:=by
   intro j
   constructor
   ·intro hm
    obtain⟨⟨j',k⟩,h2,rfl⟩:=lJg.mp hm
    obtain⟨h3,h4⟩:=live_mem _ _ h2
    exact⟨by rw[h3];simp,h4⟩
   ·rintro⟨h2,h3⟩
    obtain⟨k,hk⟩:=Option.ne_none_iff_exists'.mp h2
    refine lJg.mpr ⟨(j,k),lQh.mpr ⟨j,lJn.mpr (by omega),?_⟩,rfl⟩
    show (jUa owner j).map _=_
    rw[hk];rfl
  have hin:∀k,k∈live.map (·.2)->k<hashes.size:=by
   intro k hk
   obtain⟨⟨j,k'⟩,h2,rfl⟩:=lJg.mp hk
   obtain⟨h',e1,_⟩:=o.chain j k' (live_mem _ _ h2).1
   have:=(lJb.mp e1).1
   simpa using this
  have fm:∀l:List Nat,(∀k,k∈l->k<hashes.size)->∀i:Nat,(l.filterMap (hashes[·]?)).length=l.length/\(l.filterMap (hashes[·]?))[i]? =(l[i]?).bind (hashes[·]?):=by
   intro l
   induction l with
   | nil=>intro _ i;exact⟨rfl,by simp⟩
   | cons a l ih=>
    intro hl i
    have ha:=hl a (lJq ..)
    have e:hashes[a]? =some hashes[a]:=lK0 ha
    have ih':=ih (fun k hk=>hl k (lJs _ hk))
    rw[lQu e]
    refine⟨by rw[lJy,lJy,(ih' 0).1],?_⟩
    cases i with
    | zero=>simp[e]
    | succ i=>simpa using (ih' i).2
  refine⟨?_,?_,rfl,?_⟩
  ·show (live.map (·.1)).toArray.size=_
   rw[lJp,lJc]
   have:=(fm (live.map (·.2)) hin 0).1
   rw[lJc] at this
   exact this.symm
  ·show (live.map (·.1)).Pairwise (· < ·)
   rw[List.pairwise_map]
   have:live.Pairwise fun a b=>a.1<b.1:=by
    show ((List.range (mask+1)).filterMap fun j=>(owner.getD j none).map (j,·)).Pairwise _
    rw[List.pairwise_filterMap]
    refine (List.pairwise_lt_range).imp fun {a b} hab x hx y hy=> ?_
    obtain⟨k,_,e⟩:=lKi.mp hx
    obtain⟨k',_,e'⟩:=lKi.mp hy
    rw[<-e,<-e'];exact hab
   exact this
  ·intro x hx
   obtain⟨i,hi,hxe⟩:=lK6 hx
   rw[List.getElem_zip] at hxe
   obtain⟨xj,h⟩:=x
   obtain⟨pe,he⟩:=Prod.mk.inj hxe
   have hi':i<live.length:=by rw[List.length_zip] at hi;have:=lJz hi (Nat.min_le_left _ _);simpa using this
   have hh:((live.map (·.2)).filterMap (hashes[·]?))[i]? =some h:=by rw[<-he];exact lJa _
   have pl:live[i].1=xj:=by rw[<-pe];simp
   show Chain _ h xj
   rw[<-pl]
   have e2:=(fm (live.map (·.2)) hin i).2
   have hh':((live.map (·.2)).filterMap (hashes[·]?))[i]? =some h:=hh
   rw[hh',lJe,lJa hi'] at e2
   have e3:hashes[live[i].2]? =some h:=e2.symm
   obtain⟨h3,h4⟩:=live_mem live[i].1 live[i].2 (lQv hi')
   obtain⟨h',e4,n,e5,e6⟩:=o.chain _ _ h3
   have:h'=h:=by
    have:hashes.toList[live[i].2]? =some h:=by simpa using e3
    rw[this] at e4;exact (lJr e4).symm
   subst this
   refine⟨n,e5,fun k hk=> ?_⟩
   show (itr t0.advance k (t0.probeStart h')).j∈live.map (·.1)
   refine (mem_place _).mpr ⟨e6 k hk,?_⟩
   apply lK4
   intro z
   refine e6 k hk ?_
   unfold jUa
   rw[lQ3,lQe (by rw[o.size];show mask+1<=_;omega)]
   rfl
end St
end L3
namespace L3
open PySem PySem.Spec PyProof.Rows L2
def TupKept (h h':Heap):Prop:=∀b o,h.get? b=some o->o.cls= .type "tuple"->h'.get? b=some o
section
variable {prog:Program} {w:World} {K:Type} [DecidableEq K] {c:Nat}
def Stab (V:KeyV prog w K c):Prop:=∀ {h h':Heap} {k:K} {v:Value},TupKept h h'->V.is h k v->V.is h' k v
theorem stab_items {V:KeyV prog w K c} (hV:Stab V) {h h':Heap} (kp:TupKept h h') {ks:List K} {vs:List Value} (hi:ItemsV V h ks vs):ItemsV V h' ks vs:=by
 induction hi with
 | nil=>exact .nil
 | cons a _ ih=>exact .cons (hV kp a) ih
theorem stab_tup {V:KeyV prog w K c} (hV:Stab V):Stab (jVr V):=by
 rintro h h' k v kp ⟨a,o,items,n,rfl,ho,hc,hd,hi⟩
 exact⟨a,o,items,n,rfl,kp a o ho hc,hc,hd,stab_items hV kp hi⟩
theorem stab_sum {V:KeyV prog w K c} (hV:Stab V):Stab (sumVK V):=by
 rintro h h' (k | k) v kp hx
 ·exact hx
 ·exact stab_tup hV kp hx
theorem stab_atom:Stab (jZ6 prog w):=fun _ hx=>hx
theorem jUd {h h':Heap} {k:TKey} {a:Addr} (kp:TupKept h h') (hx:(jJg prog w).is h k a):(jJg prog w).is h' k a:=stab_tup (stab_sum (stab_sum stab_atom)) kp hx
theorem TupKept.same {h h':Heap} {a:Addr} {o:Obj} (ho:h.get? a=some o) (hc:o.cls= .type "set") (hs:Heap.SameBut a h h'):TupKept h h':=by
 intro b ob hb hcb
 have ne:b≠a:=by
  rintro rfl
  rw[ho] at hb;cases hb
  rw[hc] at hcb
  exact absurd hcb (by decide)
 exact (hs.2 b ne).trans hb
def HbV (V:KeyV prog w K c) (f:K->Bool):Prop:=∀ {A:Around} {E:Value->Shared->Prop} {s:Shared} {k:K} {v:Value} {Q:Bool->Shared->Prop} (n:Nat),c<=n->f k=true->V.is s.heap k v->Q true s->wpAny (model prog w) A (hashByValue n v) Q E s
noncomputable def intK:Key->Bool
 | .inl _=>true
 | .inr _=>false
noncomputable def intS {α:Type} (f:α->Bool):Key ⊕ List α->Bool
 | .inl k=>intK k
 | .inr ks=>ks.all f
noncomputable def intT:TKey->Bool:=fun ks=>ks.all (intS (intS intK))
theorem hb_atom:HbV (jZ6 prog w) intK:=by
 intro A E s k v Q n _ hk hv h
 rcases jJw (show jYo k v=true from hv) with ⟨i,t,_,rfl⟩ | ⟨i,t,rfl,rfl⟩
 ·cases n<;>exact wpAny_pure h
 ·cases hk
theorem hb_tup {V:KeyV prog w K c} {f:K->Bool} (hV:HbV V f):HbV (jVr V) (fun ks=>ks.all f):=by
 rintro A E s ks v Q n hn hf ⟨a,o,items,m,rfl,ho,hc,hd,hi⟩ h
 obtain⟨n,rfl⟩:∃nn,n=nn+1:=⟨n-1,by omega⟩
 have hT:s.TypeIs (.ref a) "tuple":=⟨o,ho,hc⟩
 unfold hashByValue
 (refine wpAny_bind (wpAny_specialOf hT F.slot_tuple_hash.lookup ?_))
 refine (show wpAny _ _ (seqItems? (.ref a) >>= _) _ _ s from ?_)
 refine wpAny_bind (wpAny_seqItems ho hd (wpAny_bind ?_))
 refine (show wpAny _ _ (forIn items _ _) _ _ s from ?_)
 rw[<-Array.forIn_toList]
 refine wpAny_forIn_list _ (fun rest r z=>r.1=none/\z=s/\∃left,left.all f=true/\ItemsV V s.heap left rest) _ ?_ ?_ _ _ ⟨rfl,rfl,ks,hf,hi⟩
 ·rintro x rest r z ⟨hr,rfl,left,hfl,hl⟩
  cases hl with
  | cons h1 hl'=>
   rw[lKw,lKe] at hfl
   refine wpAny_bind (hV n (by omega) hfl.1 h1 ?_)
   simp only[if_false,Bool.not_true,lKa]
   exact wpAny_pure ⟨rfl,rfl,_,hfl.2,hl'⟩
 ·rintro⟨r1,r2⟩ z ⟨hr,rfl,_⟩
  simp only at hr;subst hr
  exact wpAny_pure h
theorem hb_sum {V:KeyV prog w K c} {f:K->Bool} (hV:HbV V f):HbV (sumVK V) (intS f):=by
 rintro A E s (k | k) v Q n hn hf hx h
 ·exact hb_atom n (lJt _) hf hx h
 ·exact hb_tup hV n hn hf hx h
theorem hb_tree {A:Around} {E:Value->Shared->Prop} {s:Shared} {k:TKey} {a:Addr} {Q:Bool->Shared->Prop} (hf:intT k=true) (hx:(jJg prog w).is s.heap k a) (h:Q true s):wpAny (model prog w) A (hashByValue 8 (.ref a)) Q E s:=
 hb_tup (hb_sum (hb_sum hb_atom)) 8 (by decide) hf hx h
def OcV (V:KeyV prog w K c):Prop:=∀ {A:Around} {E:Value->Shared->Prop} {s:Shared} {k:K} {v:Value} {Q:Bool->Shared->Prop} (n:Nat),c<=n->V.is s.heap k v->Q false s->wpAny (model prog w) A (ofAClassStatement n v) Q E s
theorem oc_atom:OcV (jZ6 prog w):=by
 intro A E s k v Q n _ hv h
 rcases jJw (show jYo k v=true from hv) with ⟨i,t,_,rfl⟩ | ⟨i,t,rfl,rfl⟩<;>(cases n<;>exact wpAny_pure h)
theorem oc_tup {V:KeyV prog w K c} (hV:OcV V):OcV (jVr V):=by
 rintro A E s ks v Q n hn ⟨a,o,items,m,rfl,ho,hc,hd,hi⟩ h
 obtain⟨n,rfl⟩:∃nn,n=nn+1:=⟨n-1,by omega⟩
 have hT:s.TypeIs (.ref a) "tuple":=⟨o,ho,hc⟩
 unfold ofAClassStatement
 (refine wpAny_bind (wpAny_typeOf hT ?_))
 dsimp only
 rw[if_pos (by decide)]
 refine wpAny_bind (wpAny_pure ?_)
 rw[if_neg (by decide)]
 refine wpAny_bind (wpAny_seqItems ho hd (wpAny_bind ?_))
 rw[<-Array.forIn_toList]
 refine wpAny_forIn_list _ (fun rest r z=>r.1=none/\z=s/\∃left,ItemsV V s.heap left rest) _ ?_ ?_ _ _ ⟨rfl,rfl,ks,hi⟩
 ·rintro x rest r z ⟨hr,rfl,left,hl⟩
  cases hl with
  | cons h1 hl'=>
   refine wpAny_bind (hV n (by omega) h1 ?_)
   rw[if_neg (by decide)]
   exact wpAny_pure ⟨rfl,rfl,_,hl'⟩
 ·rintro⟨r1,r2⟩ z ⟨hr,rfl,_⟩
  simp only at hr;subst hr
  exact wpAny_pure h
theorem oc_sum {V:KeyV prog w K c} (hV:OcV V):OcV (sumVK V):=by
 rintro A E s (k | k) v Q n hn hx h
 ·exact oc_atom n (lJt _) hx h
 ·exact oc_tup hV n hn hx h
theorem oc_tree {A:Around} {E:Value->Shared->Prop} {s:Shared} {k:TKey} {a:Addr} {Q:Bool->Shared->Prop} (hx:(jJg prog w).is s.heap k a) (h:Q false s):wpAny (model prog w) A (ofAClassStatement 8 (.ref a)) Q E s:=
 oc_tup (oc_sum (oc_sum oc_atom)) 8 (by decide) hx h
theorem unseen {A:Around} {E:Value->Shared->Prop} {s:Shared} {k:TKey} {a:Addr} {Q:Bool->Shared->Prop} (hx:(jJg prog w).is s.heap k a) {ys:List Value} (hy:∀y,y∈ys->∃k' b,y= .ref b/\(jJg prog w).is s.heap k' b) (h:Q false s):wpAny (model prog w) A (searchCouldBeSeen (.ref a) ys) Q E s:=by
 unfold searchCouldBeSeen
 refine wpAny_bind ?_
 refine wpAny_forIn_list _ (fun rest r z=>r.1=none/\z=s/\∀y,y∈rest->∃k' b,y= .ref b/\(jJg prog w).is s.heap k' b) _ ?_ ?_ _ _ ⟨rfl,rfl,hy⟩
 ·rintro x rest r z ⟨hr,rfl,hl⟩
  obtain⟨k',b,rfl,hb⟩:=hl x (lJq ..)
  have hl':=fun y hy=>hl y (lJs _ hy)
  dsimp only
  split
  ·exact wpAny_pure ⟨rfl,rfl,hl'⟩
  ·refine wpAny_bind ((jJg prog w).quiet hx ?_)
   rw[if_neg (by decide)]
   refine wpAny_bind ((jJg prog w).quiet hb ?_)
   rw[if_neg (by decide)]
   refine wpAny_bind (oc_tree hx ?_)
   rw[if_neg (by decide)]
   refine wpAny_bind (oc_tree hb ?_)
   rw[if_neg (by decide)]
   exact wpAny_pure ⟨rfl,rfl,hl'⟩
 ·rintro⟨r1,r2⟩ z ⟨hr,rfl,_⟩
  simp only at hr;subst hr
  exact wpAny_pure h
end
section
variable {prog:Program} {w:World} {A:Around} {E:Value->Shared->Prop} {s:Shared}
noncomputable def entS (prog:Program) (w:World) (e:TKey×Addr):Int×Value:=((jJg prog w).hash e.1,.ref e.2)
noncomputable def hashes (prog:Program) (w:World) (es:List (TKey×Addr)):List Int:=es.map fun e=>(jJg prog w).hash e.1
def MaskOk (mask n:Nat):Prop:=(mask=7/\n<=4)\/(mask=31/\n<=18)\/(mask=127/\n<=76)
theorem MaskOk.full {mask n:Nat} (h:MaskOk mask n):St.Full mask/\n<=mask/\mask%2=1:=by
 rcases h with ⟨rfl,h⟩ | ⟨rfl,h⟩ | ⟨rfl,h⟩
 ·exact⟨St.full7,by omega,rfl⟩
 ·exact⟨St.full31,by omega,rfl⟩
 ·exact⟨St.full127,by omega,rfl⟩
theorem probe_swap {t:SetTable} {f g:Nat->Int} {h:Int} {p:SetTable.Probe} (e:∀i,f i=g i):t.probe f h p=t.probe g h p:=by rw[funext e]
structure SetD (prog:Program) (w:World) (h:Heap) (a:Addr) (o:Obj) (arr:Array (Int×Value)) (ep:Nat) (t:SetTable) (es:List (TKey×Addr)):Prop where
 get:h.get? a=some o
 exact_:o.ExactSet
 data:o.data= .set arr ep t
 arr_:arr.toList=es.map (entS prog w)
 are:∀e,e∈es->(jJg prog w).is h e.1 e.2
 good:St.Good t (hashes prog w es)
 mask:MaskOk t.mask es.length
 plain:t.plain=true
theorem SetD.size {h:Heap} {a:Addr} {o:Obj} {arr:Array (Int×Value)} {ep:Nat} {t:SetTable} {es:List (TKey×Addr)} (d:SetD prog w h a o arr ep t es):arr.size=es.length:=by
 rw[<-lJ7,d.arr_,lJc]
theorem SetD.fits {h:Heap} {a:Addr} {o:Obj} {arr:Array (Int×Value)} {ep:Nat} {t:SetTable} {es:List (TKey×Addr)} (d:SetD prog w h a o arr ep t es):t.fits arr.size=true:=by
 have l:=d.good.len
 unfold hashes at l
 rw[lJc] at l
 obtain⟨_,hm,_⟩:=d.mask.full
 simp only[SetTable.fits,SetTable.fill,d.good.dum,l,d.size,lKe,beq_iff_eq,decide_eq_true_eq]
 exact⟨trivial,by simpa using hm⟩
theorem SetD.state {a:Addr} {o:Obj} {arr:Array (Int×Value)} {ep:Nat} {t:SetTable} {es:List (TKey×Addr)} (d:SetD prog w s.heap a o arr ep t es) {Q:(Array (Int×Value)×Nat×SetTable)->Shared->Prop} (h:Q (arr,ep,t) s):wpAny (model prog w) A (setState a) Q E s:=
 wpAny_setState_of d.get d.data d.fits h
theorem SetD.at {h:Heap} {a:Addr} {o:Obj} {arr:Array (Int×Value)} {ep:Nat} {t:SetTable} {es:List (TKey×Addr)} (d:SetD prog w h a o arr ep t es) {i:Nat} (hi:i<t.place.size):∃e,es[i]? =some e/\arr[i]? =some (entS prog w e):=by
 have l:=d.good.len
 unfold hashes at l
 rw[lJc] at l
 have hi':i<es.length:=by omega
 refine⟨es[i],lJa hi',?_⟩
 rw[<-lK7,d.arr_,lJe,lJa hi']
 rfl
def Ahead (t:SetTable) (es:List (TKey×Addr)) (k:TKey) (p:SetTable.Probe):Prop:=∃n i b,t.slot (itr t.advance n p).j= .live i/\es[i]? =some (k,b)/\∀m,m<n->t.slot (itr t.advance m p).j≠ .empty
theorem search_ok {a:Addr} {o:Obj} {arr:Array (Int×Value)} {ep:Nat} {t:SetTable} {es:List (TKey×Addr)} (d:SetD prog w s.heap a o arr ep t es) {k:TKey} {b:Addr} (hk:(jJg prog w).is s.heap k b) (hu:(jJg prog w).room A) {Q:SetFound->Shared->Prop}
  (h1:∀j,t.slot j= .empty->k∉es.map (·.1)->St.Chain t ((jJg prog w).hash k) j->Q (.free j false) s) (h2:k∈es.map (·.1)->Q (.there none) s):∀(n fuel:Nat) (stand:Option SetTable.Probe) (p:SetTable.Probe),stand.getD (t.probeStart ((jJg prog w).hash k))=p->p.dummy=none->t.slot (itr t.advance n p).j= .empty->n<10*SetTable.turns t.mask->n<fuel->
  (k∈es.map (·.1)->Ahead t es k p)->(∃n0,p=itr t.advance n0 (t.probeStart ((jJg prog w).hash k))/\∀m,m<n0->(itr t.advance m (t.probeStart ((jJg prog w).hash k))).j∈t.place.toList)->
  wpAny (model prog w) A (setSearchFrom a (.ref b) ((jJg prog w).hash k) true fuel stand) Q E s:=by
 intro n
 induction n using Nat.strongRecOn with
 | ind n ih=>
 intro fuel stand p hp hdm he hn hfu hA hC
 obtain⟨fuel,rfl⟩:∃f,fuel=f+1:=⟨fuel-1,by omega⟩
 unfold setSearchFrom
 refine wpAny_bind (d.state ?_)
 dsimp only
 have gw:t.gaveWay=false:=by
  unfold SetTable.gaveWay
  rw[d.mask.full.2.2];rfl
 rw[gw,if_neg (by decide),hp]
 rw[probe_swap (g:=fun i=>((arr[i]?).map (·.1)).getD 0) ?hsw]
 case hsw=>exact fun i=>rfl
 have hash_at:∀(i:Nat) (k':TKey) (b':Addr),es[i]? =some (k',b')->((arr[i]?).map (·.1)).getD 0=(jJg prog w).hash k':=by
  intro i k' b' e
  have:arr[i]? =some (entS prog w (k',b')):=by rw[<-lK7,d.arr_,lJe,e];rfl
  rw[this];rfl
 have onway:∀m,(∀q,q<m->St.Miss t (fun i=>((arr[i]?).map (·.1)).getD 0) ((jJg prog w).hash k) (itr t.advance q p).j)->∀q,q<m->(itr t.advance q p).j∈t.place.toList:=by
  intro m hm q hq
  obtain⟨i,hi,_⟩:=hm q hq
  rcases St.slot_cases d.good.dum (itr t.advance q p).j with c | ⟨i',c,hi',e,_⟩
  ·rw[c.1] at hi;cases hi
  ·rw[<-e];simp
 have way:∀m,(∀q,q<m->(itr t.advance q p).j∈t.place.toList)->∃n0,itr t.advance m p=itr t.advance n0 (t.probeStart ((jJg prog w).hash k))/\∀q,q<n0->(itr t.advance q (t.probeStart ((jJg prog w).hash k))).j∈t.place.toList:=by
  intro m hm
  obtain⟨n0,e0,c0⟩:=hC
  refine⟨n0+m,by rw[jQt,e0],fun q hq=> ?_⟩
  by_cases c:q<n0
  ·exact c0 q c
  ·have:=hm (q-n0) (by omega)
   rw[e0,<-jQt,show n0+(q-n0)=q by omega] at this
   exact this
 have ahead:∀m,(∀q,q<m->St.Miss t (fun i=>((arr[i]?).map (·.1)).getD 0) ((jJg prog w).hash k) (itr t.advance q p).j)->∀ {n' i:Nat} {b':Addr},t.slot (itr t.advance n' p).j= .live i->es[i]? =some (k,b')->m<=n':=by
  intro m hm n' i b' hs hi
  apply lK4
  intro z
  obtain⟨i',q1,q2⟩:=hm n' (by omega)
  rw[hs] at q1;cases q1
  exact q2 (hash_at _ _ _ hi)
 rcases St.pgo_ok d.good.dum (fun i=>((arr[i]?).map (·.1)).getD 0) ((jJg prog w).hash k) n (10*SetTable.turns t.mask) p he hn hdm with ⟨m,hm,e1,e2,e3⟩ | ⟨m,i,hm,e1,e2,e3,e4⟩
 ·rw[show t.probe (fun i=>((arr[i]?).map (·.1)).getD 0) ((jJg prog w).hash k) p=_ from e3]
  dsimp only
  refine wpAny_pure (h1 _ e1 (fun z=> ?_) ?_)
  ·obtain⟨n',i,b',q1,q2,q3⟩:=hA z
   have:=ahead m e2 q1 q2
   by_cases c:m=n'
   ·subst c;rw[e1] at q1;cases q1
   ·exact q3 m (by omega) e1
  ·obtain⟨n0,w1,w2⟩:=way m (onway m e2)
   exact⟨n0,by rw[w1],w2⟩
 ·rw[show t.probe (fun i=>((arr[i]?).map (·.1)).getD 0) ((jJg prog w).hash k) p=_ from e4]
  dsimp only
  have hi:i<t.place.size/\t.place.toList[i]? =some (itr t.advance m p).j:=by
   rcases St.slot_cases d.good.dum (itr t.advance m p).j with c | ⟨i',c,hi',e,_⟩
   ·rw[c.1] at e1;cases e1
   ·rw[c] at e1;cases e1
    exact⟨hi',by simp[hi',e]⟩
  obtain⟨⟨k',b'⟩,ee,ea⟩:=d.at hi.1
  have hk':(jJg prog w).is s.heap k' b':=d.are _ (lJf ee)
  have rest:∀(R:Unit->Shared->Prop),R () s->True:=fun _ _=>trivial
  have go:wpAny (model prog w) A (do
    let some (_,y):=arr[i]? | unsupported "internal:set-entry"
    let equal <-holding [y] (eqBool y (.ref b))
    let (es',_,t') <-setState a
    if true&&equal then return .there none
    let some same:=(t'.sameMemory t.moves t.mask) | unsupported "set.changed-during-lookup:is-the-new-block-at-the-old-address"
    let still <-match (if same then t'.slot (itr t.advance m p).j else .empty) with
     | .live i'=>match (es'[i']?) with
      | some (_,y')=>do pure (if (<-isSame y' y) then some i' else none)
      | none=>pure none
     | _=>pure none
    match still with
    | none=>rule "set.search.anew"; setSearchFrom a (.ref b) ((jJg prog w).hash k) true fuel none
    | some i'=>if equal then return .there (some i') else setSearchFrom a (.ref b) ((jJg prog w).hash k) true fuel (some (itr t.advance (m+1) p))) Q E s:=by
   rw[ea]
   dsimp only[entS]
   refine wpAny_bind (wpAny_holding ((jJg prog w).eqBool hu hk' hk ?_))
   refine wpAny_bind (d.state ?_)
   dsimp only
   by_cases eq:k'=k
   ·subst eq
    rw[if_pos (by simp)]
    exact wpAny_pure (h2 (lJg.mpr ⟨_,lJf ee,rfl⟩))
   ·rw[if_neg (by simp[eq])]
    rw[show t.sameMemory t.moves t.mask=some true by simp[SetTable.sameMemory]]
    dsimp only
    rw[if_pos rfl,e1]
    dsimp only
    rw[ea]
    dsimp only[entS]
    refine wpAny_bind (wpAny_isSame_ref_self (wpAny_bind (wpAny_pure ?_)))
    rw[if_pos rfl]
    dsimp only
    rw[if_neg (by simp[eq])]
    have ne:∀ {n' i' b''},t.slot (itr t.advance n' p).j= .live i'->es[i']? =some (k,b'')->m+1<=n':=by
     intro n' i' b'' q1 q2
     have:=ahead m e3 q1 q2
     by_cases c:m=n'
     ·subst c
      rw[e1] at q1;cases q1
      rw[ee] at q2
      exact absurd (Prod.mk.inj (lJr q2)).1 eq
     ·omega
    refine ih (n-(m+1)) (by omega) fuel (some (itr t.advance (m+1) p)) (itr t.advance (m+1) p) rfl ?_ ?_ (by omega) (by omega) ?_ ?_
    ·have dm:∀q,(itr t.advance q p).dummy=none:=by
      intro q
      induction q with
      | zero=>exact hdm
      | succ q ihq=>rw[jZe,St.adv_dummy];exact ihq
     exact dm _
    ·rw[<-jQt,show m+1+(n-(m+1))=n by omega];exact he
    ·intro z
     obtain⟨n',i',b'',q1,q2,q3⟩:=hA z
     have:=ne q1 q2
     refine⟨n'-(m+1),i',b'',?_,q2,fun q hq=> ?_⟩
     ·rw[<-jQt,show m+1+(n'-(m+1))=n' by omega];exact q1
     ·rw[<-jQt];exact q3 _ (by omega)
    ·refine way (m+1) fun q hq=> ?_
     by_cases c:q<m
     ·exact onway m e3 q c
     ·have:q=m:=by omega
      subst this
      exact lJf hi.2
  split
  ·refine wpAny_bind (unseen hk ?_ ?_)
   ·intro y hy
    obtain⟨x,hx,rfl⟩:=lJg.mp hy
    have hx':x∈arr.toList:=by
     have:=(Array.mem_filter.mp (Array.mem_toList_iff.mp hx)).1
     exact Array.mem_toList_iff.mpr this
    rw[d.arr_] at hx'
    obtain⟨e,he',rfl⟩:=lJg.mp hx'
    exact⟨e.1,e.2,rfl,d.are e he'⟩
   ·rw[if_neg (by decide)]
    exact go
  ·exact go
theorem SetD.chain {h:Heap} {a:Addr} {o:Obj} {arr:Array (Int×Value)} {ep:Nat} {t:SetTable} {es:List (TKey×Addr)} (d:SetD prog w h a o arr ep t es) {k:TKey} (hk:k∈es.map (·.1)):Ahead t es k (t.probeStart ((jJg prog w).hash k)):=by
 obtain⟨⟨k',b⟩,he,e⟩:=lJg.mp hk
 cases (show k'=k from e)
 obtain⟨i,hi,ei⟩:=lK6 he
 have l:=d.good.len
 unfold hashes at l
 rw[lJc] at l
 have hp:i<t.place.size:=by omega
 have hz:(t.place[i],(jJg prog w).hash k)∈t.place.toList.zip (hashes prog w es):=by
  refine lJf (i:=i) ?_
  unfold hashes
  simp[lQ1,hp,hi,ei]
 obtain⟨n,h1,h2⟩:=d.good.chain _ hz
 refine⟨n,i,b,?_,by rw[lJa hi,ei],fun m hm=> ?_⟩
 ·rw[h1];exact St.slot_live d.good.ris hp
 ·obtain⟨q,hq,e⟩:=lK6 (h2 m hm)
  have hq':q<t.place.size:=by simpa using hq
  have e':t.place[q]=(itr t.advance m (t.probeStart ((jJg prog w).hash k))).j:=by simpa using e
  rw[<-e',St.slot_live d.good.ris hq']
  simp
theorem free_j {t:SetTable} (hd:t.dummies= #[]) (hn:t.place.size<=t.mask):∃j,j<=t.mask/\t.slot j= .empty:=by
 have:∃j,j<=t.mask/\j∉t.place.toList:=by
  apply lK4
  intro q
  have sub:(List.range (t.mask+1)) ⊆ t.place.toList:=by
   intro j hj
   apply lK4
   intro z
   exact q ⟨j,by have:=lJn.mp hj;omega,z⟩
  have:=lQf.length_le_of_subset sub
  simp at this
  omega
 obtain⟨j,h1,h2⟩:=this
 exact⟨j,h1,St.slot_empty hd h2⟩
theorem search_all {a:Addr} {o:Obj} {arr:Array (Int×Value)} {ep:Nat} {t:SetTable} {es:List (TKey×Addr)} (d:SetD prog w s.heap a o arr ep t es) {k:TKey} {b:Addr} (hk:(jJg prog w).is s.heap k b) (hu:(jJg prog w).room A) {Q:SetFound->Shared->Prop}
  (h1:∀j,t.slot j= .empty->k∉es.map (·.1)->St.Chain t ((jJg prog w).hash k) j->Q (.free j false) s) (h2:k∈es.map (·.1)->Q (.there none) s):wpAny (model prog w) A (setSearch a (.ref b) ((jJg prog w).hash k) true) Q E s:=by
 have l:=d.good.len
 unfold hashes at l
 rw[lJc] at l
 obtain⟨hf,hm,_⟩:=d.mask.full
 obtain⟨j,hj,ej⟩:=free_j (t:=t) d.good.dum (by omega)
 obtain⟨n,hn,en⟩:=St.met hf ((jJg prog w).hash k) hj
 have hm127:t.mask<=127:=by rcases d.mask with ⟨e,_⟩ | ⟨e,_⟩ | ⟨e,_⟩<;>omega
 unfold setSearch
 refine search_ok d hk hu h1 h2 n 100000 none (t.probeStart ((jJg prog w).hash k)) rfl rfl (by rw[en];exact ej) (by unfold SetTable.turns;omega) (by omega) d.chain ⟨0,rfl,fun m hm=>absurd hm (lJ0 _)⟩
end
end L3
namespace L3
open PySem PySem.Spec PyProof.Rows L2
section
variable {prog:Program} {w:World} {A:Around} {E:Value->Shared->Prop} {s:Shared}
theorem kQv {t t':SetTable} (hm:t'.mask=t.mask) (hp:∀j,j∈t.place.toList->j∈t'.place.toList) {h:Int} {j:Nat} (c:St.Chain t h j):St.Chain t' h j:=by
 obtain⟨n,h1,h2⟩:=c
 have ea:t'.advance=t.advance:=by funext p;unfold SetTable.advance;rw[hm]
 have eb:t'.probeStart h=t.probeStart h:=by unfold SetTable.probeStart;rw[hm]
 refine⟨n,by rw[ea,eb];exact h1,fun k hk=> ?_⟩
 rw[ea,eb]
 exact hp _ (h2 k hk)
theorem zipE {α β:Type} {xs:List α} {ys:List β} (hl:xs.length=ys.length) (p:Nat) {x:α} {y:β} {z:α×β} (h:z∈(xs.take p++x::xs.drop p).zip (ys.take p++y::ys.drop p)):z∈xs.zip ys\/z=(x,y):=by
 rw[List.zip_append (by simp[hl]),lQk] at h
 have e1:(xs.take p).zip (ys.take p)=(xs.zip ys).take p:=by rw[List.zip_eq_zipWith,List.zip_eq_zipWith,List.take_zipWith]
 have e2:(xs.drop p).zip (ys.drop p)=(xs.zip ys).drop p:=by rw[List.zip_eq_zipWith,List.zip_eq_zipWith,List.drop_zipWith]
 rw[e1,e2] at h
 (rcases lJ4.mp h with h | h)
 ·exact .inl (List.mem_of_mem_take h)
 ·rcases (lJi.mp h) with h | h
  ·exact .inr h
  ·exact .inl (List.mem_of_mem_drop h)
theorem good_put {t:SetTable} {hs:List Int} (g:St.Good t hs) {j:Nat} {h:Int} (he:t.slot j= .empty) (hc:St.Chain t h j):St.Good (t.put j).1 (hs.take (t.put j).2++h::hs.drop (t.put j).2):=by
 have hj:j∉t.place.toList:=by
  rcases St.slot_cases g.dum j with c | ⟨i,c,_⟩
  ·exact c.2 g.ris
  ·rw[c] at he;cases he
 have ep:(t.put j).1.place=SetTable.insertAt t.place (SetTable.below t.place j) j:=rfl
 have mem:∀q,q∈t.place.toList->q∈(t.put j).1.place.toList:=by
  intro q hq
  rw[ep,SetTable.toList_insertAt]
  rw[<-List.take_append_drop (SetTable.below t.place j) t.place.toList] at hq
  rcases (lJ4.mp hq) with z | z
  ·(exact lKp _ z)
  ·exact lKc _ (lJs _ z)
 have hl:=g.len
 refine⟨?_,?_,?_,?_⟩
 ·rw[ep,<-lJ7,SetTable.toList_insertAt]
  show _=(hs.take (SetTable.below t.place j)++h::hs.drop (SetTable.below t.place j)).length
  simp[hl]
 ·rw[ep];exact St.insertAt_ris g.ris hj
 ·show (if SetTable.has t.dummies j=true then _ else t.dummies)= #[]
  rw[g.dum,St.has_nil];rfl
 ·intro x hx
  rw[ep,SetTable.toList_insertAt] at hx
  rcases zipE (by simpa using hl) _ hx with z | rfl
  ·exact kQv (t:=t) (t':=(t.put j).1) rfl mem (g.chain x z)
  ·exact kQv (t:=t) (t':=(t.put j).1) rfl mem hc
noncomputable def putE (p:Nat) (e:TKey×Addr) (es:List (TKey×Addr)):List (TKey×Addr):=es.take p++e::es.drop p
theorem jY4 (p:Nat) (e:TKey×Addr) (es:List (TKey×Addr)):(putE p e es).Perm (e::es):=by
 unfold putE
 refine List.perm_middle.trans ?_
 rw[List.take_append_drop]
theorem put_obj {h:Heap} {a:Addr} {o:Obj} {arr:Array (Int×Value)} {ep:Nat} {t:SetTable} (ho:h.get? a=some o) (hd:o.data= .set arr ep t) (arr':Array (Int×Value)) (t':SetTable):
  (h.update a (Obj.putSet arr' t')).get? a=some {o with data:= .set arr' (ep+1) t'}:=by
 have:=Heap.get?_update_self (Obj.putSet arr' t') ho (by rw[putSet_of arr' t' hd];rfl)
 rw[putSet_of arr' t' hd] at this;exact this
theorem kQi {α:Type} {l:List Nat} {xs:List α} (hp:l.Perm (List.range xs.length)):(l.filterMap (xs[·]?)).Perm xs:=by
 have:=hp.filterMap (fun i=>xs[i]?)
 rw[List.filterMap_getElem?_range_length] at this
 exact this
theorem jZb {α β:Type} (f:α->β) (xs:List α):∀l:List Nat,(l.filterMap (xs[·]?)).map f=l.filterMap ((xs.map f)[·]?)
 | []=>rfl
 | a::l=>by
  rw[lK8,lK8,lJe]
  cases xs[a]? with
  | none=>exact jZb f xs l
  | some x=>rw[lJh,jZb f xs l];rfl
theorem relay_ok {a:Addr} {o:Obj} {arr:Array (Int×Value)} {ep:Nat} {t:SetTable} {es:List (TKey×Addr)} (ho:s.heap.get? a=some o) (hex:o.ExactSet) (hd:o.data= .set arr ep t) (harr:arr.toList=es.map (entS prog w)) (are:∀e,e∈es->(jJg prog w).is s.heap e.1 e.2) (hf:t.fits arr.size=true) (hpl:t.plain=true) {wanted mask:Nat} (hw:SetTable.sizeAbove wanted-1=mask) (hl:SetTable.sizeAbove wanted<=sizeLine) (hM:MaskOk mask es.length) {Q:Unit->Shared->Prop}
  (h:∀h' o' arr' ep' t' es',Heap.SameBut a s.heap h'->es'.Perm es->t'.led=t.led->SetD prog w h' a o' arr' ep' t' es'->Q () {s with heap:=h'}):wpAny (model prog w) A (setRelay a wanted) Q E s:=by
 have hsz:arr.size=es.length:=by rw[<-lJ7,harr,lJc]
 obtain⟨hfull,hle,_⟩:=hM.full
 obtain⟨t',order,e1,e2,e3,e4,e5,e6⟩:=St.laid_ok hfull t.finger (t.movedTo mask) t.led t.plain (arr.map (·.1)) (by rw[Array.size_map,hsz];exact hle)
 have e1':t.relaid (arr.map (·.1)) wanted=some (t',order):=by unfold SetTable.relaid;rw[hw];exact e1
 have hash_:(arr.map (·.1)).toList=hashes prog w es:=by
  rw[Array.toList_map,harr,lJj];rfl
 have po:order.toList.Perm (List.range es.length):=by
  have:=e5
  rw[Array.size_map,hsz] at this
  exact this
 have em:(order.filterMap (arr[·]?)).toList=(order.toList.filterMap (es[·]?)).map (entS prog w):=by
  rw[Array.toList_filterMap,jZb,<-harr]
  exact St.fm_congr fun x _=>by rw[lK7]
 have pe:(order.toList.filterMap (es[·]?)).Perm es:=kQi po
 have sz2:(order.filterMap (arr[·]?)).size=es.length:=by rw[<-lJ7,em,lJc,pe.length_eq]
 unfold setRelay
 (refine wpAny_bind (wpAny_setState_of ho hd hf ?_))
 dsimp only
 rw[if_neg (Nat.not_lt.mpr hl)]
 refine wpAny_bind ?_
 refine (show wpAny (model prog w) A (do
  let some (t,order):=t.relaid (arr.map (·.1)) wanted | unsupported "internal:set-table-without-room"
  let es':=order.filterMap (arr[·]?)
  if es'.size != arr.size then unsupported "internal:set-table-lost-an-element"
  pure (es',t)) _ _ _ from ?_)
 rw[e1']
 dsimp only
 rw[if_neg (by rw[sz2,hsz];simp)]
 refine wpAny_pure ?_
 dsimp only
 refine wpAny_storeSet_of ho hd ?_ (by rw[sz2,<-hsz,sizeLine_eq];have:=hM;rcases hM with ⟨_,z⟩ | ⟨_,z⟩ | ⟨_,z⟩<;>omega)
 have sb:=Heap.SameBut.update s.heap a (Obj.putSet (order.filterMap (arr[·]?)) t')
 have kp:TupKept s.heap _:=TupKept.same ho hex.1 sb
 refine h _ _ _ _ t' (order.toList.filterMap (es[·]?)) sb pe e3 ⟨put_obj ho hd _ _,hex,rfl,em,fun e he=>jUd kp (are e (pe.mem_iff.mp he)),?_,?_,e4.trans hpl⟩
 ·have:=e6
  have e7:order.toList.filterMap ((arr.map (·.1))[·]?)=hashes prog w (order.toList.filterMap (es[·]?)):=by
   unfold hashes
   rw[jZb]
   refine St.fm_congr fun x _=> ?_
   rw[<-lK7,hash_];rfl
  rw[e7] at this
  exact this
 ·rw[pe.length_eq,e2];exact hM
theorem add_ok {a:Addr} {o:Obj} {arr:Array (Int×Value)} {ep:Nat} {t:SetTable} {es:List (TKey×Addr)} (d:SetD prog w s.heap a o arr ep t es) {k:TKey} {b:Addr} (hk:(jJg prog w).is s.heap k b) (hi:intT k=true) (hu:(jJg prog w).room A) (hn:es.length<64) {Q:Bool->Shared->Prop}
  (h1:k∈es.map (·.1)->Q false s)
  (h2:k∉es.map (·.1)->∀h' o' arr' ep' t' es',Heap.SameBut a s.heap h'->es'.Perm ((k,b)::es)->t'.led=t.led->SetD prog w h' a o' arr' ep' t' es'->Q true {s with heap:=h'}):
  wpAny (model prog w) A (setAddHashed a (.ref b) ((jJg prog w).hash k)) Q E s:=by
 unfold setAddHashed
 refine wpAny_holding ?_
 unfold setAddHashedIn
 refine wpAny_bind (d.state ?_)
 dsimp only
 rw[show byScan (.ref b) arr=false from rfl,if_neg (by decide)]
 refine wpAny_bind (search_all d hk hu (fun j hj hnk hc=> ?_) fun z=>wpAny_pure (h1 z))
 dsimp only
 refine wpAny_bind (d.state ?_)
 dsimp only
 have hpl:(t.put j).1.plain=true:=d.plain
 rw[if_pos hpl]
 refine wpAny_bind (hb_tree hi hk ?_)
 simp only[↓reduceIte]
 have hsz:=d.size
 have hlen:t.place.size=es.length:=by have l:=d.good.len;unfold hashes at l;rw[lJc] at l;exact l
 have g1:St.Good (t.put j).1 (hashes prog w (putE (t.put j).2 (k,b) es)):=by
  have:=good_put d.good hj hc
  unfold hashes putE
  rw[lKg,lJh,List.map_take,List.map_drop]
  exact this
 have ae:(SetTable.insertAt arr (t.put j).2 ((jJg prog w).hash k,Value.ref b)).toList=(putE (t.put j).2 (k,b) es).map (entS prog w):=by
  rw[SetTable.toList_insertAt,d.arr_]
  unfold putE
  rw[lKg,lJh,List.map_take,List.map_drop]
  rfl
 have pl:=(jY4 (t.put j).2 (k,b) es).length_eq
 rw[lJy] at pl
 have asz:(SetTable.insertAt arr (t.put j).2 ((jJg prog w).hash k,Value.ref b)).size=es.length+1:=by
  rw[<-lJ7,ae,lJc,pl]
 refine wpAny_bind (wpAny_storeSet_of d.get d.data ?_ (by rw[asz,sizeLine_eq];omega))
 have sb1:=Heap.SameBut.update s.heap a (Obj.putSet (SetTable.insertAt arr (t.put j).2 ((jJg prog w).hash k,Value.ref b)) (t.put j).1)
 have kp1:TupKept s.heap _:=TupKept.same d.get d.exact_.1 sb1
 have ob1:=put_obj d.get d.data (SetTable.insertAt arr (t.put j).2 ((jJg prog w).hash k,Value.ref b)) (t.put j).1
 have are1:∀e,e∈putE (t.put j).2 (k,b) es->(jJg prog w).is (s.heap.update a (Obj.putSet (SetTable.insertAt arr (t.put j).2 ((jJg prog w).hash k,Value.ref b)) (t.put j).1)) e.1 e.2:=by
  intro e he
  rcases lJi.mp ((jY4 _ _ _).mem_iff.mp he) with rfl | he
  ·exact jUd kp1 hk
  ·exact jUd kp1 (d.are e he)
 have fl:(t.put j).1.fill=es.length+1:=by
  have l:=g1.len
  unfold hashes at l
  rw[lJc,pl] at l
  unfold SetTable.fill
  rw[g1.dum,l];rfl
 have mk:(t.put j).1.mask=t.mask:=rfl
 by_cases full:(t.put j).1.tooFull=true
 ·rw[full]
  simp only[Bool.not_false,Bool.and_self,↓reduceIte]
  have full':(es.length+1)*5>=t.mask*3:=by
   unfold SetTable.tooFull at full
   rw[fl,mk] at full
   exact of_decide_eq_true full
  have w1:SetTable.sizeAbove (SetTable.grown (arr.size+1))<=sizeLine/\MaskOk (SetTable.sizeAbove (SetTable.grown (arr.size+1))-1) (putE (t.put j).2 (k,b) es).length:=by
   rw[pl,hsz]
   rcases d.mask with ⟨e,z⟩ | ⟨e,z⟩ | ⟨e,z⟩
   ·have:es.length=4:=by omega
    rw[this];exact⟨by rw[sizeLine_eq];decide,.inr (.inl ⟨by decide,by omega⟩)⟩
   ·have:es.length=18:=by omega
    rw[this];exact⟨by rw[sizeLine_eq];decide,.inr (.inr ⟨by decide,by omega⟩)⟩
   ·omega
  have ft:(t.put j).1.fits (SetTable.insertAt arr (t.put j).2 ((jJg prog w).hash k,Value.ref b)).size=true:=by
   have l:=g1.len
   unfold hashes at l
   rw[lJc,pl] at l
   simp only[SetTable.fits,lKe,beq_iff_eq,decide_eq_true_eq]
   refine⟨by rw[asz];exact l,?_⟩
   rw[fl,mk]
   rcases d.mask with ⟨e,z⟩ | ⟨e,z⟩ | ⟨e,z⟩<;>omega
  refine wpAny_bind (relay_ok (s:={s with heap:=s.heap.update a (Obj.putSet (SetTable.insertAt arr (t.put j).2 ((jJg prog w).hash k,Value.ref b)) (t.put j).1)}) ob1 d.exact_ rfl ae are1 ft hpl rfl w1.1 w1.2 fun h' o' arr' ep' t' es' sb2 pe el d'=> ?_)
  exact wpAny_pure (h2 hnk h' o' arr' ep' t' es' (sb1.trans sb2) (pe.trans (jY4 _ _ _)) el d')
 ·rw[show (t.put j).1.tooFull=false from by simpa using full]
  simp only[Bool.and_false,lKa,↓reduceIte]
  have full':(es.length+1)*5<t.mask*3:=by
   unfold SetTable.tooFull at full
   rw[fl,mk] at full
   simpa using full
  refine wpAny_pure (h2 hnk _ _ _ _ (t.put j).1 _ sb1 (jY4 _ _ _) rfl ⟨ob1,d.exact_,rfl,ae,are1,g1,?_,hpl⟩)
  rw[pl,mk]
  rcases d.mask with ⟨e,_⟩ | ⟨e,_⟩ | ⟨e,_⟩
  ·exact .inl ⟨e,by omega⟩
  ·exact .inr (.inl ⟨e,by omega⟩)
  ·exact .inr (.inr ⟨e,by omega⟩)
end
end L3
namespace L3
open PySem PySem.Spec PyProof.Rows L2
section
variable {w:World} {prog:Program}
noncomputable def bt (w:World):Bool:=w.params.followText "set-order"
structure Put (es kb:List (TKey×Addr)):Prop where
 sub:∀e,e∈es->e∈kb
 all:∀e,e∈kb->e.1∈es.map (·.1)
 nod:(es.map (·.1)).Nodup
theorem Put.old {es kb:List (TKey×Addr)} (p:Put es kb) {e:TKey×Addr} (h:e.1∈es.map (·.1)):Put es (kb++[e]):=by
 refine⟨fun x hx=>lKp _ (p.sub x hx),fun x hx=> ?_,p.nod⟩
 rcases (lJ4.mp hx) with z | z
 ·exact p.all x z
 ·rw[lJv.mp z];exact h
theorem Put.new {es es' kb:List (TKey×Addr)} (p:Put es kb) {e:TKey×Addr} (h:e.1∉es.map (·.1)) (hp:es'.Perm (e::es)):Put es' (kb++[e]):=by
 have hm:(es'.map (·.1)).Perm (e.1::es.map (·.1)):=hp.map _
 refine⟨fun x hx=> ?_,fun x hx=> ?_,?_⟩
 ·rcases lJi.mp (hp.mem_iff.mp hx) with rfl | z
  ·exact lKc _ (lJv.mpr rfl)
  ·exact lKp _ (p.sub x z)
 ·refine hm.mem_iff.mpr ?_
  rcases (lJ4.mp hx) with z | z
  ·exact lJs _ (p.all x z)
  ·rw[lJv.mp z];exact lJq ..
 ·exact hm.nodup_iff.mpr (lJ8.mpr ⟨h,p.nod⟩)
theorem Put.few {es kb:List (TKey×Addr)} (p:Put es kb) {us:List TKey} (h:∀e,e∈kb->e.1∈us):es.length<=us.length:=by
 have h1:(es.map (·.1)) ⊆ us:=by
  intro k hk
  obtain⟨e,he,rfl⟩:=lJg.mp hk
  exact h e (p.sub e he)
 have:=p.nod.length_le_of_subset h1
 simpa using this
theorem SetD.move {h h':Heap} {a:Addr} {o:Obj} {arr:Array (Int×Value)} {ep:Nat} {t:SetTable} {es:List (TKey×Addr)} (d:SetD prog w h a o arr ep t es) (hg:h'.get? a=some o) (kp:TupKept h h'):SetD prog w h' a o arr ep t es:=
 ⟨hg,d.exact_,d.data,d.arr_,fun e he=>jUd kp (d.are e he),d.good,d.mask,d.plain⟩
def SetIs (prog:Program) (w:World) (h:Heap) (a:Addr) (kb:List (TKey×Addr)):Prop:=∃o arr ep t es,SetD prog w h a o arr ep t es/\Put es kb/\t.led= !bt w
theorem SetIs.move {h h':Heap} {a:Addr} {kb:List (TKey×Addr)} (d:SetIs prog w h a kb) (hg:∀o,h.get? a=some o->h'.get? a=some o) (kp:TupKept h h'):SetIs prog w h' a kb:=by
 obtain⟨o,arr,ep,t,es,d,p,l⟩:=d
 exact⟨o,arr,ep,t,es,d.move (hg o d.get) kp,p,l⟩
section
variable {A:Around} {R:Result->Shared->Prop} {I:Addr} {fp:List Addr} {G:Array GenState->Array GenState->Prop} {n:Nat} {P:Nat->Value->Prop} {St:Nat->Shared->Prop}
theorem tk_moved {wr:List Addr} {s s':Shared} (hm:Moved wr G s s') (hw:∀b o,b∈wr->s.heap.get? b=some o->o.cls≠ .type "tuple"):TupKept s.heap s'.heap:=by
 intro b o hb hc
 exact hm.heap b o (fun z=>hw b o z hb hc) hb
theorem set_loop (W:WalksS prog w A.in1 I fp [I] G n P St) (S:Addr) (hSf:S∉fp) (hIt:∀i s o,St i s->s.heap.get? I=some o->o.cls≠ .type "tuple") (kb:List (TKey×Addr)) (hu:(jJg prog w).room A.in1) (hk:∀e,e∈kb->intT e.1=true)
  (hval:∀i v,P i v->∃e,kb[i]? =some e/\v= .ref e.2) (hn:n=kb.length) {us:List TKey} (hus:us.length<64) (hkus:∀e,e∈kb->e.1∈us):
  ∀(q i:Nat) (s:Shared),n-i=q->i<=n->St i s->(∀e,e∈kb->(jJg prog w).is s.heap e.1 e.2)->SetIs prog w s.heap S (kb.take i)->
   (∀s',Moved (S::[I]) G s s'->SetIs prog w s'.heap S kb->R (.ok (.ret .none)) s')->codeAny (model prog w) A (.builtin "set.update.loop" ⟨[.ref S,.ref I],[]⟩) R s:=by
 have hSw:S∉[I]:=fun h=>hSf (W.sub _ h)
 have hsub:∀b∈[I],b∈S::[I]:=fun b hb=>lJs _ hb
 intro q
 induction q with
 | zero=>
  intro i s hq hi hst hks hS hR
  have hin:i=n:=by omega
  subst hin
  refine codeAny_builtin PyProof.Rows.F.entry_set_update_loop ?_
  rw[Around.under_plainId PyProof.Rows.F.plain_set_update_loop _]
  refine (show wpAny _ A.in1 (pyNext (.ref I) >>= _) _ _ s from ?_)
  (refine wpAny_bind (W.done s _ _ hst fun s' hm=> ?_))
  refine (show wpAny _ A.in1 (ret Value.none) _ _ s' from ?_)
  refine wpAny_pure (hR s' (hm.mono hsub) ?_)
  rw[hn,lKt] at hS
  exact hS.move (fun o e=>hm.heap S o hSw e) (tk_moved hm fun b o hb e=>by rw[lJv.mp hb] at e;exact hIt _ _ _ hst e)
 | succ q ih=>
  intro i s hq hi hst hks hS hR
  have hlt:i<n:=by omega
  refine codeAny_builtin PyProof.Rows.F.entry_set_update_loop ?_
  rw[Around.under_plainId PyProof.Rows.F.plain_set_update_loop _]
  refine (show wpAny _ A.in1 (pyNext (.ref I) >>= _) _ _ s from ?_)
  (refine wpAny_bind (W.item i s _ _ hlt hst fun v s' hP hst' hm=> ?_))
  obtain⟨⟨k,b⟩,he,rfl⟩:=hval i v hP
  have hmem:(k,b)∈kb:=lJf he
  have tk:=tk_moved hm fun b o hb e=>by rw[lJv.mp hb] at e;exact hIt _ _ _ hst e
  have hS':=hS.move (h':=s'.heap) (fun o e=>hm.heap S o hSw e) tk
  have hks':∀e,e∈kb->(jJg prog w).is s'.heap e.1 e.2:=fun e he=>jUd tk (hks e he)
  refine (show wpAny _ A.in1 (holding [Value.ref b] (setAdd S (.ref b)) >>= _) _ _ s' from ?_)
  (refine wpAny_bind (wpAny_holding ?_))
  unfold setAdd
  refine wpAny_holding ?_
  refine wpAny_bind ((jJg prog w).pyHash hu (hks' _ hmem) ?_)
  obtain⟨o,arr,ep,t,es,d,p,l⟩:=hS'
  have hl:=p.few fun e he=>hkus e (List.mem_of_mem_take he)
  have tk1:kb.take (i+1)=kb.take i++[(k,b)]:=by
   rw[lKz,he];rfl
  refine add_ok (s:={s' with toks:=s'.toks+(jJg prog w).draws k}) d (hks' _ hmem) (hk _ hmem) hu (by omega) (fun z=> ?_) (fun z h' o' arr' ep' t' es' sb pe el d'=> ?_)
  ·refine wpAny_pure ⟨plainId_quiet PyProof.Rows.F.plain_set_update_loop _,ih (i+1) _ (by omega) hlt (W.frame _ s' _ _ hst' (Nat.le_add_right _ _) fun b hb o e=>e) hks' ?_ fun s'' hm'' hS''=> ?_⟩
   ·rw[tk1];exact⟨o,arr,ep,t,es,d,p.old z,l⟩
   ·exact hR s'' (Moved.trans W.gtrans ((hm.mono hsub).then_heap (Nat.le_add_right _ _) fun b o hb e=>e) hm'') hS''
  ·have tk2:TupKept s'.heap h':=TupKept.same d.get d.exact_.1 sb
   refine wpAny_pure ⟨plainId_quiet PyProof.Rows.F.plain_set_update_loop _,ih (i+1) _ (by omega) hlt (W.frame _ s' _ _ hst' (Nat.le_add_right _ _) fun b hb o e=> ?_) (fun e he=>jUd tk2 (hks' e he)) ?_ fun s'' hm'' hS''=> ?_⟩
   ·exact (sb.2 b (fun z=>hSf (z▸hb))).trans e
   ·rw[tk1];exact⟨o',arr',ep',t',es',d',p.new z pe,el.trans l⟩
   ·refine hR s'' (Moved.trans W.gtrans ((hm.mono hsub).then_heap (Nat.le_add_right _ _) fun b o hb e=> ?_) hm'') hS''
    exact (sb.2 b (fun z=>hb (by rw[z];exact lJq ..))).trans e
end
section
variable {E:Value->Shared->Prop} {s:Shared} {A:Around}
theorem set_fresh {led:Bool} (hl:led= !bt w) {h:Heap}:SetIs prog w (h.push {cls:= .type "set",dict:=none,data:= .set #[] 0 (.fresh 0 0 led)}) h.objs.size []:=by
 refine⟨_,#[],0,_,[],⟨Heap.get?_push_size _ rfl,⟨rfl,rfl,rfl⟩,rfl,rfl,fun e he=>absurd he (lJu),⟨rfl,List.Pairwise.nil,rfl,fun x hx=> ?_⟩,.inl ⟨rfl,lJt _⟩,rfl⟩,⟨fun _ h=>h,fun e he=>absurd he (lJu),lQj⟩,hl⟩
 exact absurd hx (by simp[hashes])
theorem set_new1 (a:Value) {Q₁:Value->Shared->Prop}
  (h:Q₁ (.ref s.heap.objs.size) {s with heap:=s.heap.push {cls:= .type "set",dict:=none,data:= .set #[] 0 (.fresh 0 0 (!bt w))} }):codeAny (model prog w) A (.call (.builtin "set.__new__") ⟨[.type "set",a],[]⟩) (wants Q₁ E) s:=by
 refine codeAny_of_tree ?_
 refine (show wpAny _ A.in1 (do checkBuiltinCall "set.__new__" ⟨[.type "set",a],[]⟩;again (.builtin "set.__new__" ⟨[.type "set",a],[]⟩)) _ _ s from ?_)
 (refine wpAny_bind (wpAny_of_eq (F.newCall_set_1 a) (wpAny_pure ⟨plainId_quiet F.plain_set_new _,codeAny_builtin F.entry_set_new ?_⟩)))
 (rw[Around.under_plainId F.plain_set_new _])
 (unfold Builtin.«set.__new__» Builtin.Frozenset.newClass)
 have hsub:=sub_set_self
 (obtain⟨hp,g,d,tk,os⟩:=s)
 dsimp only
 wp_walk
 (refine wpAny_askSetting (wpAny_pure ?_))
 dsimp only
 simp only[newObj]
 (refine wpAny_bind (wpAny_alloc (wpAny_pure ?_)))
 exact wpAny_pure h
noncomputable def jYi (w:World):Obj:={cls:= .type "set",dict:=none,data:= .set #[] 0 (.fresh 0 0 (!bt w))}
set_option maxHeartbeats 3201000 in
theorem kQ8 {l:Addr} {items:Array Value} {kb:List (TKey×Addr)} {Q:Value->Shared->Prop} (hh:A.handled=none) (hu:A.units+20<cLine) (hl:s.heap.IsList l items) (hi:items.toList=kb.map fun e=> .ref e.2) (hk:∀e,e∈kb->intT e.1=true/\(jJg prog w).is s.heap e.1 e.2) {us:List TKey} (hus:us.length<64) (hkus:∀e,e∈kb->e.1∈us)
  (h:∀(h':Heap) (tk:Nat),SetIs prog w h' s.heap.objs.size kb->(∀b o,s.heap.get? b=some o->h'.get? b=some o)->Q (.ref s.heap.objs.size) {s with heap:=h',toks:=tk}):wpAny (model prog w) A (call (.type "set") [.ref l]) Q E s:=by
 (obtain⟨c,tl,hmro⟩:=F.called_set.mro)
 (have hmade:=F.called_set.made)
 have hsub:=F.called_set.sub
 have hsz:items.size=kb.length:=by rw[<-lJ7,hi,lJc]
 (refine wpAny_call (codeAny_of_tree ?_))
 refine (show wpAny _ _ (callAny (.type "set") _) _ _ _ from ?_)
 (refine wpAny_pure ⟨Code.quiet_builtin _ (by decide +kernel),codeAny_builtin F.entry_type_call ?_⟩)
 (rw[Around.under_plain (weight_type_call_type "set" [.ref l] []) rfl])
 (have h1:=F.called_set.notType)
 (have h2:=F.called_set.canCreate)
 (have hct:=F.typeCall_set_1 (.ref l))
 (repeat (any_goals (first | assumption | wp_step)))
 refine codeAny_mono (set_new1 (.ref l) (E:=E) (Q₁:=fun obj s₁=>obj= .ref s.heap.objs.size/\s₁={s with heap:=s.heap.push (jYi w)}) ⟨rfl,rfl⟩) fun r s₁ hr=> ?_
 cases r with
 | error e=>exact hr
 | ok fl=>
  cases fl with
  | ret obj=>
   obtain⟨rfl,rfl⟩:=hr
   have hS:(s.heap.push (jYi w)).get? s.heap.objs.size=some (jYi w):=Heap.get?_push_size _ rfl
   have hT:Shared.TypeIs {s with heap:=s.heap.push (jYi w)} (.ref s.heap.objs.size) "set":=⟨_,hS,rfl⟩
   (have hli:=F.called_set.init.lookup)
   (have hbi:=F.called_set.init.bind (.ref s.heap.objs.size))
   (repeat (any_goals (first | assumption | wp_step)))
   refine codeAny_mono (codeAny_call_builtin (R:=wants (fun r s₂=>r= .none/\∃h' tk,s₂={s with heap:=h',toks:=tk}/\SetIs prog w h' s.heap.objs.size kb/\(∀b o,s.heap.get? b=some o->h'.get? b=some o)) E) F.called_set.init.plain F.entry_set_init (check_set_init_1 hT ?_)) fun r₂ s₂ hr₂=> ?_
   ·(obtain⟨ol,hol,hcl,nl,hdl⟩:=hl)
    (obtain⟨ocls,odict,odata,oslots⟩:=ol)
    simp only at hcl hdl
    subst hcl;subst hdl
    have hol':(s.heap.push (jYi w)).get? l=some {cls:= .type "list",dict:=odict,data:= .seq items nl,slots:=oslots}:=Heap.get?_push_of_some _ hol
    have hsls:=F.sub_list_set
    (have hslf:=F.sub_list_frozenset)
    (have hne:(Value.type "list" == Value.type "dict")=false:=by decide)
    have hl1:(s.heap.push (jYi w)).IsList l items:=⟨_,hol',rfl,nl,rfl⟩
    (unfold Builtin.«set.__init__» noKeywords Builtin.Frozenset.updateFrom)
    generalize hPI:pyIter=PI
    unfold jYi at hS hol' hl1 ⊢
    wp_walk
    subst hPI
    (refine wpAny_pyIter_list hl1 ?_)
    (refine wpAny_bind (wpAny_runValue ?_))
    (have hlS:l<s.heap.objs.size:=Heap.lt_size hol)
    (have hh3:A.in1.in1.in1.handled=none:=by simp[hh])
    have hneI:l≠(s.heap.push (jYi w)).objs.size:=by
     (rw[Heap.size_push];exact lJo (Nat.lt_succ_of_lt hlS))
    have hSf:s.heap.objs.size∉[(s.heap.push (jYi w)).objs.size,l]:=by
     rw[Heap.size_push];simp only[lJi,lJu,or_false,not_or]
     (exact⟨lJo (lQw _),lKv hlS⟩)
    have hval:∀(i:Nat) (v:Value),items[i]? =some v->∃e,kb[i]? =some e/\v= .ref e.2:=by
     intro i v hv
     rw[<-lK7,hi,lJe] at hv
     obtain⟨e,e1,e2⟩:=lKi.mp hv
     exact⟨e,e1,e2.symm⟩
    have up:∀b o,s.heap.get? b=some o->((s.heap.push (jYi w)).push {cls:= .type "list_iterator",data:= .fields #[.ref l,.int 0 0]}).get? b=some o:=fun b o e=>Heap.get?_push_of_some _ (Heap.get?_push_of_some _ e)
    refine set_loop (A:=A.in1.in1) ((Walks.list hh3 _ l hneI items).toS) s.heap.objs.size hSf ?hIt kb ?hu (fun e he=>(hk e he).1) hval hsz hus hkus (items.size-0) 0 _ (by omega) (lJt _) ⟨⟨_,Heap.get?_push_size _ rfl,rfl,rfl⟩,(hl1.push _)⟩ ?hks ?hS0 ?hR
    case hIt=>
     rintro i s2 o2 ⟨⟨o3,e3,c3,_⟩,_⟩ e2
     rw[e3] at e2;cases e2
     rw[c3];decide
    case hu=>
     show A.in1.in1.in1.units+6<cLine
     rw[Around.in1_units,Around.in1_units,Around.in1_units];omega
    case hks=>
     exact fun e he=>jUd (fun b o e _=>up b o e) (hk e he).2
    case hS0=>
     exact (set_fresh (prog:=prog) (w:=w) rfl (h:=s.heap)).move (fun o e=>Heap.get?_push_of_some _ e) fun b o e _=>Heap.get?_push_of_some _ e
    case hR=>
     intro s' hm hS'
     (obtain⟨h',g',d',tk',os'⟩:=s')
     cases (show g'=s.gens from hm.gens)
     cases (show d'=s.drawn from hm.drawn)
     cases (show os'=s.os from hm.os)
     refine (show wpAny _ _ _ _ _ _ from wpAny_pure ?_)
     refine (show wpAny _ _ (ret Value.none) _ _ _ from wpAny_pure ⟨rfl,h',tk',rfl,hS',fun b o e=> ?_⟩)
     have hb:=Heap.lt_size e
     refine hm.heap b o ?_ (up b o e)
     simp only[lJi,lJu,or_false,not_or]
     exact⟨lJo hb,by rw[Heap.size_push];exact lJo (Nat.lt_succ_of_lt hb)⟩
   ·cases r₂ with
    | error e=>exact hr₂
    | ok fl₂=>
     cases fl₂ with
     | ret r=>
      (obtain⟨rfl,h',tk,rfl,hS',hk'⟩:=hr₂)
      (repeat (any_goals (first | assumption | wp_step)))
      exact h _ _ hS' hk'
     | _=>exact hr₂.elim
  | _=>exact hr.elim
end
end
end L3
namespace L3
open PySem PySem.Spec PyProof.Rows L2
namespace Si
theorem own:Manifest.owners.lookup (String.ofList ['r','o','t','a','r','e','t','i','_','t','e','s'].reverse)=some Manifest.sig_set_iterator:=by kernel_rfl
theorem slot_next:Slot "set_iterator" "__next__" "set_iterator.__next__":=
 .of (owner:="set_iterator") (n:="__next__") (by rw[typeLookup_type,builtinLookup_eq_fast];kernel_rfl) (by decide +kernel) (by decide +kernel) (by decide +kernel) (by first | exact .inl (by decide +kernel) | exact .inr (by decide +kernel)) (by rw[isSubtype_type];kernel_rfl)
theorem entry_next:entryFor table "set_iterator.__next__"=some Builtin.«set_iterator.__next__» :=entryFor_of_tree (by kernel_rfl)
theorem args_next (a:Value):argsOk "set_iterator.__next__" ⟨[a],[]⟩:=by
 unfold argsOk;rw[signature?_of (id:="set_iterator.__next__") (n:=['_','_','t','x','e','n','_','_']) (o:=['r','o','t','a','r','e','t','i','_','t','e','s']) (by kernel_rfl) own];kernel_rfl
theorem entry_iter:entryFor table "set.__iter__"=some Builtin.«frozenset.__iter__» :=entryFor_alias (id':="frozenset.__iter__") (by kernel_rfl) rfl (by decide +kernel) (by kernel_rfl)
theorem slot_iter:Slot "set_iterator" "__iter__" "set_iterator.__iter__":=
 .of (owner:="set_iterator") (n:="__iter__") (by rw[typeLookup_type,builtinLookup_eq_fast];kernel_rfl) (by decide +kernel) (by decide +kernel) (by decide +kernel) (by first | exact .inl (by decide +kernel) | exact .inr (by decide +kernel)) (by rw[isSubtype_type];kernel_rfl)
theorem entry_it:entryFor table "set_iterator.__iter__"=some Builtin.«dict_keyiterator.__iter__» :=entryFor_alias (id':="dict_keyiterator.__iter__") (by kernel_rfl) rfl (by decide +kernel) (by kernel_rfl)
theorem args_it (a:Value):argsOk "set_iterator.__iter__" ⟨[a],[]⟩:=by
 unfold argsOk;rw[signature?_of (id:="set_iterator.__iter__") (n:=['_','_','r','e','t','i','_','_']) (o:=['r','o','t','a','r','e','t','i','_','t','e','s']) (by kernel_rfl) own];kernel_rfl
end Si
section
variable {prog:Program} {w:World} {A:Around} {E:Value->Shared->Prop} {s:Shared}
theorem SetD.stateB {h0:Heap} {S:Addr} {o:Obj} {arr:Array (Int×Value)} {ep:Nat} {t:SetTable} {es:List (TKey×Addr)} (d:SetD prog w h0 S o arr ep t es) (hg:s.heap.get? S=some o) {Q:(Array (Int×Value)×Nat×SetTable)->Shared->Prop} (h:Q (arr,ep,t) s):wpAny (model prog w) A (setState S) Q E s:=
 wpAny_setState_of hg d.data d.fits h
theorem iter_set {S:Addr} {o:Obj} {arr:Array (Int×Value)} {ep:Nat} {t:SetTable} {es:List (TKey×Addr)} (d:SetD prog w s.heap S o arr ep t es) {Q:Value->Shared->Prop}
  (hQ:Q (.ref s.heap.objs.size) {s with heap:=s.heap.push {cls:= .type "set_iterator",data:= .fields #[.int 0 0,.int 0 0,.ref S,.int es.length 0,.int ep 0]} }):wpAny (model prog w) A (pyIter (.ref S)) Q E s:=by
 have hT:s.TypeIs (.ref S) "set":=⟨o,d.get,d.exact_.1⟩
 refine wpAny_pyIter_slot hT PySem.F.slot_set_iter (wpAny_call_entry PySem.F.slot_set_iter hT Si.entry_iter ?_ (PySem.F.args_set_iter_1 _))
 unfold Builtin.«frozenset.__iter__» Builtin.Frozenset.slot0 slotArgs
 (simp only[List.isEmpty_nil,Bool.not_true,lKa,↓reduceIte,bind_assoc,lKn,bne_self_eq_false])
 (unfold Builtin.Frozenset.addrOf Builtin.Frozenset.sizeOf)
 refine wpAny_bind (wpAny_pure ?_)
 try dsimp only
 refine wpAny_bind (wpAny_pure ?_)
 simp only[setEntries,setDrawn,bind_assoc]
 refine wpAny_bind (d.state ?_)
 refine wpAny_bind (wpAny_pure (wpAny_bind (wpAny_pure (wpAny_bind (d.state ?_)))))
 dsimp only[setsByText]
 refine wpAny_bind (wpAny_bind (wpAny_askSetting (wpAny_pure (wpAny_bind (wpAny_pure ?_)))))
 rw[if_neg (fun z=> ?_)]
 ·(refine wpAny_bind (wpAny_pure ?_))
  unfold setEpoch
  refine wpAny_bind (wpAny_bind (d.state (wpAny_pure ?_)))
  refine wpAny_bind (wpAny_newObj_type (wpAny_pure ⟨_,rfl,"set_iterator",_,⟨_,Heap.get?_push_size _ rfl,rfl⟩,Si.slot_next.lookup,?_⟩))
  have:=d.size
  simpa[rawInt,this] using hQ
 ·have z':(!(w.params.followText "set-order")&&(!t.plain&&decide (arr.size>1)))=true:=z
  rw[d.plain] at z'
  simp at z'
theorem kQr {α:Type}:∀ {l:List α} {i:Nat} (h:i<l.length),(l[i]::l.eraseIdx i).Perm l
 | a::l,0,_=> .refl _
 | a::l,i+1,h=>by
  have hi:i<l.length:=by simpa using h
  exact (List.Perm.swap _ _ _).trans (List.Perm.cons a (kQr hi))
theorem pick_go {α:Type} (next:Nat->Nat):∀(fuel k:Nat) (left:List α) (out:Array α),fuel=left.length->(pickOrder.go next fuel k left out).toList.Perm (out.toList++left)
 | 0,k,left,out,h=>by
  have:left=[]:=List.eq_nil_of_length_eq_zero h.symm
  subst this
  rw[lQg];exact .refl _
 | fuel+1,k,left,out,h=>by
  have hl:next k%left.length<left.length:=lK1 _ (by omega)
  unfold pickOrder.go
  rw[lJa hl]
  dsimp only
  refine (pick_go next fuel (k+1) _ _ (by rw[List.length_eraseIdx_of_lt hl];omega)).trans ?_
  rw[Array.toList_push,lQp]
  (refine List.Perm.append_left _ ?_)
  rw[List.singleton_append]
  exact kQr hl
theorem pick_perm {α:Type} (next:Nat->Nat) (xs:Array α):(pickOrder next xs).toList.Perm xs.toList:=by
 have:=pick_go next xs.size 0 xs.toList #[] (by simp)
 rw[show (#[]:Array α).toList++xs.toList=xs.toList from rfl] at this
 exact this
noncomputable def ordS (w:World) (S:Addr) (ep:Nat) (arr:Array (Int×Value)):Array (Int×Value):=if bt w=true then pickOrder (w.params.setOrder S ep) arr else arr
theorem jY5 (w:World) (S:Addr) (ep:Nat) (arr:Array (Int×Value)):(ordS w S ep arr).toList.Perm arr.toList:=by
 unfold ordS
 split
 ·exact pick_perm _ _
 ·exact .refl _
noncomputable def jYf (w:World) (t:SetTable) (i:Nat):Nat:=if bt w=true then 0 else if i=0 then 0 else t.place.getD (i-1) 0+1
theorem below_slot {t:SetTable} {hs:List Int} (g:St.Good t hs) (hb:bt w=false) {i:Nat} (hi:i<=t.place.size):SetTable.below t.place (jYf w t i)=i:=by
 unfold jYf
 rw[hb,if_neg (by decide)]
 by_cases c:i=0
 ·subst c;exact St.below_zero g.ris
 ·rw[if_neg c,St.getD_at (by omega),St.below_next g.ris (by omega)]
  omega
theorem kQg {h0:Heap} {S:Addr} {o:Obj} {arr:Array (Int×Value)} {ep:Nat} {t:SetTable} {es:List (TKey×Addr)} (d:SetD prog w h0 S o arr ep t es) (hg:s.heap.get? S=some o) (hl:t.led= !bt w) {i:Nat} (hi:i<=arr.size) {Q:Option (Value×Nat)->Shared->Prop}
  (hQ:Q (((ordS w S ep arr)[i]?).map fun e=>(e.2,jYf w t (i+1))) s):wpAny (model prog w) A (setNext S (jYf w t i) i ep) Q E s:=by
 have hp:t.place.size=arr.size:=by
  have l:=d.good.len
  unfold hashes at l
  rw[lJc] at l
  rw[l,d.size]
 unfold setNext
 refine wpAny_bind (d.stateB hg ?_)
 dsimp only[setsByText]
 (refine wpAny_bind (wpAny_bind (wpAny_askSetting (wpAny_pure ?_))))
 refine (show wpAny _ _ (if bt w=true then _ else _) _ _ _ from ?_)
 cases hb:bt w with
 | true=>
  rw[if_pos rfl,if_neg (by simp)]
  unfold setWalk
  refine wpAny_bind (wpAny_bind (d.stateB hg ?_))
  dsimp only[setsByText]
  (refine wpAny_bind (wpAny_bind (wpAny_askSetting (wpAny_pure ?_))))
  refine (show wpAny _ _ (if bt w=true then _ else _) _ _ _ from ?_)
  rw[hb,if_pos rfl]
  refine wpAny_bind (wpAny_askSetting (wpAny_pure (wpAny_pure ?_)))
  have e1:jYf w t i=jYf w t (i+1):=by unfold jYf;rw[hb];rfl
  unfold ordS at hQ
  rw[hb,if_pos rfl,<-e1] at hQ
  exact hQ
 | false=>
  rw[if_neg (by decide)]
  rw[if_neg (fun z=> ?_)]
  ·refine wpAny_bind (m:=(if (!t.led&& !arr.isEmpty)=true then unsupported "set:maker-not-led" else pure ())) ?_
   rw[hl,hb]
   simp only[Bool.not_false,Bool.not_true,Bool.false_and,lKa,↓reduceIte]
   (refine wpAny_pure (wpAny_pure ?_))
   rw[below_slot d.good hb (by omega)]
   unfold ordS at hQ
   rw[hb,if_neg (by decide)] at hQ
   by_cases c:i<arr.size
   ·have hi':i<t.place.size:=by omega
    rw[lK0 c,lK0 hi']
    rw[lK0 c] at hQ
    dsimp only
    have e1:jYf w t (i+1)=t.place[i]+1:=by
     unfold jYf
     rw[hb,if_neg (by decide),if_neg (by omega),Nat.add_sub_cancel,St.getD_at hi']
    rw[e1] at hQ
    exact hQ
   ·rw[lQe (by omega)]
    rw[lQe (by omega)] at hQ
    exact hQ
  ·have z':(!t.plain&&decide (arr.size>1))=true:=z
   rw[d.plain] at z'
   simp at z'
noncomputable def itObj (S:Addr) (ep n slot i:Nat):Obj:={cls:= .type "set_iterator",dict:=none,data:= .fields #[.int slot 0,.int i 0,.ref S,.int n 0,.int ep 0],slots:= #[]}
theorem next_set {h0:Heap} {S I:Addr} {o:Obj} {arr:Array (Int×Value)} {ep:Nat} {t:SetTable} {es:List (TKey×Addr)} (d:SetD prog w h0 S o arr ep t es) (hl:t.led= !bt w) (hg:s.heap.get? S=some o) {i:Nat} (hI:s.heap.get? I=some (itObj S ep arr.size (jYf w t i) i)) {e:Int×Value} (he:(ordS w S ep arr)[i]? =some e) {Q:Option Value->Shared->Prop}
  (hQ:∀h',Heap.SameBut I s.heap h'->h'.get? I=some (itObj S ep arr.size (jYf w t (i+1)) (i+1))->Q (some e.2) {s with heap:=h'}):wpAny (model prog w) A (pyNext (.ref I)) Q E s:=by
 have hT:s.TypeIs (.ref I) "set_iterator":=⟨_,hI,rfl⟩
 have hsz:(ordS w S ep arr).size=arr.size:=by rw[<-lJ7,(jY5 w S ep arr).length_eq,lJ7]
 have hi:i<arr.size:=by have:=(lQ2.mp he).1;omega
 unfold pyNext
 refine wpAny_bind (wpAny_attempt (wpAny_callSpecial?_slot (name:=Str.ofString "__next__") hT Si.slot_next (wpAny_call_entry Si.slot_next hT Si.entry_next ?_ (Si.args_next _))))
 unfold Builtin.«set_iterator.__next__»
 refine wpAny_bind (wpAny_pure ?_)
 refine wpAny_bind (wpAny_fieldsOf hI rfl ?_)
 dsimp only
 unfold setEntries
 refine wpAny_bind (wpAny_bind (d.stateB hg (wpAny_pure ?_)))
 dsimp only
 rw[if_neg (by simp)]
 simp only[Int.toNat_natCast]
 refine wpAny_bind (kQg d hg hl (Nat.le_of_lt hi) ?_)
 rw[he]
 dsimp only[Option.map_some]
 refine wpAny_bind (wpAny_setField_rec hI (by simp) fun h1 e1 sb1=> ?_)
 refine wpAny_bind (wpAny_setField_rec (s:={s with heap:=h1}) e1 (by simp) fun h2 e2 sb2=> ?_)
 refine wpAny_pure ⟨_,rfl,wpAny_pure (hQ h2 (sb1.trans sb2) ?_)⟩
 simpa[rawInt,itObj] using e2
theorem end_set {h0:Heap} {S I:Addr} {o:Obj} {arr:Array (Int×Value)} {ep:Nat} {t:SetTable} {es:List (TKey×Addr)} (d:SetD prog w h0 S o arr ep t es) (hl:t.led= !bt w) (hh:A.handled=none) (hg:s.heap.get? S=some o) (hI:s.heap.get? I=some (itObj S ep arr.size (jYf w t arr.size) arr.size)) {Q:Option Value->Shared->Prop}
  (hQ:∀h',Heap.ExtBut I s.heap h'->Q none {s with heap:=h'}):wpAny (model prog w) A (pyNext (.ref I)) Q E s:=by
 have hT:s.TypeIs (.ref I) "set_iterator":=⟨_,hI,rfl⟩
 have hsz:(ordS w S ep arr).size=arr.size:=by rw[<-lJ7,(jY5 w S ep arr).length_eq,lJ7]
 unfold pyNext
 refine wpAny_bind (wpAny_attempt (wpAny_callSpecial?_slot (name:=Str.ofString "__next__") hT Si.slot_next (wpAny_call_entry Si.slot_next hT Si.entry_next ?_ (Si.args_next _))))
 unfold Builtin.«set_iterator.__next__»
 refine wpAny_bind (wpAny_pure ?_)
 refine wpAny_bind (wpAny_fieldsOf hI rfl ?_)
 dsimp only
 unfold setEntries
 refine wpAny_bind (wpAny_bind (d.stateB hg (wpAny_pure ?_)))
 dsimp only
 rw[if_neg (by simp)]
 simp only[Int.toNat_natCast]
 refine wpAny_bind (kQg d hg hl (lJd _) ?_)
 rw[lQe (by omega)]
 dsimp only[Option.map_none]
 refine wpAny_bind (wpAny_setField_rec hI (by simp) fun h1 e1 sb1=> ?_)
 refine (show wpAny _ _ (newExc (.type "StopIteration") [] >>= _) _ _ _ from wpAny_bind ?_)
 simp only[newExc,newTuple];refine wpAny_bind (wpAny_newObj_type ?_ (by size_fits));refine wpAny_bind (m:=firstArgMember _ _) (wpAny_of_eq (a:=Value.none) (by first | rfl | (simp only[firstArgMember];rfl)) (wpAny_newObj_type ?_ (by size_fits)))
 simp only[raiseNew];refine wpAny_bind (wpAny_handled ?_);rw[show A.in1.handled=none from hh];refine wpAny_bind (wpAny_pure (wpAny_throw ?_))
 exact wpAny_bind (wpAny_isInstance (T:="StopIteration") (b:=true) ⟨_,Heap.get?_push_size _ rfl,rfl⟩ isSubtype_stop (wpAny_pure (hQ _ ((sb1.extBut.push _).push _))))
theorem walks_set {h0:Heap} {S I:Addr} {o:Obj} {arr:Array (Int×Value)} {ep:Nat} {t:SetTable} {es:List (TKey×Addr)} (d:SetD prog w h0 S o arr ep t es) (hl:t.led= !bt w) (hh:A.handled=none) (hIS:I≠S):
  WalksS prog w A I [I,S] [I] (fun a b=>b=a) arr.size (fun i v=>((ordS w S ep arr)[i]?).map (·.2)=some v) (fun i s=>s.heap.get? S=some o/\s.heap.get? I=some (itObj S ep arr.size (jYf w t i) i)) where
 sub:=fun b hb=>by rw[lJv.mp hb];exact lJq ..
 grefl:=fun _=>rfl
 gtrans:=fun _ _ _ h1 h2=>(h2.trans h1)
 frame:=fun i s h' _ st _ hk=>⟨hk S (by simp) _ st.1,hk I (by simp) _ st.2⟩
 item:=by
  intro i s Q E hi st hQ
  have hsz:(ordS w S ep arr).size=arr.size:=by rw[<-lJ7,(jY5 w S ep arr).length_eq,lJ7]
  refine next_set d hl st.1 st.2 (e:=(ordS w S ep arr)[i]) (lK0 (by omega)) fun h' sb e=> ?_
  refine hQ _ _ (by rw[lK0 (by omega)];rfl) ⟨(sb.2 S (fun z=>hIS z.symm)).trans st.1,e⟩ ⟨fun b ob hb e=> ?_,rfl,rfl,rfl,lJd _⟩
  exact (sb.2 b (fun z=>hb (lJv.mpr z))).trans e
 done:=by
  intro s Q E st hQ
  refine end_set d hl hh st.1 st.2 fun h' eb=>hQ _ ⟨fun b ob hb e=> ?_,rfl,rfl,rfl,lJd _⟩
  exact eb b ob (fun z=>hb (lJv.mpr z)) e
 self:=by
  intro i s Q E st hQ
  have hT:s.TypeIs (.ref I) "set_iterator":=⟨_,st.2,rfl⟩
  refine wpAny_pyIter_slot hT Si.slot_iter (wpAny_call_entry Si.slot_iter hT Si.entry_it ?_ (Si.args_it _))
  exact (show wpAny _ _ (ret (.ref I)) _ _ s from wpAny_pure ⟨_,rfl,"set_iterator",_,hT,Si.slot_next.lookup,hQ⟩)
theorem hint_set {S:Addr} {o:Obj} (hg:s.heap.get? S=some o) (hc:o.cls= .type "set") {Q:Bool->Shared->Prop} (h:Q false s):wpAny (model prog w) A (Builtin.List.listLengthHint (.ref S)) Q E s:=by
 have hT:s.TypeIs (.ref S) "set":=⟨o,hg,hc⟩
 (unfold Builtin.List.listLengthHint)
 refine wpAny_bind (wpAny_specialOf hT PySem.F.slot_set_len.lookup ?_)
 generalize hn:("set.__len__":String)=nm
 wp_delta
 rw[show splitId nm=some ("set","__len__") by subst hn;decide +kernel];subst hn
 refine wpAny_bind (wpAny_isInstance (T:="set") (b:=true) hT (by rw[isSubtype_type];kernel_rfl) (wpAny_ite_split (fun z=>absurd z (by decide)) fun _=> ?_))
 refine wpAny_ite_split (fun _=> ?_) fun z=>absurd (by decide +kernel) z
 exact wpAny_bind (wpAny_typeOf hT (wpAny_pure h))
theorem extend_set {R:Result->Shared->Prop} {S L:Addr} {o:Obj} {arr:Array (Int×Value)} {ep:Nat} {t:SetTable} {es:List (TKey×Addr)} (d:SetD prog w s.heap S o arr ep t es) (hl:t.led= !bt w) (hh:A.handled=none) (res:Value) (c0:Nat)
  (hL:s.heap.get? L=some {cls:= .type "list",data:= .seq #[] c0}) (hLS:L≠S)
  (hR:∀(g:Heap) (tk:Nat) (acc:Array Value) (c':Nat),(∀b ob,b≠L->s.heap.get? b=some ob->g.get? b=some ob)->g.get? L=some {cls:= .type "list",dict:=none,data:= .seq acc c',slots:= #[]}->ItemsOf (fun i v=>((ordS w S ep arr)[i]?).map (·.2)=some v) acc arr.size->R (.ok (.ret res)) {s with heap:=g,toks:=tk}):
  wpAny (model prog w) A.in1 (Builtin.List.listExtendWith (.ref L) (.ref S) res) (fun fin z=>match fin with | .done f=>R (.ok f) z | .again c'=>c'.quiet=true/\codeAny (model prog w) A c' R z) (fun e z=>R (.error e) z) s:=by
 have hT:s.TypeIs (.ref S) "set":=⟨o,d.get,d.exact_.1⟩
 have hIS:s.heap.objs.size≠S:=lKv (Heap.lt_size d.get)
 have hIL:L≠s.heap.objs.size:=lJo (Heap.lt_size hL)
 have hSf:L∉[s.heap.objs.size,S]:=by simp[hIL,hLS]
 have asz:arr.size<=sizeLine:=by
  rw[d.size,sizeLine_eq]
  rcases d.mask with ⟨_,z⟩ | ⟨_,z⟩ | ⟨_,z⟩<;>omega
 (unfold Builtin.List.listExtendWith)
 (refine wpAny_bind (wpAny_typeOf hT ?_))
 have z1:Builtin.List.listSameRef (.ref L) (.ref S)=false:=by simp[Builtin.List.listSameRef,hLS]
 have z2:(Value.type "set" == Value.type "list")=false:=by decide
 have z3:(Value.type "set" == Value.type "tuple")=false:=by decide
 simp only[z1,z2,z3,Bool.or_false,lKa,if_false]
 refine wpAny_bind (iter_set d ?_)
 refine wpAny_bind (wpAny_holding (hint_set (o:=o) (Heap.get?_push_of_some _ d.get) d.exact_.1 ?_))
 refine wpAny_ite_split (fun _=> ?_) fun z=>absurd (by decide +kernel) z
 refine wpAny_bind (wpAny_rule ?_)
 generalize hg1:s.heap.push {cls:=Value.type "set_iterator",data:=Data.fields #[Value.int 0 0,Value.int 0 0,Value.ref S,Value.int (es.length:Int) 0,Value.int (ep:Int) 0]}=h1
 have hI1:h1.get? s.heap.objs.size=some (itObj S ep arr.size (jYf w t 0) 0):=by
  rw[<-hg1,d.size,show jYf w t 0=0 by unfold jYf;split<;>rfl]
  exact Heap.get?_push_size _ rfl
 have up:∀b ob,s.heap.get? b=some ob->h1.get? b=some ob:=fun b ob e=>by rw[<-hg1];exact Heap.get?_push_of_some _ e
 have hL1:=up L _ hL
 refine wpAny_bind ?_
 refine (show wpAny _ A.in1 (updateSeq L (·.push .none) >>= fun _=>updateSeq L (·.pop)) _ _ {s with heap:=h1} from ?_)
 refine wpAny_bind (wpAny_updateSeq hL1 rfl ?_)
 have hL2:=Heap.get?_update_self (Obj.mapSeq (·.push Value.none)) hL1 rfl
 refine wpAny_updateSeq (s:={s with heap:=h1.update L (Obj.mapSeq (·.push Value.none))}) hL2 rfl ?_
 have hL3:=Heap.get?_update_self (Obj.mapSeq (·.pop)) hL2 rfl
 have oth:∀b ob,b≠L->h1.get? b=some ob->((h1.update L (Obj.mapSeq (·.push Value.none))).update L (Obj.mapSeq (·.pop))).get? b=some ob:=
  fun b ob hb e=>(Heap.get?_update_other _ _ (Ne.symm hb)).trans ((Heap.get?_update_other _ _ (Ne.symm hb)).trans e)
 refine wpAny_pure ⟨plainId_quiet F.plain_extend_loop _,?_⟩
 refine codeAny_extend_loopS (walks_set (A:=A.in1) d hl hh hIS) asz L hSf res arr.size 0 _ #[] _ rfl (lJt _) ⟨oth S o (Ne.symm hLS) (up S o d.get),oth _ _ (Ne.symm hIL) hI1⟩ hL3 (ItemsOf.nil _) fun z acc c' hm hL' hacc=> ?_
 rw[Moved.eq_with hm]
 refine hR z.heap z.toks acc c' (fun b ob hb e=>hm.heap b ob ?_ (oth b ob hb (up b ob e))) hL' hacc
 simp only[lJi,lJu,or_false,not_or]
 exact⟨hb,lJo (Heap.lt_size e)⟩
theorem collect_set {S:Addr} {o:Obj} {arr:Array (Int×Value)} {ep:Nat} {t:SetTable} {es:List (TKey×Addr)} (d:SetD prog w s.heap S o arr ep t es) (hl:t.led= !bt w) (hh:A.handled=none) {Q:List Value->Shared->Prop}
  (hQ:∀(g:Heap) (tk:Nat) (acc:List Value),(∀b ob,s.heap.get? b=some ob->g.get? b=some ob)->s.heap.objs.size<g.objs.size->acc.Perm (es.map fun e=> .ref e.2)->Q acc {s with heap:=g,toks:=tk}):wpAny (model prog w) A (collect (.ref S)) Q E s:=by
 have hLS:s.heap.objs.size≠S:=lKv (Heap.lt_size d.get)
 have key:∀R:Result->Shared->Prop,(∀(g:Heap) (tk:Nat) (acc:Array Value) (c':Nat),(∀b ob,s.heap.get? b=some ob->g.get? b=some ob)->g.get? s.heap.objs.size=some {cls:= .type "list",dict:=none,data:= .seq acc c',slots:= #[]}->ItemsOf (fun i v=>((ordS w S ep arr)[i]?).map (·.2)=some v) acc arr.size->R (.ok (.ret (.ref s.heap.objs.size))) {s with heap:=g,toks:=tk})->
   codeAny (model prog w) A (.builtin "proto.collect" ⟨[.ref S],[]⟩) R s:=by
  intro R hR
  refine codeAny_builtin F.entry_proto_collect ?_
  (rw[Around.under_plainId F.plain_proto_collect _])
  refine (show wpAny _ A.in1 (newList [] >>= fun l=>again (.builtin "list.__iadd__" ⟨[l,.ref S],[]⟩)) _ _ s from wpAny_bind (wpAny_newObj_type (wpAny_pure ⟨plainId_quiet F.plain_list_iadd _,codeAny_builtin F.entry_list_iadd ?_⟩)))
  (rw[Around.under_plainId F.plain_list_iadd _])
  have hS1:(s.heap.push {cls:= .type "list",data:= .seq ([]:List Value).toArray}).get? s.heap.objs.size=some {cls:= .type "list",data:= .seq ([]:List Value).toArray}:=Heap.get?_push_size _ rfl
  have d1:SetD prog w (s.heap.push {cls:= .type "list",data:= .seq ([]:List Value).toArray}) S o arr ep t es:=d.move (Heap.get?_push_of_some _ d.get) fun b ob e _=>Heap.get?_push_of_some _ e
  exact extend_set (A:=A) (R:=R) (s:={s with heap:=s.heap.push {cls:= .type "list",data:= .seq ([]:List Value).toArray} }) d1 hl hh (.ref s.heap.objs.size) 0 hS1 hLS fun g tk acc c' kp hL' hacc=>hR g tk acc c' (fun b ob e=>kp b ob (lJo (Heap.lt_size e)) (Heap.get?_push_of_some _ e)) hL' hacc
 unfold collect
 refine wpAny_bind (wpAny_runValue (key _ fun g tk acc c' kp hL' hacc=>(show wpAny _ A (load s.heap.objs.size >>= _) _ _ _ from wpAny_bind (wpAny_load hL' (wpAny_pure (hQ g tk acc.toList kp (Heap.lt_size hL') ?_))))))
 have e1:acc.toList=(ordS w S ep arr).toList.map (·.2):=by
  have hsz:(ordS w S ep arr).size=arr.size:=by rw[<-lJ7,(jY5 w S ep arr).length_eq,lJ7]
  apply lJx
  intro i
  rw[lJe,lK7,lK7]
  by_cases hi:i<acc.size
  ·have:=hacc.2 i acc[i] (lK0 hi)
   rw[lK0 hi]
   exact this.symm
  ·rw[lQe (by omega),lQe (by rw[hsz,<-hacc.1];omega)]
   rfl
 rw[e1]
 refine ((jY5 w S ep arr).map _).trans ?_
 rw[d.arr_,lJj]
 exact .refl _
end
end L3
namespace L3
open PySem PySem.Spec PyProof.Rows L2
noncomputable def lexLt {K:Type} [DecidableEq K] (lt:K->K->Option Bool):List K->List K->Option Bool
 | [],[]=>some false
 | [],_::_=>some true
 | _::_,[]=>some false
 | x::xs,y::ys=>if x=y then lexLt lt xs ys else lt x y
noncomputable def ltI:Key->Key->Option Bool
 | .inl i,.inl j=>some (decide (i<j))
 | _,_=>none
noncomputable def ltS {K:Type} [DecidableEq K] (lt:K->K->Option Bool):Key ⊕ List K->Key ⊕ List K->Option Bool
 | .inl x,.inl y=>ltI x y
 | .inr x,.inr y=>lexLt lt x y
 | _,_=>none
noncomputable def ltK:TKey->TKey->Option Bool:=lexLt (ltS (ltS ltI))
section
variable {prog:Program} {w:World} {K:Type} [DecidableEq K] {c:Nat}
def LtV (V:KeyV prog w K c) (lt:K->K->Option Bool):Prop:=∀ {A:Around} {E:Value->Shared->Prop} {s:Shared} {x y:K} {u v:Value} {b:Bool} {Q:Value->Shared->Prop},A.units+c<cLine->V.is s.heap x u->V.is s.heap y v->lt x y=some b->Q (.bool b) s->wpAny (model prog w) A (compareOp .Lt u v) Q E s
theorem lt_atom:LtV (jZ6 prog w) ltI:=by
 intro A E s x y u v b Q _ hx hy hl h
 rcases jJw (show jYo x u=true from hx) with ⟨i,t,rfl,rfl⟩ | ⟨i,t,rfl,rfl⟩
 ·rcases jJw (show jYo y v=true from hy) with ⟨j,t',rfl,rfl⟩ | ⟨j,t',rfl,rfl⟩
  ·cases hl
   exact PyProof.Rows.lt_int h
  ·cases hl
 ·cases hl
open PySem.SeqAt in
open PySem.AutoSeq1 (wpAny_loadPart') in
open PySem.MeetsSeq PySem.MeetsSeq2 PySem.MeetsSeq3 in
theorem lt_tup {V:KeyV prog w K c} {lt:K->K->Option Bool} (hV:LtV V lt):LtV (jVr V) (lexLt lt):=by
 rintro A E s x y u v b Q hu ⟨a1,o1,its1,n1,rfl,ho1,hc1,hd1,hi1⟩ ⟨a2,o2,its2,n2,rfl,ho2,hc2,hd2,hi2⟩ hl h
 obtain⟨cls,dd,data,sl⟩:=o1
 obtain⟨cls2,dd2,data2,sl2⟩:=o2
 simp only at hc1 hd1 hc2 hd2
 subst hc1 hd1 hc2 hd2
 have hT1:s.TypeIs (.ref a1) "tuple":=⟨_,ho1,rfl⟩
 have hT2:s.TypeIs (.ref a2) "tuple":=⟨_,ho2,rfl⟩
 refine (show wpAny _ _ (richCompare .Lt (.ref a1) (.ref a2)) _ _ s from wpAny_richCompare_same_room hT1 hT2 PySem.F.slot_tuple_lt (wpAny_call_entry PySem.F.slot_tuple_lt hT1 PySem.F.entry_tuple_lt ?_ (PySem.F.args_tuple_lt_2 _ _)) (by omega))
 have f2:=AutoSeq1.sub_tuple_tuple
 (obtain⟨hp,g,d,tk,os⟩:=s)
 have z1:its1.size=x.length:=by rw[hi1.length];simp
 have z2:its2.size=y.length:=by rw[hi2.length];simp
 wp_walk using wpAny_loadPart' ho1,wpAny_loadPart' ho2,wpAny_forIn_list _ (fun rest bb s'=>bb.1=none/\s'=⟨hp,g,d,tk,os⟩/\∃(vs ws:List Value) (x' y':List K),rest=vs.zip ws/\ItemsV V hp x' vs/\ItemsV V hp y' ws/\x'.length+its2.size=y'.length+its1.size/\lexLt lt x' y'=some b) _
 case turn=>
  rintro⟨p,q⟩ rest bb s' ⟨hb',rfl,vs,ws,x',y',hz,hv1,hv2,hlen,hR⟩
  cases hv1 with
  | nil=>rw[List.zip_nil_left] at hz;cases hz
  | @cons k1 v1 ks1 vs1 h1 hv1'=>
   cases hv2 with
   | nil=>rw[List.zip_nil_right] at hz;cases hz
   | @cons k2 v2 ks2 vs2 h2 hv2'=>
    rw[lQk] at hz
    injection hz with hyx hrest
    injection hyx with hy hx
    subst hy hx
    simp only[lJy] at hlen
    have he:=V.eqAt (A:=A.in1) (s:=⟨hp,g,d,tk,os⟩) (by rw[Around.in1_units];omega) h1 h2
    refine wpAny_bind (he prog w _ _ ?_)
    by_cases e:k1=k2
    ·have hR':lexLt lt ks1 ks2=some b:=by
      have:=hR
      unfold lexLt at this
      rw[if_pos e] at this;exact this
     rw[decide_eq_true e]
     wp_walk
     exact⟨rfl,rfl,_,_,_,_,hrest,hv1',hv2',by omega,hR'⟩
    ·have hR':lt k1 k2=some b:=by
      have:=hR
      unfold lexLt at this
      rw[if_neg e] at this;exact this
     rw[decide_eq_false e]
     have hri:∀ {Q':Value->Shared->Prop} {E':Value->Shared->Prop},Q' (.bool b) ⟨hp,g,d,tk,os⟩->wpAny (model prog w) A.in1 (richCompare .Lt p q) Q' E' ⟨hp,g,d,tk,os⟩:=fun hq=>(hV (A:=A.in1) (s:=⟨hp,g,d,tk,os⟩) (by rw[Around.in1_units];omega) h1 h2 hR' hq:wpAny (model prog w) A.in1 (compareOp .Lt p q) _ _ _)
     wp_walk using hri
     exact⟨_,rfl,(fun z=>nomatch z),h⟩
 case fin=>
  rintro⟨b1,b2⟩ s' ⟨hb',rfl,vs,ws,x',y',hz,hv1,hv2,hlen,hR⟩
  simp only at hb'
  subst hb'
  have hv:b=decide (its1.size<its2.size):=by
   cases hv1 with
   | nil=>
    cases hv2 with
    | nil=>simp only[lKn] at hlen;cases hR;exact (decide_eq_false (by omega)).symm
    | cons _ _=>simp only[lKn,lJy] at hlen;cases hR;exact (decide_eq_true (by omega)).symm
   | cons _ hv1'=>
    cases hv2 with
    | nil=>simp only[lKn,lJy] at hlen;cases hR;exact (decide_eq_false (by omega)).symm
    | cons _ _=>rw[lQk] at hz;cases hz
  wp_walk
  refine⟨_,rfl,(fun z=>nomatch z),?_⟩
  simpa[Builtin.Tuple.tupleCompareSizes,<-hv] using h
 case h=>
  exact⟨rfl,rfl,its1.toList,its2.toList,x,y,rfl,hi1,hi2,by omega,hl⟩
theorem lt_sum {V:KeyV prog w K c} {lt:K->K->Option Bool} (hV:LtV V lt):LtV (sumVK V) (ltS lt):=by
 rintro A E s (x | x) (y | y) u v b Q hu hx hy hl h
 ·exact lt_atom (by omega) hx hy hl h
 ·cases hl
 ·cases hl
 ·exact lt_tup hV hu hx hy hl h
end
end L3
namespace L3
open PySem PySem.Spec PyProof.Rows L2 PySem.W
noncomputable def Rn {α:Type} (n:Nat) (lt:Nat->Nat->Bool):KasT α->(α->Prop)->Prop
 | .ret a,Q=>Q a
 | .ask i j k,Q=>i<n/\j<n/\Rn n lt (k (lt i j)) Q
theorem Rn.mono {α:Type} {n:Nat} {lt:Nat->Nat->Bool} {Q Q':α->Prop} (hq:∀a,Q a->Q' a):∀ {t:KasT α},Rn n lt t Q->Rn n lt t Q'
 | .ret a,h=>hq a h
 | .ask i j k,h=>⟨h.1,h.2.1,Rn.mono hq (t:=k (lt i j)) h.2.2⟩
theorem Rn.bind {α β:Type} {n:Nat} {lt:Nat->Nat->Bool} {f:α->KasT β} {Q:β->Prop}:∀ {t:KasT α},Rn n lt t (fun a=>Rn n lt (f a) Q)->Rn n lt (t.bind f) Q
 | .ret a,h=>h
 | .ask i j k,h=>⟨h.1,h.2.1,Rn.bind (t:=k (lt i j)) h.2.2⟩
theorem Rn.wp {α:Type} {n:Nat} {lt:Nat->Nat->Bool} {cmp:Nat->Nat->(Bool->Shared->Prop)->Shared->Prop} {s:Shared} {Q:α->Prop} {R:α->Shared->Prop} (hc:∀i j C,i<n->j<n->C (lt i j) s->cmp i j C s) (hr:∀a,Q a->R a s):∀ {t:KasT α},Rn n lt t Q->t.kasWp cmp R s
 | .ret a,h=>hr a h
 | .ask i j k,h=>hc i j _ h.1 h.2.1 (Rn.wp hc hr (t:=k (lt i j)) h.2.2)
section
variable {n:Nat} {lt:Nat->Nat->Bool}
def Pm (n:Nat) (p:Array Nat):Prop:=p.toList.Perm (List.range n)
theorem Pm.size {p:Array Nat} (h:Pm n p):p.size=n:=by have:=h.length_eq;simpa using this
theorem Pm.bd {p:Array Nat} (h:Pm n p) (hn:0<n) (i:Nat):p.getD i 0<n:=by
 by_cases c:i<p.size
 ·have e:p.getD i 0=p[i]:=by simp[Array.getD,c]
  rw[e]
  have:p[i]∈List.range n:=h.mem_iff.mp (by simp)
  exact lJn.mp this
 ·have e:p.getD i 0=0:=by simp[Array.getD,c]
  rw[e];exact hn
theorem Pm.rev {p:Array Nat} (h:Pm n p) (i j:Nat):Pm n (kas_rev p i j):=(Array.perm_iff_toList_perm.mp (mirror_perm p i j _)).trans h
theorem Pm.bub {p:Array Nat} (h:Pm n p) (i j:Nat):Pm n (bubble p i j):=(Array.perm_iff_toList_perm.mp (bubble_perm p i j)).trans h
theorem asc_pm {p:Array Nat} (hp:Pm n p) (hn:0<n):∀(f a:Nat),Rn n lt (kas_asc p f a) (fun _=>True)
 | 0,_=>True.intro
 | f+1,a=>by
  refine⟨hp.bd hn _,hp.bd hn _,?_⟩
  dsimp only
  split
  ·exact True.intro
  ·exact asc_pm hp hn f (a+1)
theorem kU2 (hn:0<n):∀(f:Nat) (p:Array Nat) (a q:Nat),Pm n p->Rn n lt (kas_desc f p a q) (fun r=>Pm n r.1)
 | 0,_,_,_,hp=>hp
 | f+1,p,a,q,hp=>by
  refine⟨hp.bd hn _,hp.bd hn _,?_⟩
  dsimp only
  split
  ·split
   ·exact kU2 hn f _ _ _ (hp.rev _ _)
   ·exact kU2 hn f p _ _ hp
  ·refine⟨hp.bd hn _,hp.bd hn _,?_⟩
   dsimp only
   split
   ·exact hp
   ·exact kU2 hn f p _ _ hp
theorem tail_pm {p:Array Nat} (hp:Pm n p) (hn:0<n) (m:Nat):Rn n lt (kas_tail3 m n p) (fun r=>Pm n r.2):=by
 unfold kas_tail3
 exact Rn.bind ((asc_pm (hp.rev 0 m) hn _ _).mono fun _ _=>hp.rev 0 m)
theorem part_pm {p:Array Nat} (hp:Pm n p) (hn:0<n) (m:Nat):Rn n lt (kas_descPart m n p) (fun r=>Pm n r.2):=by
 unfold kas_descPart
 refine Rn.bind ((kU2 hn _ p _ 0 hp).mono fun r hr=> ?_)
 split
 ·exact tail_pm (hr.rev _ _) hn _
 ·exact tail_pm hr hn _
theorem count_pm {p:Array Nat} (hp:Pm n p) (hn:0<n):Rn n lt (kas_count n p) (fun r=>Pm n r.2):=by
 unfold kas_count
 refine Rn.bind ((asc_pm hp hn _ _).mono fun m _=> ?_)
 split
 ·exact hp
 ·split
  ·refine⟨hp.bd hn _,hp.bd hn _,?_⟩
   dsimp only
   split
   ·exact hp
   ·exact part_pm (hp.rev _ _) hn m
  ·exact part_pm hp hn m
theorem kUh {p:Array Nat} (hp:Pm n p) (hn:0<n) (k:Nat):∀(f l r:Nat),Rn n lt (kas_place p k f l r) (fun _=>True)
 | 0,_,_=>True.intro
 | f+1,l,r=>by
  unfold kas_place
  split
  ·exact True.intro
  ·refine⟨hp.bd hn _,hp.bd hn _,?_⟩
   dsimp only
   split
   ·exact kUh hp hn k f _ _
   ·exact kUh hp hn k f _ _
theorem bin_pm (hn:0<n):∀(f:Nat) (p:Array Nat) (k:Nat),Pm n p->Rn n lt (kas_bin f p k) (Pm n)
 | 0,_,_,hp=>hp
 | f+1,p,k,hp=>by
  unfold kas_bin
  exact Rn.bind ((kUh hp hn k _ _ _).mono fun l _=>bin_pm hn f _ (k+1) (hp.bub k (k-l)))
theorem sort_pm (hn:0<n):Rn n lt (kas_sort n) (Pm n):=by
 unfold kas_sort
 refine Rn.bind ((count_pm (List.Perm.refl _) hn).mono fun r hr=> ?_)
 split
 ·exact bin_pm hn _ _ _ hr
 ·exact hr
end
end L3
namespace L3
open PySem PySem.Spec PyProof.Rows L2 PySem.W
noncomputable def headI:TKey->Bool->Prop
 | .inl _::_,b=>b=true
 | .inr _::_,b=>b=false
 | [],_=>False
section
variable {prog:Program} {w:World} {A:Around} {E:Value->Shared->Prop} {s:Shared}
theorem katlex_ok {Q:Bool->Shared->Prop} {b:Bool} {n1 n2:Nat} {c:Bool} (hu:A.units+6<cLine) (hq:Q c s):∀(i:Nat) (x y:TKey) (vs ws:List Value),ItemsV (vk2 prog w) s.heap x vs->ItemsV (vk2 prog w) s.heap y ws->x.length+n2=y.length+n1->lexLt (ltS (ltS ltI)) x y=some c->((b&&i == 0)=true->(∀k,k∈x->i=0->x.head? =some k->∃z,k= .inl z)/\(∀k,k∈y->i=0->y.head? =some k->∃z,k= .inl z))->
  KatLex prog w A b (decide (n1<n2)) Q (vs.zip ws) i s:=by
 intro i x y vs ws hx
 induction hx generalizing i y ws with
 | nil=>
  intro hy hn hl _
  cases hy with
  | nil=>
   simp only[lKn] at hn
   cases hl
   refine kat_nil ?_
   rw[decide_eq_false (by omega)];exact hq
  | cons _ _=>
   simp only[lKn,lJy] at hn
   cases hl
   refine kat_nil ?_
   rw[decide_eq_true (by omega)];exact hq
 | @cons k1 v1 ks1 vs1 h1 t1 ih=>
  intro hy hn hl hb
  cases hy with
  | nil=>
   simp only[lKn,lJy] at hn
   cases hl
   refine kat_nil ?_
   rw[decide_eq_false (by omega)];exact hq
  | @cons k2 v2 ks2 vs2 h2 t2=>
   simp only[lJy] at hn
   rw[lQk]
   refine kat_cons (((vk2 prog w).eqAt (by omega) h1 h2) prog w _ _ ?_)
   unfold lexLt at hl
   by_cases e:k1=k2
   ·rw[if_pos e] at hl
    rw[decide_eq_true e]
    refine kat_yes (ih (i+1) _ _ t2 (by omega) hl fun z=> ?_)
    simp at z
   ·rw[if_neg e] at hl
    rw[decide_eq_false e]
    refine kat_no ?_
    cases q:(b&&i == 0) with
    | false=>exact kat_one _ _ (lt_sum (lt_sum lt_atom) (by omega) h1 h2 hl hq)
    | true=>
     have hi:i=0:=by simp at q;exact q.2
     obtain⟨z1,z2⟩:=hb q
     obtain⟨a,rfl⟩:=z1 k1 (lJq ..) hi rfl
     obtain⟨a',rfl⟩:=z2 k2 (lJq ..) hi rfl
     rcases jJw (show jYo a v1=true from h1) with ⟨p,t,rfl,rfl⟩ | ⟨p,t,rfl,rfl⟩
     ·rcases jJw (show jYo a' v2=true from h2) with ⟨p',t',rfl,rfl⟩ | ⟨p',t',rfl,rfl⟩
      ·cases hl
       exact oneLt_int hq
      ·cases hl
     ·cases hl
theorem ask_ok {b:Bool} {x y:TKey} {a1 a2:Addr} {c:Bool} {Q:Bool->Shared->Prop} (hu:A.units+6<cLine) (h1:(jJg prog w).is s.heap x a1) (h2:(jJg prog w).is s.heap y a2) (hl:ltK x y=some c) (hx:headI x b) (hy:headI y b) (hq:Q c s):wpAny (model prog w) A (keyLt' (tuples' b) (.ref a1) (.ref a2)) Q E s:=by
 obtain⟨p1,o1,its1,n1,e1,ho1,hc1,hd1,hi1⟩:=(show kKw _ _ _ _ from h1)
 obtain⟨p2,o2,its2,n2,e2,ho2,hc2,hd2,hi2⟩:=(show kKw _ _ _ _ from h2)
 cases e1;cases e2
 refine kat_lt ho1 hd1 ho2 hd2 (katlex_ok hu hq 0 x y _ _ hi1 hi2 ?_ hl fun z=> ?_)
 ·have l1:=hi1.length
  have l2:=hi2.length
  simp at l1 l2
  omega
 ·have hb:b=true:=by simpa using z
  subst hb
  refine⟨fun k _ _ hk=> ?_,fun k _ _ hk=> ?_⟩
  ·match x,hx,hk with
   | .inl u::_,_,e=>cases e;exact⟨u,rfl⟩
  ·match y,hy,hk with
   | .inl u::_,_,e=>cases e;exact⟨u,rfl⟩
noncomputable def tyOf (b:Bool):Value:=if b=true then .type "int" else .type "tuple"
theorem kind_tups {b:Bool}:∀(es:List (TKey×Addr)),(∀e,e∈es->(jJg prog w).is s.heap e.1 e.2/\headI e.1 b/\intT e.1=true)->∃fs,KatTups s.heap (es.map fun e=> .ref e.2) fs/\fs.length=es.length/\∀v,v∈fs->Looks (model prog w) s.heap (typeOf v) (tyOf b)
 | [],_=>⟨[],.nil,rfl,fun v hv=>absurd hv (lJu)⟩
 | (k,a)::es,h=>by
  obtain⟨fs,t,l,hf⟩:=kind_tups es fun e he=>h e (lJs _ he)
  obtain⟨h1,h2,h3⟩:=h (k,a) (lJq ..)
  obtain⟨p1,o1,its1,n1,e1,ho1,hc1,hd1,hi1⟩:=(show kKw _ _ _ _ from h1)
  cases e1
  match k,h2,h3,hi1 with
  | .inl u::ks,hb,h3,hi=>
   cases (show b=true from hb)
   generalize hits:its1.toList=its at hi
   cases hi with
   | @cons _ v _ vs hv ht=>
    refine⟨v::fs,.cons ho1 hc1 hd1 (by rw[<-lK7,hits];rfl) t,by simp[l],fun x hx=> ?_⟩
    (rcases lJi.mp hx with rfl | hx)
    ·rcases jJw (show jYo u x=true from hv) with ⟨i,tk,_,rfl⟩ | ⟨i,tk,rfl,rfl⟩
     ·exact Looks.of_pure rfl
     ·simp[intT,intS,intK] at h3
    ·exact hf x hx
  | .inr u::ks,hb,h3,hi=>
   cases (show b=false from hb)
   generalize hits:its1.toList=its at hi
   cases hi with
   | @cons _ v _ vs hv ht=>
    obtain⟨p2,o2,its2,n2,e2,ho2,hc2,hd2,hi2⟩:=(show kKw _ _ u v from hv)
    subst e2
    refine⟨.ref p2::fs,.cons ho1 hc1 hd1 (by rw[<-lK7,hits];rfl) t,by simp[l],fun x hx=> ?_⟩
    (rcases lJi.mp hx with rfl | hx)
    ·have:=(Looks.ld (M:=model prog w) (part:=none) ho2).andThen (f:=fun o=>pure o.cls) .now
     rw[hc2] at this
     exact this
    ·exact hf x hx
theorem kind_ok {b:Bool} {es:List (TKey×Addr)} (h:∀e,e∈es->(jJg prog w).is s.heap e.1 e.2/\headI e.1 b/\intT e.1=true) (hne:0<es.length) {Q:SortKind->Shared->Prop} (hq:Q (tuples' b) s):wpAny (model prog w) A (keyKind' (List.toArray (es.map fun e=>Value.ref e.2))) Q E s:=by
 obtain⟨fs,t,l,hf⟩:=kind_tups es h
 refine kat_kind (T:=tyOf b) t (by omega) hf (by cases b<;>decide) ?_
 rw[show (tyOf b != Value.type "tuple")=b by cases b<;>decide]
 exact hq
theorem sort_list {a n:Nat} {b:Bool} {es:List (TKey×Addr)} (ho:s.heap.get? a=some (seqObj "list" (List.toArray (es.map fun e=>Value.ref e.2)) n)) (hu:A.units+6<cLine) (h:∀e,e∈es->(jJg prog w).is s.heap e.1 e.2/\headI e.1 b/\intT e.1=true) (hlt:∀e,e∈es->∀e',e'∈es->(ltK e.1 e'.1).isSome=true) (h64:es.length<64) {P:PySem.Fin->Shared->Prop}
  (k:∀(es':List (TKey×Addr)) (h':Heap) (c:Nat),es'.Perm es->h'.get? a=some (seqObj "list" (List.toArray (es'.map fun e=>Value.ref e.2)) c)->(∀p o,p≠a->s.heap.get? p=some o->h'.get? p=some o)->P (.done (.ret .none)) {s with heap:=h'}):wpAny (model prog w) A (Builtin.«list.sort» ⟨[.ref a],[]⟩) P E s:=by
 (have ha:a<s.heap.objs.size:=Heap.lt_size ho)
 have hlen:(es.map fun e=>Value.ref e.2).length=es.length:=lJc ..
 rw[list_sort_plain]
 (refine wpAny_bind (listItems_at ho rfl ?_))
 refine wpAny_bind (listUpdate_at ho rfl ?_ (by rw[lJp,hlen,sizeLine_eq];omega) (lJt _))
 (obtain⟨e1,ho1⟩:∃e1,(s.heap.update a (Obj.mapSeq fun _=>(#[]:Array Value))).get? a=some (seqObj "list" #[] e1):=⟨_,get?_update_seq ho fun _=> #[]⟩)
 (refine wpAny_bind (seqEpoch_at ho1 rfl ?_))
 refine wpAny_bind (wpAny_newTuple ?_ (by show (es.map fun e=>Value.ref e.2).length<=_;rw[hlen,sizeLine_eq];omega))
 (refine wpAny_bind (wpAny_newList ?_ (lJt _)))
 refine wpAny_holding ?_
 generalize hg:((s.heap.update a (Obj.mapSeq fun _=>(#[]:Array Value))).push (seqObj "tuple" (List.toArray (es.map fun e=>Value.ref e.2)) 0)).push (seqObj "list" #[] 0)=h1
 refine (show wpAny (model prog w) A _ P E {s with heap:=h1} from ?_)
 have oth:∀p o,p≠a->s.heap.get? p=some o->h1.get? p=some o:=by
  intro p o hp e
  rw[<-hg]
  exact Heap.get?_push_of_some _ (Heap.get?_push_of_some _ ((Heap.get?_update_ne _ _ _ _ hp).trans e))
 have ho6:h1.get? a=some (seqObj "list" #[] e1):=by
  rw[<-hg]
  exact Heap.get?_push_of_some _ (Heap.get?_push_of_some _ ho1)
 have tk:TupKept s.heap h1:=by
  intro p o e hc
  refine oth p o ?_ e
  rintro rfl
  rw[ho] at e;cases e
  exact absurd hc (show ¬ Value.type "list"=Value.type "tuple" by decide)
 have hk1:∀e,e∈es->(jJg prog w).is h1 e.1 e.2/\headI e.1 b/\intT e.1=true:=fun e he=>⟨jUd tk (h e he).1,(h e he).2⟩
 have fin:∀(out:List (TKey×Addr)),out.Perm es->∀st':SortSt,(arrOf st').map (·.2)=List.toArray (out.map fun e=>Value.ref e.2)->failedOf st'=none->
   wpAny (model prog w) A (do
    let touched:=(<-seqEpoch a) != e1
    Builtin.List.listUpdate (.ref a) fun _=>(arrOf st').map (·.2)
    if let some e:=failedOf st' then rule "list.sort.comparison-raised"; throw e
    if (touched) then rule "list.sort.modified"; raiseError "ValueError" "list modified during sort"
    ret .none) P E {s with heap:=h1}:=by
  intro out hp st' hout hf
  rw[hout,hf]
  have hol:out.length=es.length:=hp.length_eq
  refine wpAny_bind (seqEpoch_at (s:={s with heap:=h1}) ho6 rfl ?_)
  refine wpAny_bind (listUpdate_at (s:={s with heap:=h1}) ho6 rfl ?_ (lJt _) (by rw[lJp,lJc,hol,sizeLine_eq];omega))
  (simp only[bne_self_eq_false,lKa,if_false])
  refine wpAny_pure (k out _ _ hp (get?_update_seq ho6 fun _=>List.toArray (out.map fun e=>Value.ref e.2)) fun p o hpa e=>(Heap.get?_update_ne _ _ _ _ hpa).trans (oth p o hpa e))
 dsimp only
 by_cases h2:(List.toArray (es.map fun e=>Value.ref e.2)).size<2
 ·rw[if_pos h2,if_pos h2]
  refine wpAny_bind (wpAny_pure ?_)
  rw[StateT.run_pure]
  refine wpAny_bind (wpAny_pure ?_)
  refine fin es (.refl _) _ ?_ rfl
  ·apply Array.toList_inj.mp
   show (((List.toArray (es.map fun e=>Value.ref e.2)).zip (List.toArray (es.map fun e=>Value.ref e.2))).map (·.2)).toList=_
   rw[Array.toList_map,ksk_zip,List.map_snd_zip (lJd _)]
 ·rw[if_neg h2,if_neg h2]
  rw[lJp,hlen] at h2
  refine wpAny_bind (kind_ok (s:={s with heap:=h1}) hk1 (by omega) ?_)
  have at_:∀i,i<es.length->∃e,e∈es/\es[i]? =some e/\(es.map fun e=>Value.ref e.2).getD i Value.none= .ref e.2:=by
   intro i hi
   refine⟨es[i],lQv hi,lJa hi,?_⟩
   simp[hi]
  let lt:Nat->Nat->Bool:=fun i j=>match es[i]?,es[j]? with
   | some x,some y=>ltK x.1 y.1 == some true
   | _,_=>false
  have lt_eq:∀(i j:Nat) (x y:TKey×Addr),es[i]? =some x->es[j]? =some y->lt i j=(ltK x.1 y.1 == some true):=by
   intro i j x y h1 h2
   show (match es[i]?,es[j]? with | some x,some y=>ltK x.1 y.1 == some true | _,_=>false)=_
   rw[h1,h2]
  refine wpAny_bind (wpAny_mono (kat_run (prog:=prog) (w:=w) (A:=A) (κ:=tuples' b) (vs:=es.map fun e=>Value.ref e.2) (ks:=es.map fun e=>Value.ref e.2) (s:={s with heap:=h1}) (Q:=fun st' s'=>s'={s with heap:=h1}/\∃p:Array Nat,Pm es.length p/\arrOf st'=p.map (kas_item ((List.toArray (es.map fun e=>Value.ref e.2)).zip (List.toArray (es.map fun e=>Value.ref e.2))))/\failedOf st'=none) (G:=fun p s'=>s'={s with heap:=h1}/\Pm es.length p)
   rfl (by rw[hlen];omega) (by rw[hlen];exact h64) (fun p st' s' a1 a2 a3 a4=>⟨a4.1,p,a4.2,a2,a3⟩) ?_) ?_ fun _ _ x=>x)
  ·rw[hlen]
   refine Rn.wp (n:=es.length) (lt:=lt) (Q:=Pm es.length) (fun i j C hi hj hC=> ?_) (fun p hp=>⟨rfl,hp⟩) (sort_pm (by omega))
   obtain⟨x,mx,ex,vx⟩:=at_ i hi
   obtain⟨y,my,ey,vy⟩:=at_ j hj
   obtain⟨c,hc⟩:=Option.isSome_iff_exists.mp (hlt x mx y my)
   unfold kas_ask
   rw[vx,vy]
   refine ask_ok (s:={s with heap:=h1}) hu (hk1 x mx).1 (hk1 y my).1 hc (hk1 x mx).2.1 (hk1 y my).2.1 ?_
   rw[lt_eq _ _ _ _ ex ey,hc] at hC
   cases c<;>exact hC
  ·rintro⟨⟨⟩,st'⟩ s' ⟨rfl,p,hp,har,hf⟩
   have hout:=kat_snds (ks:=es.map fun e=>Value.ref e.2) (vs:=es.map fun e=>Value.ref e.2) rfl har
   have pe:(p.toList.filterMap (es[·]?)).Perm es:=kQi hp
   have ge:∀l:List Nat,(∀i,i∈l->i<es.length)->l.map (fun i=>(es.map fun e=>Value.ref e.2).getD i Value.none)=(l.filterMap (es[·]?)).map fun e=>Value.ref e.2:=by
    intro l hl
    induction l with
    | nil=>rfl
    | cons i l ih=>
     obtain⟨x,mx,ex,vx⟩:=at_ i (hl i (lJq ..))
     rw[lQu ex,lJh,lJh,vx,ih fun j hj=>hl j (lJs _ hj)]
   refine fin (p.toList.filterMap (es[·]?)) pe st' ?_ hf
   ·rw[hout,ge p.toList fun i hi=>lJn.mp (hp.mem_iff.mp hi)]
end
end L3
namespace L3
open PySem PySem.Spec PyProof.Rows L2 PySem.W
theorem perm_of_map {α β:Type} {f:α->β} {l l':List β} (h:l.Perm l'):∀es:List α,l'=es.map f->∃es':List α,es'.Perm es/\l=es'.map f:=by
 induction h with
 | nil=>intro es e;cases es with | nil=>exact⟨[],.refl _,rfl⟩ | cons _ _=>cases e
 | cons x _ ih=>
  intro es e
  cases es with
  | nil=>cases e
  | cons a es=>
   rw[lJh,lK2] at e
   obtain⟨es',h1,h2⟩:=ih es e.2
   exact⟨a::es',h1.cons a,by rw[lJh,e.1,h2]⟩
 | swap x y l=>
  intro es e
  match es,e with
  | a::b::es,e=>
   rw[lJh,lJh,lK2,lK2] at e
   exact⟨b::a::es,.swap _ _ _,by rw[lJh,lJh,e.1,e.2.1,e.2.2]⟩
 | trans _ _ ih1 ih2=>
  intro es e
  obtain⟨es',h1,h2⟩:=ih2 es e
  obtain⟨es'',h3,h4⟩:=ih1 es' h2
  exact⟨es'',h3.trans h1,h4⟩
section
variable {prog:Program} {w:World} {A:Around} {E:Value->Shared->Prop} {s:Shared}
theorem sorted_set {S:Addr} {b:Bool} {kb:List (TKey×Addr)} (hS:SetIs prog w s.heap S kb) (hh:A.handled=none) (hu:A.units+20<cLine) (h:∀e,e∈kb->headI e.1 b/\intT e.1=true) (hlt:∀e,e∈kb->∀e',e'∈kb->(ltK e.1 e'.1).isSome=true) {us:List TKey} (hus:us.length<64) (hkus:∀e,e∈kb->e.1∈us) {Q:Value->Shared->Prop}
  (k:∀(es:List (TKey×Addr)) (h':Heap) (tk:Nat) (D c:Nat),Put es kb->s.heap.objs.size<=D->h'.get? D=some (seqObj "list" (List.toArray (es.map fun e=>Value.ref e.2)) c)->(∀p o,s.heap.get? p=some o->h'.get? p=some o)->Q (.ref D) {s with heap:=h',toks:=tk}):
  wpAny (model prog w) A (call (.builtin "sorted") [.ref S]) Q E s:=by
 obtain⟨o,arr,ep,t,es,d,p,l⟩:=hS
 have el:es.length<64:=Nat.lt_of_le_of_lt (p.few hkus) hus
 (refine Calls.call_function_entry kind_sorted plain_sorted entry_sorted (args_sorted1 _) ?_)
 unfold Builtin.«sorted»
 (refine wpAny_bind (m:=checkCount "sorted" 1 1 _) (wpAny_pure ?_))
 refine wpAny_bind (collect_set (A:=A.in1) d l (by simpa using hh) fun g tk acc kp big pe=> ?_)
 obtain⟨es2,pe2,rfl⟩:=perm_of_map pe es rfl
 have l2:es2.length=es.length:=pe2.length_eq
 refine wpAny_bind (wpAny_newList ?_ (by rw[lJc,sizeLine_eq];omega))
 have hoL:(g.push (seqObj "list" (List.toArray (es2.map fun e=>Value.ref e.2)) 0)).get? g.objs.size=some (seqObj "list" (List.toArray (es2.map fun e=>Value.ref e.2)) 0):=Heap.get?_push_size _ rfl
 refine wpAny_bind (wpAny_holding (wpAny_call_entry slot_list_sort ⟨_,hoL,rfl⟩ entry_list_sort ?_ (args_list_sort _)))
 have hsub:∀e,e∈es2->e∈kb:=fun e he=>p.sub e (pe2.mem_iff.mp he)
 refine sort_list (s:={s with heap:=g.push (seqObj "list" (List.toArray (es2.map fun e=>Value.ref e.2)) 0),toks:=tk}) (b:=b) hoL (by rw[Around.in1_units,Around.in1_units];omega) (fun e he=> ?_) (fun e he e' he'=>hlt e (hsub e he) e' (hsub e' he')) (by omega) fun es' h' c pe' hD oth=> ?_
 ·exact⟨jUd (fun b ob e _=>Heap.get?_push_of_some _ (kp b ob e)) (d.are e (pe2.mem_iff.mp he)),h e (hsub e he)⟩
 ·refine⟨_,rfl,wpAny_pure ⟨_,rfl,k es' h' tk _ c ?_ (Nat.le_of_lt big) hD fun q ob e=>oth q ob ?_ (Heap.get?_push_of_some _ (kp q ob e))⟩⟩
  ·have pp:=pe'.trans pe2
   exact⟨fun e he=>p.sub e (pp.mem_iff.mp he),fun e he=>(pp.map (·.1)).mem_iff.mpr (p.all e he),(pp.map _).nodup_iff.mpr p.nod⟩
  ·exact lJo (lJz (Heap.lt_size e) (Nat.le_of_lt big))
end
theorem kKd {x y:T} {k:Key} (h1:jV3 x=some k) (h2:jV3 y=some k):x=y:=by
 cases x<;>cases h1<;>(cases y<;>cases h2;rfl)
theorem kJw {κ:Type} {f:T->Option κ} (hf:∀x y k,f x=some k->f y=some k->x=y):∀ {xs ys:List T} {ks:List κ},allK f xs=some ks->allK f ys=some ks->xs=ys
 | [],[],_,_,_=>rfl
 | [],y::ys,_,h1,h2=>by
  cases h1
  unfold allK at h2
  cases e1:f y<;>cases e2:allK f ys<;>rw[e1,e2] at h2<;>cases h2
 | x::xs,[],_,h1,h2=>by
  cases h2
  unfold allK at h1
  cases e1:f x<;>cases e2:allK f xs<;>rw[e1,e2] at h1<;>cases h1
 | x::xs,y::ys,ks,h1,h2=>by
  unfold allK at h1 h2
  cases e1:f x with
  | none=>rw[e1] at h1;cases h1
  | some k1=>
   cases e2:allK f xs with
   | none=>rw[e1,e2] at h1;cases h1
   | some k2=>
    rw[e1,e2] at h1;cases h1
    cases e3:f y with
    | none=>rw[e3] at h2;cases h2
    | some k3=>
     cases e4:allK f ys with
     | none=>rw[e3,e4] at h2;cases h2
     | some k4=>
      rw[e3,e4] at h2;cases h2
      rw[hf _ _ _ e1 e3,kJw hf e2 e4]
theorem key1_inj (x y:T) (k:K1) (h1:key1 x=some k) (h2:key1 y=some k):x=y:=by
 cases k with
 | inl k=>
  have f:∀z:T,key1 z=some (.inl k)->jV3 z=some k:=by
   intro z hz
   cases z with
   | tup ts=>
    obtain⟨_,_,e⟩:=lKi.mp (show (allK jV3 ts).map Sum.inr=some (Sum.inl k) from hz)
    cases e
   | int i=>cases hz;rfl
   | str i=>cases hz;rfl
   | _=>cases hz
  exact kKd (f x h1) (f y h2)
 | inr ks=>
  have f:∀z:T,key1 z=some (.inr ks)->∃ts,z= .tup ts/\allK jV3 ts=some ks:=by
   intro z hz
   cases z with
   | tup ts=>
    obtain⟨k',h,e⟩:=lKi.mp (show (allK jV3 ts).map Sum.inr=some (Sum.inr ks) from hz)
    cases e
    exact⟨ts,rfl,h⟩
   | _=>cases hz
  obtain⟨t1,rfl,e1⟩:=f x h1
  obtain⟨t2,rfl,e2⟩:=f y h2
  rw[kJw (fun _ _ _=>kKd) e1 e2]
theorem key2_inj (x y:T) (k:K2) (h1:key2 x=some k) (h2:key2 y=some k):x=y:=by
 cases k with
 | inl k=>
  have f:∀z:T,key2 z=some (.inl k)->jV3 z=some k:=by
   intro z hz
   cases z with
   | tup ts=>
    obtain⟨_,_,e⟩:=lKi.mp (show (allK key1 ts).map Sum.inr=some (Sum.inl k) from hz)
    cases e
   | int i=>cases hz;rfl
   | str i=>cases hz;rfl
   | _=>cases hz
  exact kKd (f x h1) (f y h2)
 | inr ks=>
  have f:∀z:T,key2 z=some (.inr ks)->∃ts,z= .tup ts/\allK key1 ts=some ks:=by
   intro z hz
   cases z with
   | tup ts=>
    obtain⟨k',h,e⟩:=lKi.mp (show (allK key1 ts).map Sum.inr=some (Sum.inr ks) from hz)
    cases e
    exact⟨ts,rfl,h⟩
   | _=>cases hz
  obtain⟨t1,rfl,e1⟩:=f x h1
  obtain⟨t2,rfl,e2⟩:=f y h2
  rw[kJw key1_inj e1 e2]
theorem keysOf_inj {xs ys:List T} {k:TKey} (h1:jQ9 xs=some k) (h2:jQ9 ys=some k):xs=ys:=kJw key2_inj h1 h2
def SKey (b:Bool) (ts:List T) (k:TKey):Prop:=jQ9 ts=some k/\headI k b/\intT k=true
theorem jK7 {K:PySem.W.Frag} {H:Hp} {b:Bool}:∀ {tks:List (List T×TKey)} {vs:List V} {its:List Value},(∀e,e∈tks->SKey b e.1 e.2)->Reps K H (tks.map fun e=> .tup e.1) vs->Vals vs its->
  ∃tb:List ((List T×TKey)×Addr),tb.map (·.1)=tks/\vs=tb.map (fun e=> .ref e.2)/\its=tb.map (fun e=>Value.ref e.2)/\∀e,e∈tb->TKeyAt H e.1.2 e.2/\Rep K H (.tup e.1.1) (.ref e.2)
 | [],_,_,_,r,v=>by
  cases (show _=[] from r)
  cases v
  exact⟨[],rfl,rfl,rfl,fun e he=>absurd he (lJu)⟩
 | (ts,k)::tks,_,its,hk,⟨v,ws,e,r1,r2⟩,vv=>by
  subst e
  cases vv with
  | @cons _ u _ us hr hrs=>
  obtain⟨tb,h1,h2,h3,h4⟩:=jK7 (fun e he=>hk e (lJs _ he)) r2 hrs
  obtain⟨a,vs',e,ha,hrep⟩:=(show ∃a vs',v= .ref a/\H a=some (.tup vs')/\Reps K H ts vs' from r1)
  subst e
  cases (show u=Value.ref a from hr)
  refine⟨((ts,k),a)::tb,by rw[lJh,h1],by rw[lJh,h2],by rw[lJh,h3],fun e he=> ?_⟩
  (rcases lJi.mp he with rfl | he)
  ·exact⟨jU8 (hk _ (lJq ..)).1 ha hrep,r1⟩
  ·exact h4 e he
theorem pick_tb {tb:List ((List T×TKey)×Addr)}:∀(es:List (TKey×Addr)),(∀e,e∈es->e∈tb.map fun x=>(x.1.2,x.2))->∃tb':List ((List T×TKey)×Addr),tb'.map (fun x=>(x.1.2,x.2))=es/\∀e,e∈tb'->e∈tb
 | [],_=>⟨[],rfl,fun e he=>absurd he (lJu)⟩
 | e::es,h=>by
  obtain⟨tb',h1,h2⟩:=pick_tb es fun x hx=>h x (lJs _ hx)
  obtain⟨x,hx,ex⟩:=lJg.mp (h e (lJq ..))
  refine⟨x::tb',by rw[lJh,h1,ex],fun y hy=> ?_⟩
  (rcases lJi.mp hy with rfl | hy)
  ·exact hx
  ·exact h2 y hy
theorem reps_tb {K:PySem.W.Frag} {H:Hp}:∀(tb:List ((List T×TKey)×Addr)),(∀e,e∈tb->Rep K H (.tup e.1.1) (.ref e.2))->Reps K H (tb.map fun e=> .tup e.1.1) (tb.map fun e=>V.ref e.2)
 | [],_=>rfl
 | e::tb,h=>⟨_,_,rfl,h e (lJq ..),reps_tb tb fun x hx=>h x (lJs _ hx)⟩
theorem vals_refs:∀(bs:List ((List T×TKey)×Addr)),Vals (bs.map fun e=>V.ref e.2) (bs.map fun e=>Value.ref e.2)
 | []=> .nil
 | e::bs=> .cons rfl (vals_refs bs)
section
variable {X:Cx}
structure Rising (xs ys:List T) (kys:List (List T×TKey)):Prop where
 eq:ys=kys.map fun e=> .tup e.1
 keys:∀e,e∈kys->jQ9 e.1=some e.2
 mem:∀t,t∈ys↔t∈xs
noncomputable def tSSet (ta:TA3):TE3:=fun τ G Q=>ta τ G fun vs G1=>∃(x:T) (b:Bool) (tks:List (List T×TKey)),vs=[x]/\jXf G1 x=some (tks.map fun e:List T×TKey=> .tup e.1)/\(∃us:List TKey,us.length<64/\∀e,e∈tks->e.2∈us)/\(∀e,e∈tks->SKey b e.1 e.2)/\(∀e,e∈tks->∀e',e'∈tks->(ltK e.2 e'.2).isSome=true)/\
 ∀(p:Addr) (ys:List T) (kys:List (List T×TKey)),G1 p=none->Rising (tks.map fun e=> .tup e.1) ys kys->Q (.ref p) (gup G1 p (.lst ys))
theorem e_sset {pos pos' p p':Pos} {a:Expr} {ta:TA3} (hc:X.calm=true) (hu:X.A.units+20<cLine) (hl:Gl X "sorted") (hlm:X.mg "sorted"=none) (hlv:bootBuiltins "sorted"=some (.builtin "sorted")) (hg:Gl X "set") (hm:X.mg "set"=none) (hv:bootBuiltins "set"=some (.type "set")) (ha:PA3 X [a] ta) (hs:starEach [a] X.env=[(false,eval a X.env)]:=by rfl)
  (hs':starEach [Expr.Call (.Name "set" p) [a] [] pos] X.env=[(false,eval (.Call (.Name "set" p) [a] [] pos) X.env)]:=by rfl):
  PE3 X (.Call (.Name "sorted" p') [.Call (.Name "set" p) [a] [] pos] [] pos') (tSSet ta):=by
 intro pins s τ G H Q I h
 obtain⟨σ,I0,_,_⟩:=id I
 refine Call_ (jV2 I0 hl hlm hlv (PyProof.Rows.callWith_builtin1 ?_ hs' rfl))
 rw[hs']
 refine Calls.spliced_cons (Call_ (jV2 I0 hg hm hv (PyProof.Rows.callWith_type1 (thn (ha pos pins s τ G H _ I h) fun us s1 w_=>w_.el fun ys G1 H1 e1 i_ r_ q1=>i_.el fun σ1 I1 hs1 hg1=>r_.el fun as ras rvs=> ?_) hs rfl)))
 obtain⟨x,b,tks,e,hx,⟨us,hus,hkus⟩,hk,hlt,q⟩:=q1
 subst e
 obtain⟨v,rfl,rv⟩:=jXl ras
 obtain⟨u,rfl,ru⟩:=rvs.one
 obtain⟨pa,vs,rfl,hq,r⟩:=jZc hg1 rv hx
 cases ru
 obtain⟨its,rvv,pl,hz⟩:=I1.list hq
 obtain⟨tb,t1,t2,t3,t4⟩:=jK7 hk r rvv
 have tl:tb.length=tks.length:=by rw[<-t1,lJc]
 have hmem:∀e,e∈tb->e.1∈tks:=fun e he=>by rw[<-t1];exact lJg.mpr ⟨e,he,rfl⟩
 have hkb:∀e,e∈(tb.map fun e=>(e.1.2,e.2))->e.1∈us:=by
  intro e he
  obtain⟨y,hy,rfl⟩:=lJg.mp he
  exact hkus _ (hmem y hy)
 refine kQ8 (kb:=tb.map fun e=>(e.1.2,e.2)) (I1.ok.hd hc) hu pl.isList (by rw[List.toList_toArray,t3,lJj];rfl) (fun e he=> ?_) hus hkb fun h2 tk2 hS kp2=> ?_
 ·obtain⟨y,hy,rfl⟩:=lJg.mp he
  exact⟨(hk _ (hmem y hy)).2.2,kKc I1.hok (t4 y hy).1⟩
 refine Calls.spliced_nil ?_
 refine sorted_set (s:={s1 with heap:=h2,toks:=tk2}) (b:=b) hS (I1.ok.hd hc) hu (fun e he=> ?_) (fun e he e' he'=> ?_) hus hkb fun es h3 tk3 D c hp hD hoD kp3=> ?_
 ·obtain⟨y,hy,rfl⟩:=lJg.mp he
  exact (hk _ (hmem y hy)).2
 ·obtain⟨y,hy,rfl⟩:=lJg.mp he
  obtain⟨y',hy',rfl⟩:=lJg.mp he'
  exact hlt _ (hmem y hy) _ (hmem y' hy')
 obtain⟨tb',p1,p2⟩:=pick_tb es fun e he=>hp.sub e he
 have kp:∀b o,s1.heap.get? b=some o->h3.get? b=some o:=fun b o e=>kp3 b o (kp2 b o e)
 have hD1:s1.heap.objs.size<=D:=by
  obtain⟨o,_,_,_,_,d,_⟩:=hS
  exact lKb (Nat.le_of_lt (Heap.lt_size d.get)) hD
 have fr:=I1.hok.fresh hD1
 have es_len:tb'.length<=us.length:=by
  have:=hp.few hkb
  rw[<-p1,lJc] at this
  exact this
 have I3:=I1.laid (a:=D) (o:= .lst (tb'.map fun e=>V.ref e.2)) (h':=h3) (t':=tk3) kp hD1 ⟨by rw[lJc,sizeLine_eq];omega,tb'.map fun e=>Value.ref e.2,c,vals_refs tb',by rw[<-p1,lJj] at hoD;exact hoD⟩
 have ext:Ext H1 (upd H1 D (.lst (tb'.map fun e=>V.ref e.2))):= .upd (.none fr)
 refine⟨.ref D,_,_,e1.trans ext,⟨σ1,I3,hs1.mono ext,hg1.lstNew (reps_tb tb' fun e he=>(t4 e (p2 e he)).2) (.none fr)⟩,⟨.ref D,rfl,rfl⟩,?_⟩
 refine q D _ (tb'.map (·.1)) (hg1.fresh fr) ⟨by rw[lJj];rfl,fun e he=> ?_,fun t=>⟨fun ht=> ?_,fun ht=> ?_⟩⟩
 ·obtain⟨y,hy,rfl⟩:=lJg.mp he
  exact (hk _ (hmem y (p2 y hy))).1
 ·obtain⟨y,hy,rfl⟩:=lJg.mp ht
  exact lJg.mpr ⟨y.1,hmem y (p2 y hy),rfl⟩
 ·obtain⟨y,hy,rfl⟩:=lJg.mp ht
  rw[<-t1] at hy
  obtain⟨z,hz',rfl⟩:=lJg.mp hy
  have:=hp.all (z.1.2,z.2) (lJg.mpr ⟨z,hz',rfl⟩)
  rw[<-p1,lJj] at this
  obtain⟨z',hz'',ez⟩:=lJg.mp this
  have ek:z'.1.2=z.1.2:=ez
  refine lJg.mpr ⟨z',hz'',?_⟩
  have k1:=(hk _ (hmem z' (p2 z' hz''))).1
  have k2:=(hk _ (hmem z hz')).1
  rw[ek] at k1
  rw[keysOf_inj k1 k2]
end
end L3
namespace L3
open PySem PySem.Spec PyProof.Rows L2
section
variable {X:Cx}
theorem jZz {P:Program} {w:World} {K:PySem.W.Frag} {H:Hp} {h:Heap} (ok:HOk P w H h):∀ {kys:List (List T×TKey)} {vs:List V} {its:List Value},(∀e,e∈kys->jQ9 e.1=some e.2)->Reps K H (kys.map fun e=> .tup e.1) vs->Vals vs its->∀(i:Nat) (u:Value),its[i]? =some u->∃e b,kys[i]? =some e/\u= .ref b/\(jJg P w).is h e.2 b
 | [],_,_,_,r,v,i,u,hu=>by
  cases (show _=[] from r);cases v;simp at hu
 | e::kys,_,_,hk,⟨v,ws,ev,r1,r2⟩,vv,i,u,hu=>by
  subst ev
  cases vv with
  | @cons _ u0 _ us hr hrs=>
  cases i with
  | zero=>
   cases hu
   obtain⟨a,vs',ea,ha,hrep⟩:=(show ∃a vs',v= .ref a/\H a=some (.tup vs')/\Reps K H e.1 vs' from r1)
   subst ea
   exact⟨e,a,rfl,hr,kKc ok (jU8 (hk e (lJq ..)) ha hrep)⟩
  | succ i=>exact jZz ok (fun x hx=>hk x (lJs _ hx)) r2 hrs i u hu
noncomputable def rIndexK:T->List T->Gp->VK3->Prop:=fun x as G Q=>∃(p:Addr) (kys:List (List T×TKey)) (ys:List T) (k:TKey) (j:Nat),x= .ref p/\as=[.tup ys]/\G p=some (.lst (kys.map fun e=> .tup e.1))/\(∀e,e∈kys->jQ9 e.1=some e.2)/\jQ9 ys=some k/\(kys.map (·.2))[j]? =some k/\(∀m,m<j->(kys.map (·.2))[m]? ≠some k)/\Q (.int j) G
theorem m_indexK (hu:X.A.units+20<cLine):Mt3 X "list.index" rIndexK:=by
 rintro pins s τ G H x as v us Q ⟨σ,I,hs,hg⟩ ⟨a,ra,rv⟩ ⟨bs,rbs,rus⟩ ⟨p,kys,ys,k,j,ex,ea,hp,hks,hk,hj,hno,q⟩
 subst ex;subst ea
 cases (show a= .ref p from ra);cases rv
 obtain⟨b,rfl,rb⟩:=jXl rbs
 obtain⟨u,rfl,ru⟩:=rus.one
 obtain⟨vs,h1,h2⟩:=hg.lst hp
 obtain⟨hz,its,n,r,hl,e⟩:=I.lstM h1
 obtain⟨qa,vs',eb,hqa,hrep⟩:=(show ∃qa vs',b= .ref qa/\H qa=some (.tup vs')/\Reps X.K H ys vs' from rb)
 subst eb
 cases (show u=Value.ref qa from ru)
 have hkq:(jJg X.prog X.w).is s.heap k qa:=kKc I.hok (jU8 hk hqa hrep)
 have at_:=jZz (P:=X.prog) (w:=X.w) I.hok hks h2 r
 have hlen:its.length=kys.length:=by have:=r.length;have:=h2.length;rw[lJc] at this;omega
 have hjl:j<kys.length:=by have:=(lJb.mp hj).1;rw[lJc] at this;exact this
 have hsl:=jZ1
 let ef:Value->Bool:=fun w=> @decide (∃b,w= .ref b/\(jJg X.prog X.w).is s.heap k b) (Classical.propDecidable _)
 have ef_at:∀(i:Nat) (w:Value),its[i]? =some w->∃e b,kys[i]? =some e/\w= .ref b/\(jJg X.prog X.w).is s.heap e.2 b/\ef w=decide (e.2=k):=by
  intro i w hw
  obtain⟨e,b,e1,e2,e3⟩:=at_ i w hw
  refine⟨e,b,e1,e2,e3,?_⟩
  by_cases c:e.2=k
  ·rw[decide_eq_true c]
   exact @decide_eq_true _ (Classical.propDecidable _) ⟨b,e2,c▸e3⟩
  ·rw[decide_eq_false c]
   refine @decide_eq_false _ (Classical.propDecidable _) ?_
   rintro⟨b',e4,e5⟩
   rw[e2] at e4;cases e4
   exact c ((jJg X.prog X.w).inj e3 e5)
 refine call_meets F.slot_list_index ⟨_,e,rfl⟩ F.entry_list_index (F.args_list_index_2 _ _) (SeqAt.list_indexAt p its.toArray n none #[] (.ref qa) ef j (by simp;omega) (by omega) ?_ ?_) ⟨e,fun w hw=> ?_,?_⟩
 ·obtain⟨e,b,e1,_,_,e4⟩:=ef_at j its[j] (lJa (by omega))
  rw[lJe,e1] at hj
  have:e.2=k:=by simpa using hj
  rw[decide_eq_true this] at e4
  simpa using e4
 ·intro m hm hmj
  have hm':m<its.length:=by simpa using hm
  obtain⟨e,b,e1,_,_,e4⟩:=ef_at m its[m] (lJa hm')
  have:=hno m hmj
  rw[lJe,e1] at this
  have ne:e.2≠k:=fun z=>this (by rw[<-z];rfl)
  rw[decide_eq_false ne] at e4
  simpa using e4
 ·obtain⟨i,hi,ei⟩:=lK6 (show w∈its by simpa using hw)
  obtain⟨e,b,e1,e2,e3,e4⟩:=ef_at i w (by rw[lJa hi,ei])
  rw[e4,e2]
  exact (jVr (vk2 X.prog X.w)).eqAt (by rw[Around.in1_units];omega) e3 hkq
 ·exact⟨.int _,G,H,.refl H,⟨σ,I.tok _,hs,hg⟩,⟨.int _,rfl,s.toks,rfl⟩,q⟩
end
end L3
namespace L3
open PySem PySem.Spec PyProof.Rows L2
section
variable {X:Cx}
noncomputable def jXe (b:Int):List Int->Int
 | []=>b
 | x::xs=>jXe (if x>b then x else b) xs
theorem mostB_snoc (xs:List Int):∀(b y:Int),jXe b (xs++[y])=if y>jXe b xs then y else jXe b xs:=by
 induction xs with
 | nil=>intro b y;rfl
 | cons x xs ih=>intro b y;exact ih _ y
theorem mostB_le (xs:List Int):∀b,b<=jXe b xs/\∀x∈xs,x<=jXe b xs:=by
 induction xs with
 | nil=>intro b;exact⟨Int.le_refl b,fun x hx=>by cases hx⟩
 | cons x xs ih=>
  intro b
  obtain⟨h1,h2⟩:=ih (if x>b then x else b)
  have e:jXe b (x::xs)=jXe (if x>b then x else b) xs:=rfl
  rw[e]
  by_cases hx:x>b
  ·rw[if_pos hx] at h1 h2 ⊢
   refine⟨by omega,fun y hy=> ?_⟩
   rcases (lJi.mp hy) with rfl | z
   ·exact h1
   ·exact h2 y z
  ·rw[if_neg hx] at h1 h2 ⊢
   refine⟨h1,fun y hy=> ?_⟩
   rcases (lJi.mp hy) with rfl | z
   ·omega
   ·exact h2 y z
theorem mostB_mem (xs:List Int):∀b,jXe b xs=b\/jXe b xs∈xs:=by
 induction xs with
 | nil=>intro b;exact .inl rfl
 | cons x xs ih=>
  intro b
  have e:jXe b (x::xs)=jXe (if x>b then x else b) xs:=rfl
  rw[e]
  rcases ih (if x>b then x else b) with h | h
  ·rw[h]
   by_cases hx:x>b
   ·rw[if_pos hx];exact .inr lJq
   ·rw[if_neg hx];exact .inl rfl
  ·exact .inr (lJs _ h)
theorem argBest_most (f:Nat->Int):∀k,f (argBest (fun i j=>decide (f i>f j)) k)=jXe (f 0) ((List.range k).map fun i=>f (i+1)):=by
 intro k
 induction k with
 | zero=>rfl
 | succ k ih=>
  rw[lKk,lKg,List.map_singleton,mostB_snoc,<-ih]
  simp only[argBest,decide_eq_true_eq]
  by_cases h:f (k+1)>f (argBest (fun i j=>decide (f i>f j)) k)
  ·rw[if_pos h,if_pos h]
  ·rw[if_neg h,if_neg h]
theorem call_maxL (hc:X.calm=true):kU8 X (.builtin "max") (fun xs H Q=>∃p i is,xs=[.ref p]/\SqL X.K H p ((i::is).map V.int)/\Q (.int (jXe i is)) H):=by
 intro pins s σ H xs us Q I r h
 obtain⟨p,i,is,rfl,hx,q⟩:=h
 obtain⟨u,rfl,ru⟩:=vals1 r
 cases ru
 obtain⟨its,r',pl,hz⟩:=I.list hx
 obtain⟨ps,e1,e2⟩:=jXn r'
 subst e1
 have hne:0<ps.toArray.size:=by
  have:=congrArg List.length e2
  simp at this ⊢; omega
 have eI:(ps.map (fun p=>Value.int p.1 p.2)).toArray=intItems ps.toArray:=by simp[intItems]
 refine max_intList (xs:=ps.toArray) (I.ok.hd hc) (eI▸pl.isList) hne fun v h' tk hv k=> ?_
 obtain⟨t,rfl⟩:=(intItems_at hv)
 have hl:ps.toArray.size-1=is.length:=by
  have:=congrArg List.length e2
  simp at this ⊢; omega
 have hn:∀j,numAt ps.toArray j=((i::is)[j]?).getD 0:=fun j=>by rw[<-e2];simp[numAt]
 refine⟨.int (jXe i is),H,I.kept k,?_,q⟩
 refine⟨t,?_⟩
 rw[argBest_most (numAt ps.toArray),hl]
 have a0:numAt ps.toArray 0=i:=by rw[hn];rfl
 have a1:((List.range is.length).map fun j=>numAt ps.toArray (j+1))=is:=by
  apply lJx ; intro j
  rw[lJe]
  by_cases hj:j<is.length
  ·rw[lJw hj,lJ9,hn,List.getElem?_cons_succ,lJa hj];rfl
  ·rw[lJk (by simpa using hj),lJk (by simpa using hj)];rfl
 rw[a0,a1]
noncomputable def rMaxL:List T->Gp->VK3->Prop:=fun xs G Q=>∃p i is,xs=[.ref p]/\G p=some (.lst ((i::is).map T.int))/\Q (.int (jXe i is)) G
theorem c_maxL (hc:X.calm=true):Call3 X (.builtin "max") rMaxL:=
 Call3.of (call_maxL hc) fun H G xs as Q hg ra ⟨p,i,is,e,hG,q⟩=>by
  subst e
  obtain⟨v,rfl,rv⟩:=jXl ra
  cases (show v= .ref p from rv)
  obtain⟨vs,h1,h2⟩:=hg.lst hG
  have e:=jVa h2
  subst e
  exact⟨p,i,is,rfl,.of h1,.int _,G,.refl H,hg,rfl,q⟩
end
end L3
namespace W
open PySem L3
local macro_rules
 | `(tactic| wp_walk using 1, $ts,*) => do
  let ls ← ts.getElems.mapM fun t => `(Lean.Parser.Tactic.simpLemma| $t:term)
  let ns ← ("tSeq tIfS jKw tOp rGt rLt rGe rSub L3.rI0 L3.rI rIxF tVar tC tAsg tCB jJc tNil rDivmod rLen rAbs rMax rIntOf gTup jKg gNil gSub jJj jVz tRet tRetN jQn jV7 jJy tLst tTup tIf tNot tAnd tOr tAndV tOrV tNotV tPar jK6 jXm rMod rFdiv rPow rIsN rNotN isNon tTru rTru truT tUn rNeg addR_int mulR_int mulC_int mulC_ref fin_val fin_new ixR_tup ixR_scr at0 at1 at2 ix30 ix31 ix32 seqT_tup setR_gup ixR_gup seqT_gup Option.map_some and_assoc T.int.injEq T.bl.injEq T.tup.injEq T.ref.injEq List.cons.injEq and_true true_and exists_eq_left exists_eq_left' exists_and_left exists_eq_right List.getElem?_cons_zero List.getElem?_cons_succ List.set_cons_zero List.set_cons_succ List.length_cons List.length_nil Nat.reduceAdd Option.some.injEq jJi gup_gup reduceCtorEq false_and exists_false exists_const Bool.true_eq Bool.not_eq_true' Bool.not_true Bool.not_false if_true if_false decide_eq_true_eq tBM jQm kJ4 jJ9 tComp_at jUh GO.lst.injEq msk List.zipWith_cons_cons List.zipWith_nil_left List.zipWith_nil_right Bool.false_eq_true tyT_gup".splitOn " ").toArray.mapM fun n => `(Lean.Parser.Tactic.simpLemma| $(Lean.mkIdent n.toName):term)
  let al:=ns++ls
  `(tactic| ((try dsimp only [$al,*]); (try simp only [$al,*])))
local macro_rules
 | `(tactic| omega) => `(tactic| first | exact szle rfl | lia)
def BoxAt (G:Gp) (b:Addr) (n:Nat):Prop:=∃x y z:Int,G b=some (.lst [.int x,.int y,.int z])/\0<=x/\0<=y/\y<2147483648/\0<=z/\z<=n
def Keep (b:Addr) (G G':Gp):Prop:=∀c o,c≠b->G c=some o->G' c=some o
theorem Keep.refl (b:Addr) (G:Gp):Keep b G G:=fun _ _ _ h=>h
theorem Keep.trans {b:Addr} {G G1 G2:Gp} (h:Keep b G G1) (h':Keep b G1 G2):Keep b G G2:=fun c o hc e=>h' c o hc (h c o hc e)
theorem Keep.gup {b:Addr} {G:Gp} {o:GO}:Keep b G (gup G b o):=fun c u hc e=>by rw[jJu hc];exact e
theorem Keep.new {b p:Addr} {G:Gp} {o:GO} (hp:G p=none):Keep b G (L3.gup G p o):=fun c u _ e=>by rw[jJu];exact e;rintro rfl;rw[hp] at e;cases e
noncomputable def jJs:Sp3:=fun xs G Q=>∃(b:Addr) (m:Int) (n:Nat),xs=[.ref b,.int m]/\BoxAt G b n/\n<2^40/\1<=m/\m<2^29/\∀(r:Int) G',0<=r->r<m->BoxAt G' b (n+1)->Keep b G G'->Q (.int r) G'
noncomputable def N_l_take:List Str:=["_law_box_here","_law_many","_law_found","_law_once"]
noncomputable def jYx:TS3:=
 (tSeq (tIfS (jKw (tOp rGt (tOp rIxF (tVar 0) (tC (.int 0))) (tC (.int 0)))) (tSeq (tAsg (tCB rDivmod (jJc (tOp rIxF (tVar 0) (tC (.int 0))) (jJc (tVar 1) tNil))) (gTup 2 (jKg (gSub (tVar 0) (tC (.int 0)) jVz) (jKg (jJj 2) gNil))))
 (tRet (tVar 2))) jQn)
 (tSeq (tAsg (tOp jK6 (tOp rIxF (tVar 0) (tC (.int 2))) (tC (.int 1))) (gSub (tVar 0) (tC (.int 2)) jVz))
 (tSeq (tAsg (tOp rMod (tOp jXm (tOp jK6 (tOp rIxF (tVar 0) (tC (.int 1))) (tOp jXm (tC (.int 39373)) (tOp rIxF (tVar 0) (tC (.int 2))))) (tOp jK6 (tC (.int 48271)) (tOp rIxF (tVar 0) (tC (.int 2))))) (tC (.int 2147483647))) (jJj 3))
 (tSeq (tAsg (tOp rMod (tOp jK6 (tOp jXm (tVar 3) (tOp jK6 (tOp rMod (tVar 3) (tC (.int 40009))) (tC (.int 7)))) (tOp rIxF (tVar 0) (tC (.int 2)))) (tC (.int 2147483629))) (gSub (tVar 0) (tC (.int 1)) jVz))
 (tRet (tOp rMod (tOp rFdiv (tOp rMod (tOp jXm (tOp rIxF (tVar 0) (tC (.int 1))) (tOp jK6 (tOp rMod (tOp rIxF (tVar 0) (tC (.int 1))) (tC (.int 1009))) (tC (.int 3)))) (tC (.int 998244353))) (tC (.int 7))) (tVar 1)))))))
theorem rdok_l_take:∀xs G Q,jJs xs G Q->jYx {nx:=fun _ G'=>Q .non G',rt:=Q} (jJk N_l_take xs) G:=by
 intro xs G Q h_;apply xe3 h_;clear h_;intro b m n h_;apply ae5 h_;clear h_;intro q0_ hn hm1 hm2 k
 obtain⟨x,y,z,hb,hx,hy0,hy1,hz0,hz1⟩:=q0_
 rw[show jJk N_l_take [.ref b,.int m]=[some (.ref b),some (.int m),none,none] from rfl]
 wp_walk using 1,jYx,jKk hb,setR_m hb
 have box:∀x' y' z':Int,0<=x'->0<=y'->y'<2147483648->0<=z'->z'<=n+1->BoxAt (gup G b (.lst [.int x',.int y',.int z'])) b (n+1):=fun x' y' z' h1 h2 h3 h4 h5=>⟨x',y',z',jJi,h1,h2,h3,h4,by omega⟩
 split
 ·refine⟨⟨by omega,by omega⟩,k _ _ (lQs _ (by omega)) (lQt _ (by omega)) (box _ _ _ (Int.ediv_nonneg hx (by omega)) hy0 hy1 hz0 (by omega)) .gup⟩
 ·have a0:=lQs ((y+39373*(z+1))*(48271+(z+1))) (b:=2147483647) (by decide)
  have a1:=lQt ((y+39373*(z+1))*(48271+(z+1))) (b:=2147483647) (by decide)
  refine⟨.inl (by decide),.inr ⟨by omega,by omega⟩,by decide,by decide,?_⟩
  generalize (y+39373*(z+1))*(48271+(z+1))%2147483647=u at a0 a1 ⊢
  have b0:=lQs (u*(u%40009+7)+(z+1)) (b:=2147483629) (by decide)
  have b1:=lQt (u*(u%40009+7)+(z+1)) (b:=2147483629) (by decide)
  refine⟨.inl ⟨by omega,by omega⟩,by decide,by decide,?_⟩
  generalize (u*(u%40009+7)+(z+1))%2147483629=v at b0 b1 ⊢
  refine⟨.inl ⟨by omega,by omega⟩,by decide,⟨by decide,by decide⟩,by omega,?_⟩
  exact k _ _ (lQs _ (by omega)) (lQt _ (by omega)) (box _ _ _ hx b0 (by omega) (by omega) (by omega)) .gup
noncomputable abbrev jZx (ns:List Int):List T:=ns.map T.int
theorem sz:sizeLine=16777216:=PySem.sizeLine_eq
noncomputable def jUt:Sp3:=fun xs G Q=>∃(ns:List Int) (k:Int),xs=[.scr (jZx ns),.int k]/\ns.length<=63/\0<=k/\k<100/\∀p G',G p=none->BoxAt G' p 0->Sub G G'->Q (.ref p) G'
noncomputable def N_l_box:List Str:=["_law_script","_law_k","_law_cell"]
noncomputable def kJm:TS3:=
 (tSeq (tAsg (tOp rIxF (tOp rAddS (tVar 0) (tOp jXm (tLst (jJc (tC (.int 0)) tNil)) (tOp jK6 (tVar 1) (tC (.int 1))))) (tVar 1)) (jJj 2))
 (tRet (tLst (jJc (tOp jXm (tCB rAbs (jJc (tVar 2) tNil)) (tCB rIntOf (jJc (tOp rGe (tCB rAbs (jJc (tVar 2) tNil)) (tOp rPow (tC (.int 10)) (tC (.int 18)))) tNil))) (jJc (tOp rMod (tOp jXm (tOp jK6 (tOp jK6 (tOp rMod (tVar 2) (tC (.int 2147483647))) (tOp jXm (tC (.int 7919)) (tVar 1))) (tC (.int 11))) (tC (.int 48271))) (tC (.int 2147483629))) (jJc (tC (.int 0)) tNil))))))
theorem rdok_l_box:∀xs G Q,jUt xs G Q->kJm {nx:=fun _ G'=>Q .non G',rt:=Q} (jJk N_l_box xs) G:=by
 intro xs G Q h_;apply xe2 h_;clear h_;intro ns k h_;apply ae4 h_;clear h_;intro hl hk0 hk1 kk
 rw[show jJk N_l_box [.scr (jZx ns),.int k]=[some (.scr (jZx ns)),some (.int k),none] from rfl]
 have hs:=sz
 wp_walk using 1,kJm
 refine⟨by omega,fun p hp=> ?_⟩
 have e1:mulR (gup G p (GO.lst [T.int 0])) (.ref p) (.int (k+1))=some (.newL (List.replicate (k+1).toNat [T.int 0]).flatten):=by
  simp only[mulR,jJi];rw[if_pos];refine⟨?_,?_,?_⟩<;>simp<;>omega
 wp_walk using 1,e1
 intro q hq
 obtain⟨hqp,hq0⟩:=jUg hq
 have hfl:(List.replicate (k+1).toNat [T.int 0]).flatten=List.replicate (k+1).toNat (T.int 0):=by
  induction (k+1).toNat with
  | zero=>rfl
  | succ n ih=>rw[lKr,lQb,ih];rfl
 refine⟨_,show asL (gup _ q _ q)=_ by rw[jJi];rfl,by rw[hfl];simp;omega,?_⟩
 intro r hr
 obtain⟨hrq,hr1⟩:=jUg hr
 obtain⟨hrp,hr0⟩:=jUg hr1
 obtain⟨v,hv⟩:∃v:Int,L2.atI (jZx ns++(List.replicate (k+1).toNat [T.int 0]).flatten) k=some (.int v):=by
  rw[atZ hk0,hfl]
  by_cases h:k.toNat<ns.length
  ·rw[lKh (by simpa using h)]
   exact⟨ns[k.toNat],by simp[h]⟩
  ·rw[lQa (by simpa using h),lQ0]
   exact⟨0,by rw[if_pos];simp;omega⟩
 wp_walk using 1,hv
 refine⟨⟨by decide,by decide,by decide⟩,.inr (by split<;>split<;>decide),by decide,.inl (by decide),.inr (by decide),by decide,by omega,fun b hbn=> ?_⟩
 obtain⟨hbr,hb1⟩:=jUg hbn
 obtain⟨hbq,hb2⟩:=jUg hb1
 obtain⟨hbp,hb0⟩:=jUg hb2
 refine kk b _ hb0 ⟨_,_,_,jJi,Int.mul_nonneg (by split<;>omega) (by split<;>split<;>decide),lQs _ (by decide),?_,Int.le_refl _,by simp⟩ ((((Sub.new hp).over hq0).over hr0).over hb0)
 have:=lQt ((v%2147483647+7919*k+11)*48271) (b:=2147483629) (by decide)
 omega
noncomputable abbrev Web:=List (List (Nat×Nat))
noncomputable def encE (e:Nat×Nat):T:= .tup [.int e.1,.int e.2]
noncomputable def encR (r:List (Nat×Nat)):T:= .tup (r.map encE)
noncomputable def encW (W:Web):T:= .tup (W.map encR)
noncomputable def en (W:Web) (r i:Nat):Option (Nat×Nat):=(W[r]?).bind fun es=>es[i]?
def Sym (W:Web):Prop:=∀r i s j,en W r i=some (s,j)->en W s j=some (r,i)
noncomputable def sw:Nat->Nat
 | 0=>1
 | 1=>0
 | n=>n
theorem sw_sw {n:Nat} (h:n<=2):sw (sw n)=n/\sw n<=2:=by
 have:n=0\/n=1\/n=2:=by omega
 rcases this with rfl | rfl | rfl<;>exact⟨rfl,by decide⟩
def RowsAt (G:Gp) (h:Addr) (Hs:Web) (rs:List Addr):Prop:=G h=some (.lst (rs.map T.ref))/\rs.length=Hs.length/\∀(i:Nat) (r:Addr),rs[i]? =some r->∃hs:List (Nat×Nat),Hs[i]? =some hs/\G r=some (.lst (hs.map encE))
theorem RowsAt.sub {G G':Gp} {h:Addr} {Hs:Web} {rs:List Addr} (s:Sub G G') (x:RowsAt G h Hs rs):RowsAt G' h Hs rs:=⟨s _ _ x.1,x.2.1,fun i r e=>let ⟨hs,h1,h2⟩:=x.2.2 i r e;⟨hs,h1,s _ _ h2⟩⟩
structure JoinOk (Hs:Web):Prop where
 len:Hs.length<=1000
 row:∀(r:Nat) (hs:List (Nat×Nat)),Hs[r]? =some hs->hs.length<=1000
 inj:∀r i r' i' h,en Hs r i=some h->en Hs r' i'=some h->r=r'/\i=i'
 part:∀r i t s,en Hs r i=some (t,s)->s<=2/\∃r' i',en Hs r' i'=some (t,sw s)
noncomputable def keyE (e:Nat×Nat):L2.TKey:=[.inl (.inl (e.1:Int)),.inl (.inl (e.2:Int))]
theorem keyE_inj {a b:Nat×Nat} (h:keyE a=keyE b):a=b:=by
 obtain⟨a1,a2⟩:=a;obtain⟨b1,b2⟩:=b
 simp only[keyE,lK2,Sum.inl.injEq,and_true] at h
 obtain⟨h1,h2⟩:=h
 rw[Int.ofNat.inj h1,Int.ofNat.inj h2]
theorem kQl {a b:Int}:jQ9 [.int a,.int b]=some [.inl (.inl a),.inl (.inl b)]:=rfl
theorem valT_put {κ:Type} [DecidableEq κ] (kvs:List (κ×T)) (k j:κ) (v:T):valT (putT kvs k v) j=if k=j then some v else valT kvs j:=by
 unfold putT valT
 by_cases h:(kvs.any fun kv=>decide (kv.1=k))=true
 ·rw[if_pos h]
  induction kvs with
  | nil=>simp at h
  | cons p ps ih=>
   rw[lJh,lKs,lKs]
   by_cases hp:p.1=k
   ·rw[if_pos hp]
    by_cases hj:k=j
    ·simp[hp,hj]
    ·have h1:¬ p.1=j:=fun z=>hj (hp.symm.trans z)
     simp only[h1,decide_false,hj,if_false]
     by_cases h2:(ps.any fun kv=>decide (kv.1=k))=true
     ·have:=ih h2;rw[if_neg hj] at this;exact this
     ·have hm:ps.map (fun kv=>if kv.1=k then (kv.1,v) else kv)=ps:=by
       rw[lKl (g:=id)];· simp
       intro a ha
       have:¬ a.1=k:=fun z=>h2 (List.any_eq_true.mpr ⟨a,ha,by simp[z]⟩)
       simp[this]
      rw[hm]
   ·rw[if_neg hp]
    have h2:(ps.any fun kv=>decide (kv.1=k))=true:=by
     rw[lKx,decide_eq_false hp,Bool.false_or] at h;exact h
    have:=ih h2
    by_cases hj:p.1=j
    ·have:¬ k=j:=fun z=>hp (hj.trans z.symm)
     simp[hj,this]
    ·simp only[hj,decide_false];exact this
 ·rw[if_neg h,List.find?_append]
  have hn:(kvs.find? fun kv=>decide (kv.1=j))=none\/∃p,(kvs.find? fun kv=>decide (kv.1=j))=some p:=by
   cases kvs.find? fun kv=>decide (kv.1=j) with
   | none=>exact .inl rfl
   | some p=>exact .inr ⟨p,rfl⟩
  by_cases hj:k=j
  ·subst hj
   have:(kvs.find? fun kv=>decide (kv.1=k))=none:=by
    rw[List.find?_eq_none]
    intro a ha z
    exact h (List.any_eq_true.mpr ⟨a,ha,z⟩)
   simp[this]
  ·rcases hn with e | ⟨p,e⟩
   ·simp[e,hj]
   ·simp[e,hj]
theorem putT_len {κ:Type} [DecidableEq κ] (kvs:List (κ×T)) (k:κ) (v:T):(putT kvs k v).length<=kvs.length+1:=by
 unfold putT;split<;>simp
theorem dAt_dct {G:Gp} {p:Addr} {kvs:List (L2.TKey×T)} {ys:List T} {ks:L2.TKey} (h:G p=some (.dct kvs)) (hk:jQ9 ys=some ks):dAt G (.ref p) (.tup ys)=some (valT kvs ks):=by simp only[dAt,h,hk]
theorem ixR_dct {G:Gp} {p:Addr} {kvs:List (L2.TKey×T)} {ys:List T} {ks:L2.TKey} {t:T} (h:G p=some (.dct kvs)) (hk:jQ9 ys=some ks) (ht:valT kvs ks=some t):ixR G (.ref p) (.tup ys)=some t:=by
 simp only[ixR,seqT,h,asL,dAt_dct h hk,ht]
theorem setR_dct {G:Gp} {p:Addr} {kvs:List (L2.TKey×T)} {ys:List T} {ks:L2.TKey} {v:T} (h:G p=some (.dct kvs)) (hk:jQ9 ys=some ks) (hz:kvs.length<sizeLine):setR G (.ref p) (.tup ys) v=some (gup G p (.dct (putT kvs ks v))):=by
 simp only[setR,h,hk,hz,if_true]
theorem jQ6 {W:Web} {r i:Nat} {e:Nat×Nat} (h:en W r i=some e):∃es,W[r]? =some es/\es[i]? =some e:=by
 unfold en at h
 cases e1:W[r]? with
 | none=>rw[e1] at h;cases h
 | some es=>rw[e1] at h;exact⟨es,rfl,h⟩
theorem jQq {W:Web} {r i:Nat} {es:List (Nat×Nat)} {e:Nat×Nat} (h1:W[r]? =some es) (h2:es[i]? =some e):en W r i=some e:=by unfold en;rw[h1];exact h2
structure Joined (Hs W:Web):Prop where
 len:W.length=Hs.length
 row:∀(r:Nat) (hs:List (Nat×Nat)),Hs[r]? =some hs->∃es,W[r]? =some es/\es.length=hs.length
 to:∀r i t sd s j,en Hs r i=some (t,sd)->en Hs s j=some (t,sw sd)->en W r i=some (s,j)
theorem Joined.sym {Hs W:Web} (J:Joined Hs W) (ok:JoinOk Hs):Sym W:=by
 intro r i s j h
 obtain⟨es,h1,h2⟩:=jQ6 h
 have hr:r<Hs.length:=by rw[<-J.len];exact (lJb.mp h1).1
 obtain⟨es',h3,h4⟩:=J.row r _ (lJa hr)
 rw[h1] at h3;cases h3
 have hi:i<Hs[r].length:=by rw[<-h4];exact (lJb.mp h2).1
 have e1:en Hs r i=some (Hs[r][i]):=jQq (lJa hr) (lJa hi)
 generalize Hs[r][i]=e0 at e1
 obtain⟨t,sd⟩:=e0
 obtain⟨hsd,r',i',e2⟩:=ok.part r i t sd e1
 have e3:=J.to r i t sd r' i' e1 e2
 rw[h] at e3
 cases e3
 refine J.to s j t (sw sd) r i e2 ?_
 rw[(sw_sw hsd).1];exact e1
open Classical in
noncomputable def oth (Hs:Web) (e:Nat×Nat):Nat×Nat:=if h:∃p:Nat×Nat,en Hs p.1 p.2=some (e.1,sw e.2) then h.choose else (0,0)
theorem oth_at {Hs:Web} {e:Nat×Nat} {r i:Nat} (h:en Hs r i=some (e.1,sw e.2)):en Hs (oth Hs e).1 (oth Hs e).2=some (e.1,sw e.2):=by
 unfold oth
 have:∃p:Nat×Nat,en Hs p.1 p.2=some (e.1,sw e.2):=⟨(r,i),h⟩
 rw[dif_pos this];exact this.choose_spec
theorem joined_oth {Hs:Web} (ok:JoinOk Hs):Joined Hs (Hs.map (List.map (oth Hs))) where
 len:=by simp
 row:=fun r hs h=>⟨hs.map (oth Hs),by simp[h],by simp⟩
 to:=fun r i t sd s j h1 h2=>by
  obtain⟨es,q1,q2⟩:=jQ6 h1
  have:en (Hs.map (List.map (oth Hs))) r i=some (oth Hs (t,sd)):=jQq (es:=es.map (oth Hs)) (by simp[q1]) (by simp[q2])
  rw[this]
  have h3:=oth_at (e:=(t,sd)) h2
  obtain⟨z1,z2⟩:=ok.inj _ _ _ _ _ h3 h2
  rw[<-z1,<-z2]
noncomputable def jK1:Sp3:=fun xs G Q=>∃(h:Addr) (Hs:Web) (rs:List Addr),xs=[.ref h]/\RowsAt G h Hs rs/\JoinOk Hs/\∀G' W,Sub G G'->Joined Hs W->Q (encW W) G'
noncomputable def kQy:List Str:=["_law_halves","_law_at","_law_room","_law_door","_law_half","_law_web_here","_law_doors","_law_tie","_law_side"]
noncomputable def jXb:TS3:=
 (tSeq (tAsg jZl (jJj 1))
 (tSeq (tFor (jKt (jJc (tCB rLen (jJc (tVar 0) tNil)) tNil)) (jJj 2) (tFor (kKg (jJc (tOp rIxF (tVar 0) (tVar 2)) tNil)) (gTup 2 (jKg (jJj 3) (jKg (jJj 4) gNil))) (tAsg (tTup (jJc (tVar 2) (jJc (tVar 3) tNil))) (gSub (tVar 1) (tVar 4) jVz))))
 (tSeq (tAsg (tLst tNil) (jJj 5))
 (tSeq (tFor (iSeq (tVar 0)) (jJj 6) (jV7 (tBM "list" jQm (tVar 5) (jJc (tCB jJ9 (jJc (jQ5 [false,false,false,false,false,false,false,true,true] (iSeq (tVar 6)) (gTup 2 (jKg (jJj 7) (jKg (jJj 8) gNil))) jUh (tOp rIxF (tVar 1) (tTup (jJc (tVar 7) (jJc (tOp rIxF (tLst (jJc (tC (.int 1)) (jJc (tC (.int 0)) (jJc (tC (.int 2)) tNil)))) (tVar 8)) tNil))))) tNil)) tNil))))
 (tRet (tCB jJ9 (jJc (tVar 5) tNil)))))))
def Tab (Hs:Web) (kvs:List (L2.TKey×T)) (done:Nat->Nat->Prop):Prop:=∀r i e,en Hs r i=some e->done r i->valT kvs (keyE e)=some (encE (r,i))
theorem jUv {n i:Nat} {x:T} (h:(rngT 0 n)[i]? =some x):i<n/\x= .int i:=by
 unfold rngT at h
 rw[lJe] at h
 have hi:i<n:=by
  rcases lJ5 i n with z | z
  ·exact z
  ·rw[lJk (by simpa using z)] at h;cases h
 simp[hi] at h
 exact⟨hi,h.symm⟩
theorem jQh {n:Nat}:(rngT 0 n).length=n:=by simp[rngT]
theorem kUe:∀xs G Q,jK1 xs G Q->jXb {nx:=fun _ G'=>Q .non G',rt:=Q} (jJk kQy xs) G:=by
 intro xs G Q h_;apply xe3 h_;clear h_;intro h Hs rs h_;apply ae3 h_;clear h_;intro q0_ ok kk
 obtain⟨hh,hlen,hrow⟩:=q0_
 rw[show jJk kQy [.ref h]=[some (.ref h),none,none,none,none,none,none,none,none] from rfl]
 have hs:=sz
 have hL:=ok.len
 wp_walk using 1,jXb,jZl,jJ5,jKt
 refine .inl fun d hd=> ?_
 have hhd:=jJh hh hd
 have hrl:(rs.map T.ref).length=Hs.length:=by simp[hlen]
 refine⟨rs.map T.ref,by simp only[seqT,jJu hhd,hh,asL],by rw[hrl];omega,by rw[hrl];omega,?_⟩
 rw[hrl,show ((Hs.length:Int)).toNat=Hs.length by omega]
 refine⟨fun r τ G'=>∃(v2 v3 v4:Option T) (kvs:List (L2.TKey×T)),τ=[some (.ref h),some (.ref d),v2,v3,v4,none,none,none,none]/\G' d=some (.dct kvs)/\kvs.length<=1000*r/\Tab Hs kvs (fun r' _=>r'<r)/\Sub G G',?_,?_,?_,?_⟩
 ·exact⟨none,none,none,[],rfl,jJi,lJt _,fun r i e _ z=>absurd z (lJ0 _),.new hd⟩
 ·intros;trivial
 ·intro r x τ G1 hx h_;apply xe4 h_;clear h_;intro v2 v3 v4 kvs h_;apply ae4 h_;clear h_;intro hdk hkl tab sb
  obtain⟨hr,rfl⟩:=jUv hx
  have hri:r<rs.length:=by omega
  obtain⟨hs',hH,hG⟩:=hrow r rs[r] (lJa hri)
  have hh1:=sb _ _ hh
  have hG1:=sb _ _ hG
  have hat:L2.atI (rs.map T.ref) (r:Int)=some (.ref rs[r]):=by rw[atN];simp[hri]
  have hrow1000:=ok.row r hs' hH
  wp_walk using 1,jJ5,kKg,jKk hh1,hat
  refine⟨hs'.map encE,by simp only[jXf,hG1,asL],?_⟩
  refine⟨fun i τ G'=>∃(v3 v4:Option T) (kvs:List (L2.TKey×T)),τ=[some (.ref h),some (.ref d),some (.int r),v3,v4,none,none,none,none]/\G' d=some (.dct kvs)/\kvs.length<=1000*r+i/\Tab Hs kvs (fun r' i'=>r'<r\/(r'=r/\i'<i))/\Sub G G',?_,?_,?_,?_⟩
  ·exact⟨v3,v4,kvs,rfl,hdk,hkl,fun r' i' e he hd'=>tab r' i' e he (by rcases hd' with z | ⟨_,z⟩;exact z;exact absurd z (lJ0 _)),sb⟩
  ·intro i τ G' hi h_;apply xe3 h_;clear h_;intro v3 v4 kvs h_;apply ae4 h_;clear h_;intro h1 h2 h3 h4
   simp only[jXf,h4 _ _ hG,asL]
  ·intro i x τ G2 hx h_;apply xe3 h_;clear h_;intro v3 v4 kvs h_;apply ae4 h_;clear h_;intro h1 h2 h3 h4
   have hi:i<hs'.length:=by have:=(lJb.mp hx).1;simpa[jKj] using this
   have hri2:(hs'.map encE)[i]? =some (encE hs'[i]):=by simp[hi]
   rw[jYb hri2] at hx
   cases hx
   have hz:kvs.length<sizeLine:=by omega
   wp_walk using 1,encE,setR_dct h1 kQl hz
   refine⟨by omega,?_⟩
   refine⟨putT kvs (keyE hs'[i]) (encE (r,i)),rfl,by have:=putT_len kvs (keyE hs'[i]) (encE (r,i));omega,fun r' i' e he hd'=> ?_,h4.over hd⟩
   show valT (putT kvs (keyE hs'[i]) _) (keyE e)=_
   rw[valT_put]
   have eri:en Hs r i=some hs'[i]:=jQq hH (lJa hi)
   by_cases hk:keyE hs'[i]=keyE e
   ·rw[if_pos hk]
    have:=keyE_inj hk
    subst this
    obtain⟨z1,z2⟩:=ok.inj _ _ _ _ _ eri he
    subst z1;subst z2;rfl
   ·rw[if_neg hk]
    refine h3 r' i' e he ?_
    rcases hd' with z | ⟨z1,z2⟩
    ·exact .inl z
    ·subst z1
     by_cases hii:i'=i
     ·subst hii;rw[eri] at he;cases he;exact absurd rfl hk
     ·exact .inr ⟨rfl,by omega⟩
  ·intro τ G' h_;apply xe3 h_;clear h_;intro v3 v4 kvs h_;apply ae4 h_;clear h_;intro h1 h2 h3 h4
   refine⟨some (.int r),v3,v4,rfl,kvs,h1,?_,fun r' i' e he hd'=>h3 r' i' e he ?_,h4⟩
   ·simp only[jKj,lJc] at h2;omega
   ·rcases lJ5 r' r with z | z
    ·exact .inl z
    ·have:r'=r:=by omega
     subst this
     obtain⟨es,q1,q2⟩:=jQ6 he
     rw[hH] at q1;cases q1
     exact .inr ⟨rfl,by simpa[jKj] using (lJb.mp q2).1⟩
 ·intro τ G1 h_;apply xe4 h_;clear h_;intro v2 v3 v4 kvs h_;apply ae4 h_;clear h_;intro hdk hkl tab sb
  rw[jQh] at tab
  wp_walk using 1,jJ5,iSeq
  refine⟨lJt _,fun w hw=> ?_⟩
  have hdw:=jJh hdk hw
  have hhw:=jJh (sb _ _ hh) hw
  refine⟨rs.map T.ref,by simp only[seqT,jJu hhw,sb _ _ hh,asL],?_⟩
  refine⟨fun i τ G'=>∃(v6:Option T),τ=[some (.ref h),some (.ref d),v2,v3,v4,some (.ref w),v6,none,none]/\G' w=some (.lst ((Hs.take i).map fun hs=>encR (hs.map (oth Hs))))/\Sub G1 G',?_,?_,?_,?_⟩
  ·exact⟨none,rfl,by simp[jJi],.new hw⟩
  ·intro i τ G' hi h_;apply xe1 h_;clear h_;intro v6 h_;apply ae2 h_;clear h_;intro h1 h2
   simp only[seqT,h2 _ _ (sb _ _ hh),asL]
  ·intro i x τ G2 hx0 h_;apply xe1 h_;clear h_;intro v6 h_;apply ae2 h_;clear h_;intro h1 h2
   obtain⟨ra,hx,rfl⟩:=jKm hx0
   obtain⟨hs',hH,hG⟩:=hrow i ra hx
   have hG2:=h2 _ _ (sb _ _ hG)
   have hrow1000:=ok.row i hs' hH
   wp_walk using 1,iSeq,jK0 h1
   refine⟨hs'.map encE,jJm hG2,?_⟩
   refine jKd (fun e=>encE (oth Hs e)) (by omega) (fun G' s=>jJm (s _ _ hG2)) ?_ ?_
   ·intro j e he G' K K0 s hk
    obtain⟨t,sd⟩:=e
    have hen:=jQq hH he
    obtain⟨hsd,r',i',e2⟩:=ok.part _ _ _ _ hen
    have hv:=oth_at (e:=(t,sd)) e2
    have hr':(oth Hs (t,sd)).1<List.length Hs:=by obtain⟨es,q1,q2⟩:=jQ6 hv;exact (lJb.mp q1).1
    have ht:=tab _ _ _ hv hr'
    have hd3:=s _ _ (h2 _ _ hdk)
    wp_walk using 1,encE
    refine⟨by omega,fun p hp=> ?_⟩
    have hdp:=jJh hd3 hp
    have hsw:L2.atI [T.int 1,T.int 0,T.int 2] (sd:Int)=some (.int (sw sd:Int)):=by
     have:sd=0\/sd=1\/sd=2:=by omega
     rcases this with rfl | rfl | rfl<;>rw[atN]<;>rfl
    refine⟨_,hsw,by omega,_,ixR_dct (ks:=[.inl (.inl (t:Int)),.inl (.inl (sw sd:Int))]) (by rw[jJu hdp];exact hd3) kQl ht,hk _ (.new hp)⟩
   ·intro D G3 hD h3 h4
    wp_walk using 1,jJm h3,h4 _ _ h1
    refine⟨by simp;omega,?_,((h2.trans h4).over hw)⟩
    rw[lKz,hH];simp[encR]
  ·intro τ G' h_;apply xe1 h_;clear h_;intro v6 h_;apply ae2 h_;clear h_;intro h1 h2
   wp_walk using 1,jJm h1
   have e1:(Hs.take (rs.map T.ref).length).map (fun hs=>encR (hs.map (oth Hs)))=(Hs.map (List.map (oth Hs))).map encR:=by
    rw[hrl,lKt,lJj];rfl
   rw[e1]
   exact kk G' _ (sb.trans h2) (joined_oth ok)
theorem BoxAt.mono {G:Gp} {b:Addr} {n m:Nat} (h:BoxAt G b n) (hm:n<=m):BoxAt G b m:=by
 obtain⟨x,y,z,h1,h2,h3,h4,h5,h6⟩:=h
 exact⟨x,y,z,h1,h2,h3,h4,h5,by omega⟩
theorem BoxAt.some {G:Gp} {b:Addr} {n:Nat} (h:BoxAt G b n):∃o,G b=some o:=by
 obtain⟨x,y,z,h1,_⟩:=h
 exact⟨_,h1⟩
theorem BoxAt.sub {G G':Gp} {b:Addr} {n:Nat} (h:BoxAt G b n) (s:Sub G G'):BoxAt G' b n:=by
 obtain⟨x,y,z,h1,h2,h3,h4,h5,h6⟩:=h
 exact⟨x,y,z,s _ _ h1,h2,h3,h4,h5,h6⟩
theorem BoxAt.gup {G:Gp} {b p:Addr} {n:Nat} {o:GO} (h:BoxAt G b n) (hp:b≠p):BoxAt (gup G p o) b n:=by
 obtain⟨x,y,z,h1,h2,h3,h4,h5,h6⟩:=h
 exact⟨x,y,z,by rw[jJu hp];exact h1,h2,h3,h4,h5,h6⟩
theorem Keep.sub {b:Addr} {G G':Gp} (h:Sub G G'):Keep b G G':=fun c o _ e=>h c o e
theorem Keep.over {b p:Addr} {G G':Gp} {o:GO} (h:Keep b G G') (hp:G p=none):Keep b G (L3.gup G' p o):=fun c u hc e=>by rw[jJu];exact h c u hc e;rintro rfl;rw[hp] at e;cases e
theorem RowsAt.keep {b:Addr} {G G':Gp} {h:Addr} {Hs:Web} {rs:List Addr} (s:Keep b G G') (hb:b∉h::rs) (x:RowsAt G h Hs rs):RowsAt G' h Hs rs:=by
 simp only[lJi,not_or] at hb
 exact⟨s _ _ (Ne.symm hb.1) x.1,x.2.1,fun i r e=>let ⟨hs,h1,h2⟩:=x.2.2 i r e;⟨hs,h1,s _ _ (by rintro rfl;exact hb.2 (lJf e)) h2⟩⟩
theorem RowsAt.set {G:Gp} {h:Addr} {Hs:Web} {rs:List Addr} {r:Nat} {a:Addr} {hs':List (Nat×Nat)} (x:RowsAt G h Hs rs) (hn:(h::rs).Nodup) (hr:rs[r]? =some a):RowsAt (gup G a (.lst (hs'.map encE))) h (Hs.set r hs') rs:=by
 rw[lJ8] at hn
 have hrl:r<rs.length:=(lJb.mp hr).1
 refine⟨by rw[jJu];exact x.1;rintro rfl;exact hn.1 (lJf hr),by rw[lKq];exact x.2.1,fun i c e=> ?_⟩
 by_cases hi:i=r
 ·subst hi
  rw[hr] at e;cases e
  exact⟨hs',by rw[lJ6];rw[<-x.2.1];exact hrl,jJi⟩
 ·obtain⟨hs,h1,h2⟩:=x.2.2 i c e
  refine⟨hs,by rw[lJ3 (Ne.symm hi)];exact h1,?_⟩
  rw[jJu];exact h2
  rintro rfl
  have hil:i<rs.length:=(lJb.mp e).1
  exact hi ((lKm hil hn.2).mp (e.trans hr.symm))
noncomputable def hv (n t:Nat) (p:Nat×Nat):List (Nat×Nat×Nat):=if p.2=n then [(p.1,t,2)] else [(p.1,t,0),(p.2,t,1)]
noncomputable def hvs (P:List (Nat×Nat)) (n k:Nat):List (Nat×Nat×Nat):=(List.range k).flatMap fun t=>match P[t]? with
 | some p=>hv n t p
 | none=>[]
theorem jXi {P:List (Nat×Nat)} {n k:Nat} {p:Nat×Nat} (h:P[k]? =some p):hvs P n (k+1)=hvs P n k++hv n k p:=by
 unfold hvs
 rw[lKk,List.flatMap_append]
 simp[h]
theorem kQo {n t:Nat} {p:Nat×Nat} {r t' s:Nat} (h:(r,t',s)∈hv n t p):t'=t/\s<=2/\((p.2=n/\s=2/\r=p.1)\/(p.2≠n/\s=0/\r=p.1)\/(p.2≠n/\s=1/\r=p.2)):=by
 unfold hv at h
 split at h
 ·rename_i hp;simp at h;obtain⟨rfl,rfl,rfl⟩:=h;exact⟨rfl,by omega,.inl ⟨hp,rfl,rfl⟩⟩
 ·rename_i hp;simp at h
  rcases h with ⟨rfl,rfl,rfl⟩ | ⟨rfl,rfl,rfl⟩
  ·exact⟨rfl,by omega,.inr (.inl ⟨hp,rfl,rfl⟩)⟩
  ·exact⟨rfl,by omega,.inr (.inr ⟨hp,rfl,rfl⟩)⟩
theorem kKi {P:List (Nat×Nat)} {n k:Nat} {r t s:Nat} (h:(r,t,s)∈hvs P n k):∃p,P[t]? =some p/\t<k/\(r,t,s)∈hv n t p:=by
 unfold hvs at h
 rw[List.mem_flatMap] at h
 obtain⟨t',h1,h2⟩:=h
 cases e:P[t']? with
 | none=>rw[e] at h2;cases h2
 | some p=>
  rw[e] at h2
  have h2:(r,t,s)∈hv n t' p:=h2
  have ht:=(kQo h2).1
  subst ht
  exact⟨p,e,lJn.mp h1,h2⟩
theorem hvs_of {P:List (Nat×Nat)} {n k:Nat} {r t s:Nat} {p:Nat×Nat} (h:P[t]? =some p) (hk:t<k) (hm:(r,t,s)∈hv n t p):(r,t,s)∈hvs P n k:=by
 unfold hvs
 rw[List.mem_flatMap]
 exact⟨t,lJn.mpr hk,by rw[h];exact hm⟩
theorem kKh {P:List (Nat×Nat)} {n:Nat}:∀k,((hvs P n k).map fun x=>x.2).Nodup
 | 0=>by simp[hvs]
 | k+1=>by
  cases e:P[k]? with
  | none=>
   have:hvs P n (k+1)=hvs P n k:=by unfold hvs;rw[lKk,List.flatMap_append];simp[e]
   rw[this];exact kKh k
  | some p=>
   rw[jXi e,lKg,lQd]
   refine⟨kKh k,by unfold hv;split<;>simp,?_⟩
   intro a ha b hb
   obtain⟨⟨r,t,s⟩,h1,rfl⟩:=lJg.mp ha
   obtain⟨⟨r',t',s'⟩,h2,rfl⟩:=lJg.mp hb
   obtain⟨_,_,h3,_⟩:=kKi h1
   have h4:=(kQo h2).1
   intro z
   have:t=t':=congrArg Prod.fst z
   omega
theorem kUw {P:List (Nat×Nat)} {n:Nat}:∀k,(hvs P n k).length<=2*k
 | 0=>by simp[hvs]
 | k+1=>by
  have ih:=kUw (P:=P) (n:=n) k
  cases e:P[k]? with
  | none=>
   have:hvs P n (k+1)=hvs P n k:=by unfold hvs;rw[lKk,List.flatMap_append];simp[e]
   rw[this];omega
  | some p=>
   rw[jXi e,lJ2]
   have:(hv n k p).length<=2:=by unfold hv;split<;>simp
   omega
structure HalfL (L:List (Nat×Nat×Nat)) (n:Nat) (Hs:Web):Prop where
 len:Hs.length=n
 perm:∀(r:Nat) (hs:List (Nat×Nat)),Hs[r]? =some hs->hs.Perm ((L.filter fun x=>x.1 == r).map fun x=>x.2)
theorem ins_perm {α:Type} {xs:List α} {k:Nat} {y:α}:(xs.take k++y::xs.drop k).Perm (xs++[y]):=by
 have h1:(xs.take k++y::xs.drop k).Perm (y::(xs.take k++xs.drop k)):=List.perm_middle
 rw[List.take_append_drop] at h1
 exact h1.trans (List.perm_append_comm (l₁:=[y]) (l₂:=xs))
theorem HalfL.ins {L:List (Nat×Nat×Nat)} {n:Nat} {Hs:Web} {r k:Nat} {hs:List (Nat×Nat)} {e:Nat×Nat} (h:HalfL L n Hs) (hr:Hs[r]? =some hs):HalfL (L++[(r,e)]) n (Hs.set r (hs.take k++e::hs.drop k)) where
 len:=by rw[lKq];exact h.len
 perm:=fun r' hs' h'=>by
  have hrl:r<Hs.length:=(lJb.mp hr).1
  rw[List.filter_append,lKg]
  by_cases hi:r'=r
  ·subst hi
   rw[lJ6 hrl] at h'
   cases h'
   have:=h.perm r' hs hr
   refine ins_perm.trans ?_
   simp
   exact this.append_right [e]
  ·rw[lJ3 (Ne.symm hi)] at h'
   have:=h.perm r' hs' h'
   have hne:¬ r=r':=fun z=>hi z.symm
   simp[hne]
   exact this
theorem HalfL.mem {L:List (Nat×Nat×Nat)} {n:Nat} {Hs:Web} {r i:Nat} {e:Nat×Nat} (h:HalfL L n Hs) (he:en Hs r i=some e):(r,e)∈L:=by
 obtain⟨es,h1,h2⟩:=jQ6 he
 have:=(h.perm r es h1).mem_iff.mp (lJf h2)
 obtain⟨⟨r',e'⟩,h3,rfl⟩:=lJg.mp this
 obtain⟨h4,h5⟩:=lQo.mp h3
 have:r'=r:=by simpa using h5
 subst this;exact h4
theorem HalfL.of {L:List (Nat×Nat×Nat)} {n:Nat} {Hs:Web} {r:Nat} {e:Nat×Nat} (h:HalfL L n Hs) (hr:r<n) (he:(r,e)∈L):∃i,en Hs r i=some e:=by
 have hrl:r<Hs.length:=by rw[h.len];exact hr
 have h1:Hs[r]? =some Hs[r]:=lJa hrl
 have:e∈Hs[r]:=(h.perm r _ h1).mem_iff.mpr (lJg.mpr ⟨(r,e),lQo.mpr ⟨he,by simp⟩,rfl⟩)
 obtain⟨i,hi⟩:=lJm this
 exact⟨i,jQq h1 hi⟩
def kU7 (P:List (Nat×Nat)) (n:Nat):Prop:=∀p,p∈P->p.1<n/\p.2<=n
theorem HalfL.ok {P:List (Nat×Nat)} {n:Nat} {Hs:Web} (h:HalfL (hvs P n P.length) n Hs) (hp:kU7 P n) (hn:n<=1000) (hl:P.length<=500):JoinOk Hs where
 len:=by rw[h.len];exact hn
 row:=fun r hs hr=>by
  rw[(h.perm r hs hr).length_eq,lJc]
  have h1:=lQz (fun x:Nat×Nat×Nat=>x.1 == r) (hvs P n P.length)
  have h2:=kUw (P:=P) (n:=n) P.length
  omega
 inj:=fun r i r' i' e h1 h2=>by
  obtain⟨t,s⟩:=e
  obtain⟨p,q1,q2,q3⟩:=kKi (h.mem h1)
  obtain⟨p',q1',q2',q3'⟩:=kKi (h.mem h2)
  rw[q1] at q1';cases q1'
  have m1:=(kQo q3).2.2
  have m2:=(kQo q3').2.2
  have hrr:r=r':=by
   rcases m1 with ⟨a,b,c⟩ | ⟨a,b,c⟩ | ⟨a,b,c⟩<;>rcases m2 with ⟨a',b',c'⟩ | ⟨a',b',c'⟩ | ⟨a',b',c'⟩<;>omega
  subst hrr
  refine⟨rfl,?_⟩
  obtain⟨es,z1,z2⟩:=jQ6 h1
  obtain⟨es',z3,z4⟩:=jQ6 h2
  rw[z1] at z3;cases z3
  have nd:es.Nodup:=by
   rw[(h.perm r es z1).nodup_iff]
   exact (List.filter_sublist.map _).nodup (kKh _)
  exact (lKm (lJb.mp z2).1 nd).mp (z2.trans z4.symm)
 part:=fun r i t s h1=>by
  obtain⟨p,q1,q2,q3⟩:=kKi (h.mem h1)
  obtain⟨_,h2,m⟩:=kQo q3
  refine⟨h2,?_⟩
  have hpp:=hp p (lJf q1)
  rcases m with ⟨a,rfl,c⟩ | ⟨a,rfl,c⟩ | ⟨a,rfl,c⟩
  ·exact⟨r,i,h1⟩
  ·obtain⟨i',h3⟩:=h.of (r:=p.2) (e:=(t,1)) (by omega) (hvs_of q1 q2 (by unfold hv;rw[if_neg a];simp))
   exact⟨p.2,i',h3⟩
  ·obtain⟨i',h3⟩:=h.of (r:=p.1) (e:=(t,0)) (by omega) (hvs_of q1 q2 (by unfold hv;rw[if_neg a];simp))
   exact⟨p.1,i',h3⟩
structure Made (P:List (Nat×Nat)) (n:Nat) (W:Web):Prop where
 len:W.length=n
 sym:Sym W
 deg:∀(r:Nat) (es:List (Nat×Nat)),W[r]? =some es->es.length=((hvs P n P.length).filter fun x=>x.1 == r).length
 tie:∀p,p∈P->p.2<n->∃i j,en W p.1 i=some (p.2,j)
theorem made_of {P:List (Nat×Nat)} {n:Nat} {Hs W:Web} (h:HalfL (hvs P n P.length) n Hs) (hp:kU7 P n) (ok:JoinOk Hs) (J:Joined Hs W):Made P n W where
 len:=by rw[J.len,h.len]
 sym:=J.sym ok
 deg:=fun r es hr=>by
  have hrl:r<Hs.length:=by rw[<-J.len];exact (lJb.mp hr).1
  obtain⟨es',h1,h2⟩:=J.row r _ (lJa hrl)
  rw[hr] at h1;cases h1
  rw[h2,(h.perm r _ (lJa hrl)).length_eq,lJc]
 tie:=fun p hpm hpn=>by
  obtain⟨t,ht⟩:=lJm hpm
  have htl:t<P.length:=(lJb.mp ht).1
  have hne:¬ p.2=n:=by omega
  obtain⟨i,h1⟩:=h.of (r:=p.1) (e:=(t,0)) (hp p hpm).1 (hvs_of ht htl (by unfold hv;rw[if_neg hne];simp))
  obtain⟨j,h2⟩:=h.of (r:=p.2) (e:=(t,1)) hpn (hvs_of ht htl (by unfold hv;rw[if_neg hne];simp))
  exact⟨i,j,J.to _ _ _ _ _ _ h1 h2⟩
theorem Keep.none {b p:Addr} {G G':Gp} (h:Keep b G G') (hb:p≠b) (hp:G' p=none):G p=none:=by
 cases e:G p with
 | none=>rfl
 | some o=>rw[h p o hb e] at hp;cases hp
theorem insT_map {xs:List (Nat×Nat)} {k:Nat} {y:Nat×Nat}:insT (xs.map encE) k (encE y)=(xs.take k++y::xs.drop k).map encE:=by simp[insT,List.map_take,List.map_drop]
theorem HalfL.len_le {L:List (Nat×Nat×Nat)} {n:Nat} {Hs:Web} {r:Nat} {hs:List (Nat×Nat)} (h:HalfL L n Hs) (hr:Hs[r]? =some hs):hs.length<=L.length:=by
 rw[(h.perm r hs hr).length_eq,lJc];exact lQz _ _
theorem kKk {E:Ends3} {G G2:Gp} {b D p:Addr} {rs:List Addr} {n k m':Nat} {S:List (Nat×Nat)} {L:List (Nat×Nat×Nat)} {Hs:Web} {w1 w2 w5 w6 w8 w9:Option T}
  (h1:HalfL L n Hs) (h2:RowsAt G2 D Hs rs) (h3:BoxAt G2 b m') (h4:Keep b G G2) (hnd:(D::rs).Nodup) (hbn:b∉D::rs) (hfr:∀r,r∈D::rs->G r=none) (hp:G2 p=some (.lst (S.map encE))) (hpn:p∉D::rs) (hpb:p≠b) (hS:∀x,x∈S->x.1<n) (hm:m'+S.length<2^40) (hL:L.length+S.length<10000)
  (kk:∀G' Hs' v8 v9,HalfL (L++S.map fun x=>(x.1,k,x.2)) n Hs'->RowsAt G' D Hs' rs->BoxAt G' b (m'+S.length)->Keep b G G'->E.nx [some (.ref b),w1,w2,some (.ref D),some (.int k),w5,w6,some (.ref p),v8,v9] G'):
  ForAt (gTup 2 (jKg (jJj 8) (jKg (jJj 9) gNil))) (jV7 (tBM "list" kJ4 (tOp rIxF (tVar 3) (tVar 8)) (jJc (jJy jJs (jJc (tVar 0) (jJc (tOp jK6 (tCB rLen (jJc (tOp rIxF (tVar 3) (tVar 8)) tNil)) (tC (T.int 1))) tNil))) (jJc (tTup (jJc (tVar 4) (jJc (tVar 9) tNil))) tNil)))) E
   [some (.ref b),w1,w2,some (.ref D),some (.int k),w5,w6,some (.ref p),w8,w9] (S.map encE) (fun G'=>seqT G' (.ref p)=some (S.map encE)) G2:=by
 have hs:=sz
 refine⟨fun j τ G'=>∃(v8 v9:Option T) (Hs:Web),τ=[some (.ref b),w1,w2,some (.ref D),some (.int k),w5,w6,some (.ref p),v8,v9]/\HalfL (L++(S.take j).map fun x=>(x.1,k,x.2)) n Hs/\RowsAt G' D Hs rs/\BoxAt G' b (m'+j)/\Keep b G G'/\G' p=some (.lst (S.map encE)),?_,?_,?_,?_⟩
 ·exact⟨w8,w9,Hs,rfl,by simpa using h1,h2,h3,h4,hp⟩
 ·intro j τ G' hj h_;apply xe3 h_;clear h_;intro v8 v9 Hs h_;apply ae5 h_;clear h_;intro i1 i2 i3 i4 i5
  exact jJm i5
 ·intro j x τ G' hx0 h_;apply xe3 h_;clear h_;intro v8 v9 Hs h_;apply ae5 h_;clear h_;intro i1 i2 i3 i4 i5
  obtain⟨⟨r,s⟩,hx,rfl⟩:=jKm hx0
  have hj:j<S.length:=(lJb.mp hx).1
  have hr:r<n:=hS _ (lJf hx)
  have hrl:r<rs.length:=by rw[i2.2.1,i1.len];exact hr
  have hra:rs[r]? =some rs[r]:=lJa hrl
  generalize rs[r]=a at hra
  obtain⟨hs',hh1,hh2⟩:=i2.2.2 r a hra
  have hat:L2.atI (rs.map T.ref) (r:Int)=some (.ref a):=by rw[atN];simp[hra]
  have hle:=i1.len_le hh1
  have hlt:(L++(S.take j).map fun x=>(x.1,k,x.2)).length<10000:=by simp;omega
  wp_walk using 1,encE,jKk i2.1,hat,jK0 hh2,jJm hh2,lJc
  refine⟨b,_,m'+j,rfl,i3,by omega,by omega,by omega,fun c G3 c0 c1 bx kp=> ?_⟩
  have ham:a∈D::rs:=lJs _ (lJf hra)
  have hab:a≠b:=by rintro rfl;exact hbn ham
  have hap:a≠p:=by rintro rfl;exact hpn ham
  have i2':=i2.keep kp hbn
  refine⟨by omega,hs'.map encE,c,rfl,kp _ _ hab hh2,c0,by simp;omega,by simp;omega,?_⟩
  rw[show T.tup [T.int (k:Int),T.int (s:Int)]=encE (k,s) from rfl,insT_map]
  refine⟨Hs.set r (hs'.take c.toNat++(k,s)::hs'.drop c.toNat),?_,i2'.set hnd hra,?_,(i4.trans kp).over (hfr a ham),?_⟩
  ·have:=i1.ins (k:=c.toNat) (e:=(k,s)) hh1
   rw[lKz,hx,lKg,<-lQp]
   exact this
  ·exact bx.gup hab.symm
  ·rw[jJu hap.symm];exact kp _ _ hpb i5
 ·intro τ G' h_;apply xe3 h_;clear h_;intro v8 v9 Hs h_;apply ae5 h_;clear h_;intro i1 i2 i3 i4 i5
  rw[lJc] at i1 i3
  rw[lKt] at i1
  exact kk G' Hs v8 v9 i1 i2 i3 i4
theorem kJp {xs:List T}:(numT xs).length=xs.length:=by simp[numT]
noncomputable def jJ8:Sp3:=fun xs G Q=>∃(b pr:Addr) (P:List (Nat×Nat)) (n m:Nat),xs=[.ref b,.ref pr,.int n]/\BoxAt G b m/\m+2*P.length<2^40/\pr≠b/\G pr=some (.lst (P.map encE))/\kU7 P n/\n<=1000/\P.length<=500/\∀W G',Made P n W->BoxAt G' b (m+2*P.length)->Keep b G G'->Q (encW W) G'
noncomputable def jZj:List Str:=["_law_box_here","_law_pairs","_law_many","_law_halves","_law_tie","_law_one","_law_other","_law_sides","_law_room","_law_side"]
noncomputable def jUw:TS3:=
 (tSeq (tAsg (jQ5 [false,false,false,false,false,false,false,false,true,false] (jKt (jJc (tVar 2) tNil)) (jJj 8) jUh (tLst tNil)) (jJj 3))
 (tSeq (tFor (kKg (jJc (tVar 1) tNil)) (gTup 2 (jKg (jJj 4) (jKg (gTup 2 (jKg (jJj 5) (jKg (jJj 6) gNil))) gNil))) (tSeq (tAsg (tIf (jKw (tOp rEqA (tVar 6) (tVar 2))) (tLst (jJc (tTup (jJc (tVar 5) (jJc (tC (.int 2)) tNil))) tNil)) (tLst (jJc (tTup (jJc (tVar 5) (jJc (tC (.int 0)) tNil))) (jJc (tTup (jJc (tVar 6) (jJc (tC (.int 1)) tNil))) tNil)))) (jJj 7))
 (tFor (iSeq (tVar 7)) (gTup 2 (jKg (jJj 8) (jKg (jJj 9) gNil))) (jV7 (tBM "list" kJ4 (tOp rIxF (tVar 3) (tVar 8)) (jJc (jJy jJs (jJc (tVar 0) (jJc (tOp jK6 (tCB rLen (jJc (tOp rIxF (tVar 3) (tVar 8)) tNil)) (tC (.int 1))) tNil))) (jJc (tTup (jJc (tVar 4) (jJc (tVar 9) tNil))) tNil)))))))
 (tRet (jJy jK1 (jJc (tVar 3) tNil)))))
theorem jV8 {n:Nat}:rngT 0 n=(List.range n).map fun (k:Nat)=>T.int k:=by simp[rngT]
theorem jZ9:∀xs G Q,jJ8 xs G Q->jUw {nx:=fun _ G'=>Q .non G',rt:=Q} (jJk jZj xs) G:=by
 intro xs G Q h_;apply xe5 h_;clear h_;intro b pr P n m h_;apply ae8 h_;clear h_;intro hb hm hpb hpr hP hn hPl kk
 rw[show jJk jZj [.ref b,.ref pr,.int n]=[some (.ref b),some (.ref pr),some (.int n),none,none,none,none,none,none,none] from rfl]
 have hs:=sz
 wp_walk using 1,jUw,jJ5,jKt,kKg
 refine⟨by omega,by omega,?_⟩
 rw[show ((n:Int)).toNat=n by omega,jV8]
 refine kQs (fun _=>[]) (by simp;omega) (fun _ _=>trivial) ?_ ?_
 ·intro i e he G' K K0 s hk
  wp_walk using 1,tSeq
  exact⟨lJt _,fun p hp=>hk p _ hp jJi (.new hp)⟩
 ·intro D rs G1 hD hD1 s1 hrl hnd hrs
  rw[lJ1] at hrl
  obtain⟨bo,hbo⟩:=hb.some
  have hbn:b∉D::rs:=by
   intro z
   rw[lJi] at z
   rcases z with rfl | z
   ·rw[hD] at hbo;cases hbo
   ·obtain⟨j,hj⟩:=lJm z
    have hjl:j<rs.length:=(lJb.mp hj).1
    have:=(hrs j b j hj (by rw[lJw (by omega)])).1
    rw[this] at hbo;cases hbo
  have hfr:∀r,r∈D::rs->G r=none:=by
   intro r z
   rw[lJi] at z
   rcases z with rfl | z
   ·exact hD
   ·obtain⟨j,hj⟩:=lJm z
    have hjl:j<rs.length:=(lJb.mp hj).1
    exact (hrs j r j hj (by rw[lJw (by omega)])).1
  refine⟨P.map encE,by simp only[jXf,s1 _ _ hpr,asL],?_⟩
  refine⟨fun k τ G'=>∃(v4 v5 v6 v7 v8 v9:Option T) (Hs:Web),τ=[some (.ref b),some (.ref pr),some (.int n),some (.ref D),v4,v5,v6,v7,v8,v9]/\HalfL (hvs P n k) n Hs/\RowsAt G' D Hs rs/\BoxAt G' b (m+2*k)/\Keep b G G',?_,?_,?_,?_⟩
  ·refine⟨none,none,none,none,none,none,List.replicate n [],rfl,⟨by simp,?_⟩,⟨hD1,by simp[hrl],?_⟩,hb.sub s1,.sub s1⟩
   ·intro r hs' h
    have:hs'=[]:=by rw[lQ0] at h;split at h;cases h;rfl;cases h
    subst this;simp[hvs]
   ·intro i r h
    have hi:i<n:=by rw[<-hrl];exact (lJb.mp h).1
    exact⟨[],by simp[hi],(hrs i r i h (by simp[hi])).2⟩
  ·intro k τ G' hk h_;apply xe7 h_;clear h_;intro v4 v5 v6 v7 v8 v9 Hs h_;apply ae4 h_;clear h_;intro h1 h2 h3 h4
   simp only[jXf,h4 _ _ hpb hpr,asL]
  ·intro k x τ G2 hx h_;apply xe7 h_;clear h_;intro v4 v5 v6 v7 v8 v9 Hs h_;apply ae4 h_;clear h_;intro h1 h2 h3 h4
   have hk:k<P.length:=by have:=(lJb.mp hx).1;simpa[kJp] using this
   rw[jYb (x:=encE P[k]) (by simp[hk])] at hx
   cases hx
   generalize hpk:P[k]=p
   have hpe:P[k]? =some p:=by rw[lJa hk,hpk]
   obtain⟨a,c⟩:=p
   obtain⟨ha,hc⟩:=hP _ (lJf hpe)
   have ha:a<n:=ha
   have hc:c<=n:=hc
   wp_walk using 1,encE,rEqA,iSeq,jJ5
   rw[show eqG G2 (T.int (c:Int)) (T.int (n:Int))=some (decide ((c:Int)=n)) from rfl]
   have hL:=kUw (P:=P) (n:=n) k
   refine⟨_,rfl,?_⟩
   have fresh:∀p,G2 p=none->p∉D::rs/\p≠b:=by
    intro p hp
    refine⟨fun z=> ?_,?_⟩
    ·rw[lJi] at z
     rcases z with rfl | z
     ·rw[h2.1] at hp;cases hp
     ·obtain⟨j,hj⟩:=lJm z
      obtain⟨_,_,q⟩:=h2.2.2 j p hj
      rw[q] at hp;cases hp
    ·rintro rfl
     obtain⟨o,ho⟩:=h3.some
     rw[ho] at hp;cases hp
   by_cases hcn:c=n
   ·rw[if_pos (by simp[hcn])]
    refine⟨by omega,by omega,fun p hp=> ?_⟩
    obtain⟨f1,f2⟩:=fresh p hp
    refine kKk (S:=[(a,2)]) h1 (h2.sub (.new hp)) (h3.gup f2.symm) (h4.over (h4.none f2 hp)) hnd hbn hfr jJi f1 f2 (by simp[ha]) (by simp;omega) (by simp;omega) ?_
    intro G' Hs' v8 v9 i1 i2 i3 i4
    refine⟨_,_,_,_,_,_,rfl,Hs',?_,i2,i3.mono (by simp;omega),i4⟩
    rw[jXi hpe];unfold hv;rw[if_pos hcn];exact i1
   ·rw[if_neg (by simp;omega)]
    refine⟨by omega,by omega,by omega,fun p hp=> ?_⟩
    obtain⟨f1,f2⟩:=fresh p hp
    refine kKk (S:=[(a,0),(c,1)]) h1 (h2.sub (.new hp)) (h3.gup f2.symm) (h4.over (h4.none f2 hp)) hnd hbn hfr jJi f1 f2 (by simp;omega) (by simp;omega) (by simp;omega) ?_
    intro G' Hs' v8 v9 i1 i2 i3 i4
    refine⟨_,_,_,_,_,_,rfl,Hs',?_,i2,i3.mono (by simp;omega),i4⟩
    rw[jXi hpe];unfold hv;rw[if_neg hcn];exact i1
  ·intro τ G' h_;apply xe7 h_;clear h_;intro v4 v5 v6 v7 v8 v9 Hs h_;apply ae4 h_;clear h_;intro h1 h2 h3 h4
   rw[kJp,lJc] at h1 h3
   wp_walk using 1,tSeq
   have ok:=h1.ok hP hn hPl
   refine⟨D,Hs,rs,rfl,h2,ok,fun G3 W s3 J=> ?_⟩
   exact kk W G3 (made_of h1 hP ok J) (h3.sub s3) (h4.trans (.sub s3))
noncomputable def dgr (P:List (Nat×Nat)) (n r:Nat):Nat:=((hvs P n P.length).filter fun x=>x.1 == r).length
noncomputable def jUy (n:Nat) (p:Nat×Nat):List Nat:=if p.2=n then [p.1] else [p.1,p.2]
theorem hvs_app {P Q:List (Nat×Nat)} {n:Nat}:∀k,k<=P.length->hvs (P++Q) n k=hvs P n k
 | 0,_=>rfl
 | k+1,h=>by
  have e:P[k]? =some P[k]:=lJa (by omega)
  rw[jXi e,jXi (p:=P[k]) (by rw[lKh (by omega)];exact e),hvs_app k (by omega)]
theorem hvs_snoc {P:List (Nat×Nat)} {n:Nat} {p:Nat×Nat}:hvs (P++[p]) n (P++[p]).length=hvs P n P.length++hv n P.length p:=by
 rw[lJ2,List.length_singleton,jXi (p:=p) (by simp),hvs_app _ (lJd _)]
theorem hv_cnt {n t r:Nat} {p:Nat×Nat}:((hv n t p).filter fun x=>x.1 == r).length=(jUy n p).count r:=by
 unfold hv jUy
 split
 ·by_cases h:p.1=r<;>simp[h]
 ·by_cases h:p.1=r<;>by_cases h':p.2=r<;>simp[h,h',List.filter_cons]
theorem kJr {P:List (Nat×Nat)} {n r:Nat} {p:Nat×Nat}:dgr (P++[p]) n r=dgr P n r+(jUy n p).count r:=by
 unfold dgr
 rw[hvs_snoc,List.filter_append,lJ2,hv_cnt]
theorem flt_succ {L:List (Nat×Nat×Nat)} {k:Nat}:(L.filter fun x=>decide (x.1<k+1)).length=(L.filter fun x=>decide (x.1<k)).length+(L.filter fun x=>x.1 == k).length:=by
 induction L with
 | nil=>rfl
 | cons a as ih=>
  rw[List.filter_cons,List.filter_cons,List.filter_cons]
  rcases Nat.lt_trichotomy a.1 k with h | h | h
  ·have h1:a.1<k+1:=by omega
   have h2:¬ a.1=k:=by omega
   simp[h,h1,h2,ih];omega
  ·have h1:a.1<k+1:=by omega
   simp[h,ih];omega
  ·have h1:¬ a.1<k+1:=by omega
   have h2:¬ a.1=k:=by omega
   have h3:¬ a.1<k:=by omega
   simp[h1,h2,h3,ih]
theorem pigeon {L:List (Nat×Nat×Nat)} {d:Nat}:∀k,(∀r,r<k->d<=(L.filter fun x=>x.1 == r).length)->k*d<=(L.filter fun x=>decide (x.1<k)).length
 | 0,_=>by simp
 | k+1,h=>by
  rw[flt_succ,lQc]
  have h1:=pigeon k fun r hr=>h r (by omega)
  have h2:=h k (by omega)
  omega
theorem free_room {P:List (Nat×Nat)} {n d k:Nat} (hd:2<=d) (hk:P.length<k):∃r,r<k/\dgr P n r<d:=by
 apply lK4
 intro h
 have h1:∀r,r<k->d<=((hvs P n P.length).filter fun x=>x.1 == r).length:=fun r hr=>by
  rcases lJ5 (dgr P n r) d with z | z
  ·exact absurd ⟨r,hr,z⟩ h
  ·exact z
 have h2:=pigeon k h1
 have h3:=lQz (fun x:Nat×Nat×Nat=>decide (x.1<k)) (hvs P n P.length)
 have h4:=kUw (P:=P) (n:=n) P.length
 have h5:k*2<=k*d:=Nat.mul_le_mul_left k hd
 omega
theorem dgr_zero {P:List (Nat×Nat)} {n k r:Nat} (h:∀p,p∈P->p.1<k/\p.2<k) (hr:k<=r):dgr P n r=0:=by
 unfold dgr
 rw[lQq,List.filter_eq_nil_iff]
 rintro⟨a,t,s⟩ hx
 obtain⟨p,h1,h2,h3⟩:=kKi hx
 have h4:=h p (lJf h1)
 have h5:=(kQo h3).2.2
 simp
 omega
noncomputable def jU9 (n:Nat) (f:Nat->Nat):List T:=(List.range n).map fun r=>T.int (f r)
theorem kQ2 {n:Nat} {f:Nat->Nat} {r:Nat} (h:r<n):L2.atI (jU9 n f) (r:Int)=some (.int (f r)):=by rw[atN];simp[jU9,h]
theorem usedT_len {n:Nat} {f:Nat->Nat}:(jU9 n f).length=n:=by simp[jU9]
theorem usedT_set {n:Nat} {f:Nat->Nat} {r v:Nat}:(jU9 n f).set r (.int v)=jU9 n fun x=>if x=r then v else f x:=by
 apply lJx
 intro i
 by_cases hi:i=r
 ·subst hi
  by_cases h:i<n
  ·rw[lJ6 (by simpa[jU9] using h)];simp[jU9,h]
  ·rw[lJk (by simp[jU9];omega),lJk (by simp[jU9];omega)]
 ·rw[lJ3 (Ne.symm hi)]
  by_cases h:i<n
  ·simp[jU9,h,hi]
  ·rw[lJk (by simp[jU9];omega),lJk (by simp[jU9];omega)]
theorem bump {E:Ends3} {G2:Gp} {u:Addr} {n:Nat} {f:Nat->Nat} {es:List Nat} {stay:Gp->Prop} {w0 w1 w2 w4 w5 w6 w7 w8 w9 w10 w11:Option T} (hu:G2 u=some (.lst (jU9 n f))) (hst:∀G',(∀c,c≠u->G' c=G2 c)->stay G') (hes:∀e,e∈es->e<n)
  (kk:∀G' v7,G' u=some (.lst (jU9 n fun r=>f r+es.count r))->(∀c,c≠u->G' c=G2 c)->E.nx [w0,w1,w2,some (.ref u),w4,w5,w6,v7,w8,w9,w10,w11] G'):
  ForAt (jJj 7) (tAsg (tOp jK6 (tOp rIxF (tVar 3) (tVar 7)) (tC (.int 1))) (gSub (tVar 3) (tVar 7) jVz)) E [w0,w1,w2,some (.ref u),w4,w5,w6,w7,w8,w9,w10,w11] (es.map fun e=>T.int (e:Nat)) stay G2:=by
 refine⟨fun j τ G'=>∃v7,τ=[w0,w1,w2,some (.ref u),w4,w5,w6,v7,w8,w9,w10,w11]/\G' u=some (.lst (jU9 n fun r=>f r+(es.take j).count r))/\(∀c,c≠u->G' c=G2 c),?_,?_,?_,?_⟩
 ·exact⟨w7,rfl,by simpa using hu,fun _ _=>rfl⟩
 ·intro j τ G' hj h_;apply xe1 h_;clear h_;intro v7 h_;apply ae2 h_;clear h_;intro h1 h2
  exact hst G' h2
 ·intro j x τ G' hx0 h_;apply xe1 h_;clear h_;intro v7 h_;apply ae2 h_;clear h_;intro h1 h2
  obtain⟨e,hx,rfl⟩:=jKm hx0
  have he:=hes e (lJf hx)
  have hix:L2.ixN (jU9 n fun r=>f r+(es.take j).count r).length (e:Int)=some e:=kKe (by rw[usedT_len];exact he)
  wp_walk using 1,jKk h1,kQ2 he,kJj h1 hix
  refine⟨?_,fun c hc=>by rw[jJu hc];exact h2 c hc⟩
  rw[show T.int (((f e+(es.take j).count e:Nat):Int)+1)=T.int ((f e+(es.take j).count e+1:Nat):Int) by simp,usedT_set]
  congr 1
  funext r
  rw[lKz,hx,Option.toList_some,List.count_append]
  by_cases hr:r=e
  ·subst hr;simp;omega
  ·have:¬ e=r:=fun z=>hr z.symm
   simp[hr,this]
 ·intro τ G' h_;apply xe1 h_;clear h_;intro v7 h_;apply ae2 h_;clear h_;intro h1 h2
  rw[lJc,lKt] at h1
  exact kk G' v7 h1 h2
structure WebOk (n d:Nat) (W:Web):Prop where
 len:W.length=n
 sym:Sym W
 deg:∀(r:Nat) (es:List (Nat×Nat)),W[r]? =some es->es.length<=d
 low:∀r,1<=r->r<n->∃i a j,en W r i=some (a,j)/\a<r
structure POk (P:List (Nat×Nat)) (n d k:Nat):Prop where
 ok:kU7 P n
 deg:∀r,r<n->dgr P n r<=d
 low:∀r,1<=r->r<k->∃p,p∈P/\p.2=r/\p.1<r
theorem POk.web {P:List (Nat×Nat)} {n d:Nat} {W:Web} (h:POk P n d n) (m:Made P n W):WebOk n d W where
 len:=m.len
 sym:=m.sym
 deg:=fun r es hr=>by
  rw[m.deg r es hr];exact h.deg r (by rw[<-m.len];exact (lJb.mp hr).1)
 low:=fun r h1 h2=>by
  obtain⟨p,q1,q2,q3⟩:=h.low r h1 h2
  obtain⟨i,j,q4⟩:=m.tie p q1 (by omega)
  have:=m.sym _ _ _ _ q4
  rw[q2] at this
  exact⟨j,p.1,i,this,q3⟩
noncomputable def jQ2:Sp3:=fun xs G Q=>∃(b:Addr) (n d m:Nat),xs=[.ref b,.int n,.int d]/\BoxAt G b m/\m+300<2^40/\1<=n/\n<=24/\2<=d/\d<=100/\∀W G',WebOk n d W->BoxAt G' b (m+300)->Keep b G G'->Q (encW W) G'
noncomputable def N_l_web:List Str:=["_law_box_here","_law_many","_law_most","_law_used","_law_pairs","_law_room","_law_free","_law_end","_law_turn_here","_law_pair","_law_ends_here","_law_one"]
noncomputable def kJl:TS3:=
 (tSeq (tAsg (tOp jXm (tLst (jJc (tC (.int 0)) tNil)) (tVar 1)) (jJj 3))
 (tSeq (tAsg (tLst tNil) (jJj 4))
 (tSeq (tFor (iRng2 (jJc (tC (.int 1)) (jJc (tVar 1) tNil))) (jJj 5) (tSeq (tAsg (jQ5 [false,false,false,false,false,false,false,false,false,false,false,true] (jKt (jJc (tVar 5) tNil)) (jJj 11) (jKw (tOp rLt (tOp rIxF (tVar 3) (tVar 11)) (tVar 2))) (tVar 11)) (jJj 6))
 (tSeq (jV7 (tBM "list" jQm (tVar 4) (jJc (tTup (jJc (tOp rIxF (tVar 6) (jJy jJs (jJc (tVar 0) (jJc (tCB rLen (jJc (tVar 6) tNil)) tNil)))) (jJc (tVar 5) tNil))) tNil)))
 (tFor (iSeq (tOp rIxF (tVar 4) (tUn rNeg (tC (.int 1))))) (jJj 7) (tAsg (tOp jK6 (tOp rIxF (tVar 3) (tVar 7)) (tC (.int 1))) (gSub (tVar 3) (tVar 7) jVz))))))
 (tSeq (tFor (jKt (jJc (jJy jJs (jJc (tVar 0) (jJc (tOp jK6 (tVar 1) (tC (.int 2))) tNil))) tNil)) (jJj 8) (tSeq (tAsg (tTup (jJc (jJy jJs (jJc (tVar 0) (jJc (tVar 1) tNil))) (jJc (jJy jJs (jJc (tVar 0) (jJc (tOp jK6 (tVar 1) (tC (.int 1))) tNil))) tNil))) (jJj 9))
 (tSeq (tAsg (jQ5 [false,false,false,false,false,false,false,true,false,false,false,false] (iSeq (tVar 9)) (jJj 7) (jKw (tOp rLt (tVar 7) (tVar 1))) (tVar 7)) (jJj 10))
 (tIfS (jKw (tCB rAll (jJc (jQ5 [false,false,false,false,false,false,false,true,false,false,false,false] (iSeq (tVar 10)) (jJj 7) jUh (tOp rLeF (tOp jK6 (tOp rIxF (tVar 3) (tVar 7)) (tBM "list" rCount (tVar 10) (jJc (tVar 7) tNil))) (tVar 2))) tNil))) (tSeq (jV7 (tBM "list" jQm (tVar 4) (jJc (tVar 9) tNil)))
 (tFor (iSeq (tVar 10)) (jJj 7) (tAsg (tOp jK6 (tOp rIxF (tVar 3) (tVar 7)) (tC (.int 1))) (gSub (tVar 3) (tVar 7) jVz)))) jQn))))
 (tRet (jJy jJ8 (jJc (tVar 0) (jJc (tVar 4) (jJc (tVar 1) tNil)))))))))
theorem rep_used {n:Nat}:(List.replicate n [T.int 0]).flatten=jU9 n fun _=>0:=by
 have:(List.replicate n [T.int 0]).flatten=List.replicate n (T.int 0):=by
  induction n with
  | zero=>rfl
  | succ n ih=>rw[lKr,lQb,ih];rfl
 rw[this]
 apply lJx
 intro i
 by_cases h:i<n
 ·simp[jU9,h]
 ·rw[lJk (by simp;omega),lJk (by simp[jU9];omega)]
theorem rngT2_map {lo n:Nat}:rngT lo n=(List.range n).map fun (k:Nat)=>T.int ((lo+k:Nat):Int):=by simp[rngT]
theorem cnt_int {es:List Nat} {r:Nat}:(es.map fun e=>T.int (e:Nat)).countP (fun z=>eqT z (.int r))=es.count r:=by
 rw[List.countP_map,List.count]
 congr 1
 funext e
 simp only[eqT,Function.comp]
 by_cases h:e=r
 ·subst h;simp
 ·have h2:¬ (e:Int)=r:=by omega
  rw[beq_eq_false_iff_ne.mpr h,beq_eq_false_iff_ne.mpr h2]
theorem jXq {es:List Nat}:(es.map fun e=>T.int (e:Nat)).all jXj=true:=by
 rw[List.all_map,lKy];intros;rfl
theorem jZi {α:Type} {f:α->Bool}:∀ {es:List α},allBl (es.map fun e=>T.bl (f e))=some (es.all f)
 | []=>rfl
 | e::es=>by rw[lJh,allBl,jZi,lKw]
theorem rdok_l_web:∀xs G Q,jQ2 xs G Q->kJl {nx:=fun _ G'=>Q .non G',rt:=Q} (jJk N_l_web xs) G:=by
 intro xs G Q h_;apply xe4 h_;clear h_;intro b n d m h_;apply ae7 h_;clear h_;intro hb hm hn1 hn2 hd1 hd2 kk
 rw[show jJk N_l_web [.ref b,.int n,.int d]=[some (.ref b),some (.int n),some (.int d),none,none,none,none,none,none,none,none,none] from rfl]
 have hs:=sz
 wp_walk using 1,kJl,jJ5,jKt,iRng2
 refine⟨by omega,fun z hz=> ?_⟩
 have e1:mulR (gup G z (GO.lst [T.int 0])) (.ref z) (.int n)=some (.newL (jU9 n fun _=>0)):=by
  rw[<-rep_used]
  simp only[mulR,jJi];rw[if_pos];congr;refine⟨?_,?_,?_⟩<;>simp<;>omega
 wp_walk using 1,e1
 intro u hu
 obtain⟨huz,hu0⟩:=jUg hu
 refine⟨lJt _,fun pr hpr=> ?_⟩
 obtain⟨hpu,hpr1⟩:=jUg hpr
 obtain⟨hpz,hpr0⟩:=jUg hpr1
 obtain⟨bo,hbo⟩:=hb.some
 have hbu:=jJh hbo hu0
 have hbp:=jJh hbo hpr0
 have hbz:=jJh hbo hz
 refine⟨by omega,by omega,by omega,by omega,?_⟩
 rw[show ((n:Int)-1).toNat=n-1 by omega,show rngT 1 (n-1)=rngT ((1:Nat):Int) (n-1) from rfl,rngT2_map]
 let J1:Nat->St3->Gp->Prop:=fun k τ G'=>∃(v5 v6 v7:Option T) (P:List (Nat×Nat)),τ=[some (.ref b),some (.int n),some (.int d),some (.ref u),some (.ref pr),v5,v6,v7,none,none,none,none]/\P.length=k/\POk P n d (k+1)/\(∀p,p∈P->p.1<k+1/\p.2<k+1)/\G' u=some (.lst (jU9 n (dgr P n)))/\G' pr=some (.lst (P.map encE))/\BoxAt G' b (m+k)/\Keep b G G'
 refine⟨J1,?_,?_,?_,?_⟩
 ·refine xi4 none none none [] rfl ⟨rfl,⟨by intro p h;simp at h,fun r _=>by simp[dgr,hvs],fun r h1 h2=>by omega⟩,by intro p h;simp at h,by rw[jJu hpu.symm,jJi];rfl,jJi,((hb.gup hbz).gup hbu).gup hbp,(((Keep.new hz).over hu0).over hpr0)⟩
 ·intros;trivial
 ·intro k x τ G1 hx0 h_;apply xe4 h_;clear h_;intro v5 v6 v7 P h_;apply ae7 h_;clear h_;intro hPl hP hlt hgu hgp hbx hkp
  obtain⟨e,hx,rfl⟩:=jKm hx0
  obtain⟨hk,rfl⟩:k<n-1/\k=e:=by
   rw[lJb] at hx;obtain⟨q1,q2⟩:=hx;simp at q1 q2;exact⟨q1,q2⟩
  wp_walk using 1,iSeq,jKt,jJ5
  refine⟨by omega,by omega,?_⟩
  rw[show (((1+k:Nat)):Int).toNat=1+k by omega,jV8]
  refine kU3 (fun r=>if dgr P n r<d then some (T.int (r:Nat)) else none) (by simp;omega) (fun _ _=>trivial) ?_ ?_
  ·intro i r hr G2 K K0 s2 hK hK0
   obtain⟨hr1,rfl⟩:i<1+k/\i=r:=by
    rw[lJb] at hr;obtain⟨q1,q2⟩:=hr;simp at q1 q2;exact⟨q1,q2⟩
   wp_walk using 1,jKk (s2 _ _ hgu),kQ2 (show i<n by omega)
   by_cases hdg:dgr P n i<d
   ·rw[if_pos (by omega)]
    exact hK _ _ (by rw[if_pos hdg]) (.refl _)
   ·rw[if_neg (by omega)]
    exact hK0 (by rw[if_neg hdg]) _ (.refl _)
  ·intro fr G2 hfr hfr2 s2
   obtain⟨F,hF1,hF2⟩:∃F:List Nat,(List.range (1+k)).filterMap (fun r=>if dgr P n r<d then some (T.int (r:Nat)) else none)=F.map (fun r=>T.int (r:Nat))/\F=(List.range (1+k)).filter fun r=>decide (dgr P n r<d):=by
    refine⟨_,?_,rfl⟩
    generalize List.range (1+k)=l
    induction l with
    | nil=>rfl
    | cons a as ih=>
     rw[lK8,List.filter_cons]
     by_cases h:dgr P n a<d<;>simp[h,ih]
   rw[hF1] at hfr2
   have hFl:F.length<=1+k:=by rw[hF2];have:=lQz (fun r=>decide (dgr P n r<d)) (List.range (1+k));rw[lJ1] at this;exact this
   have hF0:1<=F.length:=by
    obtain⟨r,q1,q2⟩:=free_room (P:=P) (n:=n) (d:=d) (k:=1+k) hd1 (by omega)
    have:r∈F:=by rw[hF2,lQo];exact⟨lJn.mpr q1,by simpa using q2⟩
    exact List.length_pos_of_mem this
   have hgp2:=s2 _ _ hgp
   wp_walk using 1,jK0 hgp2,jJm hfr2,lJc
   refine⟨b,_,m+k,rfl,hbx.sub s2,by omega,by omega,by omega,fun c G3 c0 c1 bx kp=> ?_⟩
   have hfb:fr≠b:=by rintro rfl;obtain⟨o,ho⟩:=hbx.some;rw[ho] at hfr;cases hfr
   have hcF:c.toNat<F.length:=by omega
   have hca:L2.atI (F.map fun r=>T.int (r:Nat)) c=some (.int (F[c.toNat]:Nat)):=by rw[atZ c0];simp[hcF]
   have hmem:F[c.toNat]∈F:=lQv hcF
   generalize F[c.toNat]=a at hca hmem
   rw[hF2,lQo] at hmem
   have ha1:a<1+k:=lJn.mp hmem.1
   have ha2:dgr P n a<d:=by simpa using hmem.2
   have hgp3:=kp _ _ hbp.symm hgp2
   have hgu3:=kp _ _ hbu.symm (s2 _ _ hgu)
   wp_walk using 1,jKk (kp _ _ hfb hfr2),hca,hgp3
   refine⟨by omega,by simp;omega,_,at_last,[T.int (a:Nat),T.int ((1+k:Nat):Int)],rfl,?_⟩
   have hne:u≠pr:=hpu.symm
   have hE:jUy n (a,1+k)=[a,1+k]:=by unfold jUy;rw[if_neg (show ¬ (1+k)=n by omega)]
   refine bump (es:=[a,1+k]) (n:=n) (f:=dgr P n) (by rw[jJu hne];exact hgu3) (fun _ _=>rfl) (by simp;omega) ?_
   intro G4 v7 hu4 hk4
   have hlt':∀p,p∈P++[(a,1+k)]->p.1<k+1+1/\p.2<k+1+1:=by
    intro p hp
    rw[lJ4,lJv] at hp
    rcases hp with hp | rfl
    ·have:=hlt p hp;omega
    ·exact⟨by show a<_;omega,by show 1+k<_;omega⟩
   refine xi4 _ _ _ (P++[(a,1+k)]) rfl ⟨by simp[hPl],⟨?_,?_,?_⟩,hlt',?_,?_,?_,?_⟩
   ·intro p hp
    have:=hlt' p hp;omega
   ·intro r hr
    rw[kJr,hE]
    have h0:=hP.deg r hr
    have hz1:=dgr_zero (n:=n) (r:=1+k) hlt (by omega)
    by_cases h1:r=a
    ·subst h1
     have:¬ 1+k=r:=by omega
     simp[this];omega
    ·have h1':¬ a=r:=fun z=>h1 z.symm
     by_cases h2:1+k=r
     ·subst h2;simp[h1'];omega
     ·simp[h1',h2];omega
   ·intro r h1 h2
    by_cases h3:r<k+1
    ·obtain⟨p,q1,q2⟩:=hP.low r h1 h3
     exact⟨p,lKp _ q1,q2⟩
    ·exact⟨(a,1+k),by simp,by show 1+k=r;omega,by show a<r;omega⟩
   ·rw[hu4,show (fun r=>dgr P n r+List.count r [a,1+k])=dgr (P++[(a,1+k)]) n from funext fun r=>by rw[kJr,hE]]
   ·rw[hk4 pr hpu,jJi];simp[encE]
   ·obtain⟨x,y,w,z1,z2⟩:=bx
    exact⟨x,y,w,by rw[hk4 b hbu,jJu hbp];exact z1,z2⟩
   ·intro c o hc he
    have hcu:=jJh he hu0
    have hcp:=jJh he hpr0
    rw[hk4 c hcu,jJu hcp]
    exact kp _ _ hc (s2 _ _ (hkp _ _ hc he))
 ·intro τ G1 h_;apply xe4 h_;clear h_;intro v5 v6 v7 P h_;apply ae7 h_;clear h_;intro hPl hP hlt hgu hgp hbx hkp
  rw[lJc,lJ1] at hPl hP hbx
  rw[show n-1+1=n by omega] at hP
  wp_walk using 1,jJ5,jKt
  refine⟨b,_,m+(n-1),rfl,hbx,by omega,by omega,by omega,fun q G2 q0 q1 bx kp=> ?_⟩
  refine⟨q,rfl,by omega,by omega,?_⟩
  let J2:Nat->St3->Gp->Prop:=fun k τ G'=>∃(v7 v8 v9 v10 v11:Option T) (P:List (Nat×Nat)),τ=[some (.ref b),some (.int n),some (.int d),some (.ref u),some (.ref pr),v5,v6,v7,v8,v9,v10,v11]/\P.length<=n+k/\POk P n d n/\G' u=some (.lst (jU9 n (dgr P n)))/\G' pr=some (.lst (P.map encE))/\BoxAt G' b (m+n+2*k)/\Keep b G G'
  refine⟨J2,?_,?_,?_,?_⟩
  ·exact xi6 _ _ _ _ _ P rfl ⟨by omega,hP,kp _ _ hbu.symm hgu,kp _ _ hbp.symm hgp,bx.mono (by omega),hkp.trans kp⟩
  ·intros;trivial
  ·intro k x τ G3 hx0 h_;apply xe6 h_;clear h_;intro v7 v8 v9 v10 v11 P h_;apply ae6 h_;clear h_;intro hPl hP hgu hgp hbx hkp
   have hk:k<q.toNat:=by have:=(lJb.mp hx0).1;rw[jQh] at this;exact this
   wp_walk using 1,jJ5,iSeq
   refine⟨b,_,_,rfl,hbx,by omega,by omega,by omega,fun c G4 c0 c1 bx4 kp4=> ?_⟩
   refine⟨b,_,_,rfl,bx4,by omega,by omega,by omega,fun e G5 e0 e1 bx5 kp5=> ?_⟩
   obtain⟨a,rfl⟩:=lKf c0
   obtain⟨y,rfl⟩:=lKf e0
   have ha:a<n:=by omega
   have hy:y<=n:=by omega
   have kp35:=kp4.trans kp5
   have hgu5:=kp35 _ _ hbu.symm hgu
   have hgp5:=kp35 _ _ hbp.symm hgp
   refine⟨by omega,?_⟩
   have hEn:∀e',e'∈jUy n (a,y)->e'<n:=by
    intro e' he'
    unfold jUy at he'
    split at he'<;>simp at he'<;>simp at * <;>omega
   have hEl:(jUy n (a,y)).length<=2:=by unfold jUy;split<;>simp
   refine kU3 (es:=[a,y]) (enc:=fun r:Nat=>T.int r) (fun r=>if r<n then some (T.int (r:Nat)) else none) (by simp;omega) (fun _ _=>trivial) ?_ ?_
   ·intro i r hr G6 K K0 s6 hK hK0
    wp_walk using 1,tSeq
    by_cases hrn:r<n
    ·rw[if_pos (by omega)]
     exact hK _ _ (by rw[if_pos hrn]) (.refl _)
    ·rw[if_neg (by omega)]
     exact hK0 (by rw[if_neg hrn]) _ (.refl _)
   ·intro en G6 hen hen6 s6
    have hEE:List.filterMap (fun r=>if r<n then some (T.int (r:Nat)) else none) [a,y]=(jUy n (a,y)).map fun r=>T.int (r:Nat):=by
     unfold jUy
     by_cases hyn:y=n
     ·simp[ha,hyn]
     ·have:y<n:=by omega
      simp[ha,hyn,this]
    rw[hEE] at hen6
    refine⟨_,jJm hen6,?_⟩
    refine jKd (fun r=>T.bl (decide (dgr P n r+(jUy n (a,y)).count r<=d))) (by omega) (fun G' s=>jJm (s _ _ hen6)) ?_ ?_
    ·intro i r hr G7 K K0 s7 hK
     have hrn:=hEn r (lJf hr)
     wp_walk using 1,jKk (s7 _ _ (s6 _ _ hgu5)),kQ2 hrn,jK0 (s7 _ _ hen6),rCount,s7 _ _ hen6,rLeF
     refine⟨rfl,jXq,?_⟩
     rw[cnt_int,show decide (((dgr P n r:Nat):Int)+((jUy n (a,y)).count r:Nat)<=(d:Nat))=decide (dgr P n r+(jUy n (a,y)).count r<=d) from decide_eq_decide.mpr (by omega)]
     exact hK _ (.refl _)
    ·intro al G7 hal hal7 s7
     refine⟨al,_,_,rfl,hal7,jZi,_,rfl,?_⟩
     have s57:=s6.trans s7
     have hgp7:=s57 _ _ hgp5
     have hgu7:=s57 _ _ hgu5
     have henp:en≠pr:=(jJh hgp5 hen).symm
     have henu:en≠u:=(jJh hgu5 hen).symm
     have hkp7:Keep b G G7:=(hkp.trans kp35).trans (.sub s57)
     split
     ·rename_i hall
      rw[lKy] at hall
      refine⟨by rw[jK0 hgp7];trivial,_,hgp7,by simp;omega,_,jJm (by rw[jJu henp];exact s7 _ _ hen6),?_⟩
      refine bump (es:=jUy n (a,y)) (n:=n) (f:=dgr P n) (by rw[jJu hpu.symm];exact hgu7) (fun G' hG'=>jJm (by rw[hG' _ henu,jJu henp];exact s7 _ _ hen6)) hEn ?_
      intro G8 w7 hu8 hk8
      refine xi6 _ _ _ _ _ (P++[(a,y)]) rfl ⟨by simp;omega,⟨?_,?_,?_⟩,?_,?_,?_,?_⟩
      ·intro p hp
       rw[lJ4,lJv] at hp
       rcases hp with hp | rfl
       ·exact hP.ok p hp
       ·exact⟨ha,hy⟩
      ·intro r hr
       rw[kJr]
       by_cases hm:r∈jUy n (a,y)
       ·simpa using hall r hm
       ·rw[List.count_eq_zero_of_not_mem hm];exact hP.deg r hr
      ·intro r h1 h2
       obtain⟨p,q1,q2⟩:=hP.low r h1 h2
       exact⟨p,lKp _ q1,q2⟩
      ·rw[hu8,show (fun r=>dgr P n r+List.count r (jUy n (a,y)))=dgr (P++[(a,y)]) n from funext fun r=>by rw[kJr]]
      ·rw[hk8 pr hpu,jJi];simp[encE]
      ·obtain⟨x1,y1,w,z1,z2⟩:=(bx5.sub s57).mono (show m+n+2*k+1+1<=m+n+2*(k+1) by omega)
       exact⟨x1,y1,w,by rw[hk8 b hbu,jJu hbp];exact z1,z2⟩
      ·intro c o hc he
       have hcu:=jJh he hu0
       have hcp:=jJh he hpr0
       rw[hk8 c hcu,jJu hcp]
       exact hkp7 _ _ hc he
     ·exact xi6 _ _ _ _ _ P rfl ⟨by omega,hP,hgu7,hgp7,(bx5.sub s57).mono (by omega),hkp7⟩
  ·intro τ G3 h_;apply xe6 h_;clear h_;intro v7 v8 v9 v10 v11 P h_;apply ae6 h_;clear h_;intro hPl hP hgu hgp hbx hkp
   rw[jQh] at hPl hbx
   wp_walk using 1,tSeq
   refine⟨b,pr,P,n,_,rfl,hbx,by omega,hbp.symm,hgp,hP.ok,by omega,by omega,fun W G4 mw bx4 kp4=> ?_⟩
   exact kk W G4 (hP.web mw) (bx4.mono (by omega)) (hkp.trans kp4)
def Conn (W:Web):Prop:=∀S:Nat->Prop,S 0->(∀r i s j,S r->en W r i=some (s,j)->S s)->∀r,r<W.length->S r
theorem WebOk.conn {n d:Nat} {W:Web} (h:WebOk n d W):Conn W:=by
 intro S h0 hst r
 induction r using Nat.strongRecOn with
 | ind r ih=>
  intro hr
  by_cases hz:r=0
  ·subst hz;exact h0
  ·obtain⟨i,a,j,q1,q2⟩:=h.low r (by omega) (by rw[<-h.len];exact hr)
   exact hst a j r i (ih a q2 (by omega)) (h.sym _ _ _ _ q1)
theorem jZg {W:Web} {r i:Nat} {e:Nat×Nat} (h:en W r i=some e):r<W.length:=by
 obtain⟨es,h1,h2⟩:=jQ6 h
 exact (lJb.mp h1).1
noncomputable def ring (n:Nat):Web:=(List.range n).map fun r=>[((r+1)%n,1),((r+n-1)%n,0)]
theorem en_ring0 {n r:Nat} (h:r<n):en (ring n) r 0=some ((r+1)%n,1):=jQq (es:=[((r+1)%n,1),((r+n-1)%n,0)]) (by simp[ring,h]) rfl
theorem kU0 {n r:Nat} (h:r<n):en (ring n) r 1=some ((r+n-1)%n,0):=jQq (es:=[((r+1)%n,1),((r+n-1)%n,0)]) (by simp[ring,h]) rfl
theorem kUc {n:Nat}:(ring n).length=n:=by simp[ring]
theorem ring_ok {n:Nat} (hn:1<=n):WebOk n 2 (ring n) where
 len:=kUc
 sym:=by
  intro r i s j h
  have hr:r<n:=by have:=jZg h;rwa [kUc] at this
  have hi:i=0\/i=1:=by
   obtain⟨es,h1,h2⟩:=jQ6 h
   have:es=[((r+1)%n,1),((r+n-1)%n,0)]:=by simp[ring,hr] at h1;exact h1.symm
   subst this
   have:=(lJb.mp h2).1
   simp at this;omega
  rcases hi with rfl | rfl
  ·rw[en_ring0 hr] at h;cases h
   rw[kU0 (lK1 _ (by omega))]
   congr 2
   by_cases hz:r+1=n
   ·rw[hz,Nat.mod_self];rw[lK3 (by omega)];omega
   ·rw[lK3 (show r+1<n by omega),show r+1+n-1=r+n by omega,Nat.add_mod_right,lK3 hr]
  ·rw[kU0 hr] at h;cases h
   rw[en_ring0 (lK1 _ (by omega))]
   congr 2
   by_cases hz:r=0
   ·subst hz;rw[lK3 (show 0+n-1<n by omega),show 0+n-1+1=n by omega,Nat.mod_self]
   ·rw[show r+n-1=(r-1)+n by omega,Nat.add_mod_right,lK3 (show r-1<n by omega),show r-1+1=r by omega,lK3 hr]
 deg:=fun r es hr=>by
  have hrl:r<n:=by have:=(lJb.mp hr).1;rwa [kUc] at this
  simp[ring,hrl] at hr;rw[<-hr];simp
 low:=fun r h1 h2=>⟨1,r-1,0,by rw[kU0 h2,show r+n-1=(r-1)+n by omega,Nat.add_mod_right,lK3 (show r-1<n by omega)],by omega⟩
noncomputable def jQx:Sp3:=fun xs G Q=>∃n:Nat,xs=[.int n]/\1<=n/\n<=1000/\∀G',Sub G G'->Q (encW (ring n)) G'
noncomputable def N_l_ring:List Str:=["_law_many","_law_room"]
noncomputable def jYy:TS3:=
 (tRet (tCB jJ9 (jJc (jQ5 [false,true] (jKt (jJc (tVar 0) tNil)) (jJj 1) jUh (tTup (jJc (tTup (jJc (tOp rMod (tOp jK6 (tVar 1) (tC (.int 1))) (tVar 0)) (jJc (tC (.int 1)) tNil))) (jJc (tTup (jJc (tOp rMod (tOp rSub (tVar 1) (tC (.int 1))) (tVar 0)) (jJc (tC (.int 0)) tNil))) tNil)))) tNil)))
theorem rdok_l_ring:∀xs G Q,jQx xs G Q->jYy {nx:=fun _ G'=>Q .non G',rt:=Q} (jJk N_l_ring xs) G:=by
 intro xs G Q h_;apply xe1 h_;clear h_;intro n h_;apply ae3 h_;clear h_;intro hn1 hn2 kk
 rw[show jJk N_l_ring [.int n]=[some (.int n),none] from rfl]
 have hs:=sz
 wp_walk using 1,jYy,jKt
 refine⟨by omega,by omega,?_⟩
 rw[show ((n:Int)).toNat=n by omega,jV8]
 refine jKd (fun r=>encR [((r+1)%n,1),((r+n-1)%n,0)]) (by simp;omega) (fun _ _=>trivial) ?_ ?_
 ·intro i r hr G' K K0 s hk
  have hrn:r<n:=by
   rw[lJb] at hr;obtain⟨q1,q2⟩:=hr;simp at q1 q2;omega
  wp_walk using 1,tSeq
  have e1:((r:Int)+1)%(n:Int)=(((r+1)%n:Nat):Int):=by simp
  have e2:((r:Int)-1)%(n:Int)=(((r+n-1)%n:Nat):Int):=by
   rw[Int.natCast_emod,show ((r+n-1:Nat):Int)=(r:Int)-1+n by omega,Int.add_emod_right]
  rw[e1,e2]
  refine⟨by omega,by omega,by omega,by omega,by omega,?_⟩
  exact hk _ (.refl _)
 ·intro D G' hD h1 h2
  wp_walk using 1,jJm h1
  have:=kk G' h2
  rw[encW,ring,lJj] at this
  exact this
structure Fine (W:Web):Prop where
 len:W.length<=1000
 row:∀(r:Nat) (es:List (Nat×Nat)),W[r]? =some es->es.length<=1000
 rng:∀r i s j,en W r i=some (s,j)->s<W.length
theorem jXs {W:Web} {r:Nat} {es:List (Nat×Nat)} (h:W[r]? =some es):L2.atI (W.map encR) (r:Int)=some (encR es):=by rw[atN];simp[h]
theorem encR_at {es:List (Nat×Nat)} {i:Nat} {e:Nat×Nat} (h:es[i]? =some e):L2.atI (es.map encE) (i:Int)=some (encE e):=by rw[atN];simp[h]
theorem jYt {n k:Nat} {x:T} (h:(rngT 0 n)[k]? =some x):k<n/\x= .int (k:Nat):=jUv h
noncomputable def leE (a b:Nat×Nat):Bool:=HT.lexLe [(a.1:Int),(a.2:Int)] [(b.1:Int),(b.2:Int)]
theorem leE_iff {a b:Nat×Nat}:leE a b=true↔(a.1<b.1\/(a.1=b.1/\a.2<=b.2)):=by
 unfold leE
 rw[HT.lexLe_cons,HT.lexLe_cons,HT.lexLe_nil]
 by_cases h1:a.1=b.1
 ·rw[if_pos (by omega)]
  by_cases h2:a.2=b.2
  ·rw[if_pos (by omega)];simp;omega
  ·rw[if_neg (by omega)];simp;omega
 ·rw[if_neg (by omega)];simp;omega
noncomputable abbrev Tie:=(Nat×Nat)×(Nat×Nat)
noncomputable def encT (x:Tie):T:= .tup [encE x.1,encE x.2]
noncomputable def kJf (r:Nat) (es:List (Nat×Nat)) (i:Nat):Option Tie:=match es[i]? with
 | some e=>if leE (r,i) e=true then some ((r,i),e) else none
 | none=>none
noncomputable def rowE (W:Web) (r:Nat):List Tie:=match W[r]? with
 | some es=>(List.range es.length).filterMap (kJf r es)
 | none=>[]
noncomputable def jQv (W:Web):List Tie:=(List.range W.length).flatMap (rowE W)
theorem jYe {r i:Nat} {es:List (Nat×Nat)} {x:Tie} (h:kJf r es i=some x):x.1=(r,i)/\es[i]? =some x.2/\leE x.1 x.2=true:=by
 unfold kJf at h
 split at h
 ·rename_i e he
  split at h
  ·rename_i hl;cases h;exact⟨rfl,he,hl⟩
  ·cases h
 ·cases h
theorem endsL_mem {W:Web} {x:Tie}:x∈jQv W↔en W x.1.1 x.1.2=some x.2/\leE x.1 x.2=true:=by
 obtain⟨⟨r,i⟩,e⟩:=x
 unfold jQv
 rw[List.mem_flatMap]
 constructor
 ·rintro⟨r',h1,h2⟩
  unfold rowE at h2
  split at h2
  ·rename_i es hes
   rw[lQh] at h2
   obtain⟨i',h3,h4⟩:=h2
   obtain⟨q1,q2,q3⟩:=jYe h4
   cases q1
   exact⟨jQq hes q2,q3⟩
  ·cases h2
 ·rintro⟨h1,h2⟩
  obtain⟨es,q1,q2⟩:=jQ6 h1
  refine⟨r,lJn.mpr (lJb.mp q1).1,?_⟩
  unfold rowE
  rw[q1]
  show _∈List.filterMap _ _
  rw[lQh]
  refine⟨i,lJn.mpr (lJb.mp q2).1,?_⟩
  have q2:es[i]? =some e:=q2
  unfold kJf
  rw[q2]
  show (if leE (r,i) e=true then _ else _)=_
  rw[if_pos h2]
theorem pw_fm {α β:Type} {f:α->Option β} {R:β->β->Prop} {xs:List α} (hx:xs.Nodup) (h:∀a a' b b',a≠a'->f a=some b->f a'=some b'->R b b'):(xs.filterMap f).Pairwise R:=by
 rw[List.pairwise_filterMap]
 exact hx.imp fun hne b hb b' hb'=>h _ _ b b' hne hb hb'
theorem endsL_nodup {W:Web}:(jQv W).Nodup:=by
 unfold jQv
 have h:∀l:List Nat,l.Nodup->(l.flatMap (rowE W)).Nodup:=by
  intro l hl
  induction l with
  | nil=>exact lQj
  | cons a as ih=>
   rw[lJ8] at hl
   rw[List.flatMap_cons,lQd]
   refine⟨?_,ih hl.2,?_⟩
   ·unfold rowE
    split
    ·refine pw_fm lQf ?_
     rintro i i' x x' hne hx hx' rfl
     have q1:=(jYe hx).1
     have q2:=(jYe hx').1
     rw[q1] at q2;cases q2;exact hne rfl
    ·exact lQj
   ·intro x hx y hy
    rintro rfl
    rw[List.mem_flatMap] at hy
    obtain⟨a',h1,h2⟩:=hy
    have fst:∀r,x∈rowE W r->x.1.1=r:=by
     intro r hr
     unfold rowE at hr
     split at hr
     ·rw[lQh] at hr
      obtain⟨i,_,h4⟩:=hr
      rw[(jYe h4).1]
     ·cases hr
    have:a=a':=(fst a hx).symm.trans (fst a' h2)
    subst this;exact hl.1 h1
 exact h _ lQf
noncomputable def jQa:Sp3:=fun xs G Q=>∃W:Web,xs=[encW W]/\Fine W/\∀p G',G p=none->G' p=some (.lst ((jQv W).map encT))->(jQv W).length<=1000000->Sub G G'->Q (.ref p) G'
noncomputable def N_l_ends:List Str:=["_law_web_here","_law_found","_law_room","_law_door"]
noncomputable def jY2:TS3:=
 (tSeq (tAsg (tLst tNil) (jJj 1))
 (tSeq (tFor (jKt (jJc (tCB rLen (jJc (tVar 0) tNil)) tNil)) (jJj 2) (tFor (jKt (jJc (tCB rLen (jJc (tOp rIxF (tVar 0) (tVar 2)) tNil)) tNil)) (jJj 3) (tIfS (jKw (tOp rLeF (tTup (jJc (tVar 2) (jJc (tVar 3) tNil))) (tOp rIxF (tOp rIxF (tVar 0) (tVar 2)) (tVar 3)))) (jV7 (tBM "list" jQm (tVar 1) (jJc (tTup (jJc (tTup (jJc (tVar 2) (jJc (tVar 3) tNil))) (jJc (tOp rIxF (tOp rIxF (tVar 0) (tVar 2)) (tVar 3)) tNil))) tNil))) jQn)))
 (tRet (tVar 1))))
theorem rdok_l_ends:∀xs G Q,jQa xs G Q->jY2 {nx:=fun _ G'=>Q .non G',rt:=Q} (jJk N_l_ends xs) G:=by
 intro xs G Q h_;apply xe1 h_;clear h_;intro W h_;apply ae2 h_;clear h_;intro fine kk
 rw[show jJk N_l_ends [encW W]=[some (.tup (W.map encR)),none,none,none] from rfl]
 have hs:=sz
 have hl:=fine.len
 wp_walk using 1,jY2,jJ5,jKt,lJc
 refine⟨lJt _,fun p hp=>⟨by omega,by omega,?_⟩⟩
 rw[show ((W.length:Int)).toNat=W.length by omega]
 refine⟨fun k τ G'=>∃(v2 v3:Option T),τ=[some (.tup (W.map encR)),some (.ref p),v2,v3]/\G' p=some (.lst (((List.range k).flatMap (rowE W)).map encT))/\((List.range k).flatMap (rowE W)).length<=1000*k/\Sub G G',?_,?_,?_,?_⟩
 ·exact⟨none,none,rfl,jJi,lJt _,.new hp⟩
 ·intros;trivial
 ·intro k x τ G1 hx h_;apply xe2 h_;clear h_;intro v2 v3 h_;apply ae3 h_;clear h_;intro h1 h2 h3
  obtain⟨hk,rfl⟩:=jYt hx
  have hW:W[k]? =some W[k]:=lJa hk
  generalize W[k]=es at hW
  have hes:=fine.row k es hW
  wp_walk using 1,jJ5,jKt,jXs hW,encR,lJc
  refine⟨by omega,by omega,?_⟩
  rw[show ((es.length:Int)).toNat=es.length by omega]
  refine⟨fun i τ G'=>∃(v3:Option T),τ=[some (.tup (W.map encR)),some (.ref p),some (.int k),v3]/\G' p=some (.lst (((List.range k).flatMap (rowE W)++(List.range i).filterMap (kJf k es)).map encT))/\((List.range k).flatMap (rowE W)++(List.range i).filterMap (kJf k es)).length<=1000*k+i/\Sub G G',?_,?_,?_,?_⟩
  ·exact⟨v3,rfl,by simpa using h1,by simpa using h2,h3⟩
  ·intros;trivial
  ·intro i x τ G2 hx h_;apply xe1 h_;clear h_;intro v3 h_;apply ae3 h_;clear h_;intro i1 i2 i3
   obtain⟨hi,rfl⟩:=jYt hx
   have hE:es[i]? =some es[i]:=lJa hi
   generalize es[i]=e at hE
   wp_walk using 1,rLeF,jXs hW,encR,encR_at hE,encE,jK0 i1,i1
   refine⟨by omega,?_⟩
   have hle:HT.lexLe [(k:Int),(i:Int)] [(e.1:Int),(e.2:Int)]=leE (k,i) e:=rfl
   rw[hle]
   by_cases hc:leE (k,i) e=true
   ·have hcell:kJf k es i=some ((k,i),e):=by unfold kJf;rw[hE];show (if _ then _ else _)=_;rw[if_pos hc]
    rw[if_pos hc]
    refine⟨by omega,by omega,by rw[lJc];omega,?_,?_,i3.over hp⟩
    ·rw[lKk,lQr];simp[hcell,encT,encE]
    ·rw[lKk,lQr,lJ2,lJ2]
     rw[lJ2] at i2
     simp[hcell] at i2 ⊢; omega
   ·have hcell:kJf k es i=none:=by unfold kJf;rw[hE];show (if _ then _ else _)=_;rw[if_neg hc]
    rw[if_neg hc]
    refine⟨?_,?_,i3⟩
    ·rw[lKk,lQr];simp[hcell]
    ·rw[lKk,lQr];simp[hcell];simp at i2;omega
  ·intro τ G' h_;apply xe1 h_;clear h_;intro v3 h_;apply ae3 h_;clear h_;intro i1 i2 i3
   rw[jQh] at i1 i2
   have e1:(List.range (k+1)).flatMap (rowE W)=(List.range k).flatMap (rowE W)++(List.range es.length).filterMap (kJf k es):=by
    rw[lKk,List.flatMap_append]
    congr 1
    simp[rowE,hW]
   refine⟨_,_,rfl,by rw[e1];exact i1,by rw[e1];omega,i3⟩
 ·intro τ G1 h_;apply xe2 h_;clear h_;intro v2 v3 h_;apply ae3 h_;clear h_;intro h1 h2 h3
  rw[jQh] at h1 h2
  wp_walk using 1,tSeq
  exact kk p G1 hp h1 (by show ((List.range W.length).flatMap (rowE W)).length<=_;omega) h3
noncomputable def jJl (F:List Nat):List T:=F.map fun e=>T.int (e:Nat)
theorem inT_ints {F:List Nat} {r:Nat}:inT (.int r) (jJl F)=F.contains r:=by
 unfold inT jJl
 rw[List.any_map,List.contains_eq_any_beq]
 congr 1
 funext e
 simp only[Function.comp,eqT]
 by_cases h:e=r
 ·subst h;simp
 ·have h2:¬ (e:Int)=r:=by omega
  have h3:¬ r=e:=fun z=>h z.symm
  rw[beq_eq_false_iff_ne.mpr h3,beq_eq_false_iff_ne.mpr h2]
theorem inR_ints {G:Gp} {p:Addr} {F:List Nat} {r:Nat} (h:G p=some (.lst (jJl F))):inR G (.int r) (.ref p)=some (F.contains r):=by
 unfold inR
 rw[jJm h]
 show (if _ then _ else _)=_
 rw[if_pos ⟨rfl,jXq⟩,inT_ints]
theorem jU1:∀ {n:Nat} {F:List Nat} (hn:F.Nodup) (hl:∀x,x∈F->x<n),F.length<=n
 | 0,F,hn,hl=>by
  cases F with
  | nil=>exact lJd _
  | cons a as=>exact absurd (hl a (lJq)) (lJ0 _)
 | n+1,F,hn,hl=>by
  have h1:=jU1 (n:=n) (hn.erase n) (fun x hx=>by
   rw[hn.mem_erase_iff] at hx
   have:=hl x hx.2;omega)
  by_cases h:n∈F
  ·rw[List.length_erase_of_mem h] at h1;omega
  ·rw[List.erase_of_not_mem h] at h1;omega
theorem jV0 {F:List Nat} {n:Nat} (hn:F.Nodup) (hl:∀x,x∈F->x<n) (he:F.length=n):∀r,r<n->r∈F:=by
 intro r hr
 apply lK4
 intro hm
 have:(r::F).length<=n:=jU1 (lJ8.mpr ⟨hm,hn⟩) (fun x hx=>by rw[lJi] at hx;rcases hx with rfl | hx;exact hr;exact hl x hx)
 simp at this;omega
def Closed (W:Web) (S:Nat->Prop):Prop:=∀r i s j,S r->en W r i=some (s,j)->S s
structure Found (W:Web) (r0:Nat) (F:List Nat):Prop where
 nd:F.Nodup
 lt:∀x,x∈F->x<W.length
 got:∀S,S r0->Closed W S->∀x,x∈F->S x
noncomputable def vis (F:List Nat) (es:List (Nat×Nat)):List Nat:=es.foldl (fun F e=>if F.contains e.1=true then F else F++[e.1]) F
noncomputable def row (W:Web) (r:Nat):List (Nat×Nat):=(W[r]?).getD []
theorem jQl {W:Web} {r:Nat} {es:List (Nat×Nat)} (h:W[r]? =some es):row W r=es:=by unfold row;rw[h];rfl
theorem kJg {F:List Nat} {es:List (Nat×Nat)} {j:Nat} {e:Nat×Nat} (h:es[j]? =some e):vis F (es.take (j+1))=if (vis F (es.take j)).contains e.1=true then vis F (es.take j) else vis F (es.take j)++[e.1]:=by
 unfold vis
 rw[lKz,h,List.foldl_append];rfl
noncomputable def bfsN (W:Web):Nat->Nat->List Nat->List Nat
 | 0,_,F=>F
 | n+1,k,F=>match F[k]? with
  | some r=>bfsN W n (k+1) (vis F (row W r))
  | none=>F
noncomputable def bfs (W:Web) (r:Nat):List Nat:=bfsN W W.length 0 [r]
theorem jXu {W:Web} {n k:Nat} {F:List Nat} (h:F.length<=k):bfsN W n k F=F:=by
 cases n with
 | zero=>rfl
 | succ n=>rw[bfsN,lJk h]
theorem jXt {W:Web} {n k r:Nat} {F:List Nat} (h:F[k]? =some r):bfsN W (n+1) k F=bfsN W n (k+1) (vis F (row W r)):=by rw[bfsN,h]
noncomputable def jKa:Sp3:=fun xs G Q=>∃(W:Web) (r0:Nat),xs=[encW W,.int r0]/\Fine W/\r0<W.length/\∀p G' F,G p=none->G' p=some (.lst (jJl F))->Found W r0 F->F=bfs W r0->Sub G G'->Q (.ref p) G'
noncomputable def kKt:List Str:=["_law_web_here","_law_room","_law_found","_law_at","_law_other","_law_door"]
noncomputable def jVl:TS3:=
 (tSeq (tAsg (tLst (jJc (tVar 1) tNil)) (jJj 2))
 (tSeq (tAsg (tC (.int 0)) (jJj 3))
 (tSeq (kQe (jKw (tOp rLt (tVar 3) (tCB rLen (jJc (tVar 2) tNil)))) (tSeq (tFor (iSeq (tOp rIxF (tVar 0) (tOp rIxF (tVar 2) (tVar 3)))) (gTup 2 (jKg (jJj 4) (jKg (jJj 5) gNil))) (tIfS (jKw (tOp jUf (tVar 4) (tVar 2))) (jV7 (tBM "list" jQm (tVar 2) (jJc (tVar 4) tNil))) jQn))
 (tAsg (tOp jK6 (tVar 3) (tC (.int 1))) (jJj 3))))
 (tRet (tVar 2)))))
theorem kK0:∀xs G Q,jKa xs G Q->jVl {nx:=fun _ G'=>Q .non G',rt:=Q} (jJk kKt xs) G:=by
 intro xs G Q h_;apply xe2 h_;clear h_;intro W r0 h_;apply ae3 h_;clear h_;intro fine hr0 kk
 rw[show jJk kKt [encW W,.int r0]=[some (.tup (W.map encR)),some (.int r0),none,none,none,none] from rfl]
 have hs:=sz
 have hl:=fine.len
 wp_walk using 1,jVl,kQe,jJ5
 refine⟨by omega,fun p hp=> ?_⟩
 refine⟨fun m τ G'=>∃(at':Nat) (v4 v5:Option T) (F:List Nat),τ=[some (.tup (W.map encR)),some (.int r0),some (.ref p),some (.int at'),v4,v5]/\G' p=some (.lst (jJl F))/\Found W r0 F/\Sub G G'/\bfs W r0=bfsN W (W.length-at') at' F/\m=W.length-at',⟨_,0,none,none,[r0],rfl,jJi,⟨by simp,by simpa using hr0,fun S h0 _ x hx=>by rw[lJv] at hx;rw[hx];exact h0⟩,.new hp,rfl,rfl⟩,?_⟩
 intro m τ G1 h_;apply xe4 h_;clear h_;intro at' v4 v5 F h_;apply ae5 h_;clear h_;intro h1 h2 h3 hB e4_
 subst e4_
 wp_walk using 1,iSeq,jJm h1,jKk h1
 have hFl:=jU1 h2.nd h2.lt
 split
 ·rename_i hc
  have hat:at'<F.length:=by rw[jJl,lJc] at hc;omega
  have hF:F[at']? =some F[at']:=lJa hat
  have hfm:F[at']∈F:=lQv hat
  generalize F[at']=r at hF hfm
  have hrW:=h2.lt r hfm
  have hW:W[r]? =some W[r]:=lJa hrW
  generalize W[r]=es at hW
  have hatI:L2.atI (jJl F) (at':Int)=some (.int r):=by rw[atN];simp[jJl,hF]
  wp_walk using 1,hatI,jXs hW,encR
  refine⟨fun τ G'=>∃(v4 v5:Option T) (F:List Nat),τ=[some (.tup (W.map encR)),some (.int r0),some (.ref p),some (.int ((at'+1:Nat):Int)),v4,v5]/\G' p=some (.lst (jJl F))/\Found W r0 F/\Sub G G'/\bfs W r0=bfsN W (W.length-(at'+1)) (at'+1) F,?_,?_⟩
  ·intro τ' G' h_;apply xe3 h_;clear h_;intro v4 v5 F' h_;apply ae4 h_;clear h_;intro i1 i2 i3 iB
   exact⟨W.length-(at'+1),by omega,at'+1,v4,v5,rfl,F',i1,i2,i3,iB,rfl⟩
  ·refine⟨fun j τ G'=>∃(v4 v5:Option T) (F':List Nat),τ=[some (.tup (W.map encR)),some (.int r0),some (.ref p),some (.int at'),v4,v5]/\G' p=some (.lst (jJl F'))/\r∈F'/\Found W r0 F'/\Sub G G'/\F'=vis F (es.take j),?_,?_,?_,?_⟩
   ·exact⟨v4,v5,F,rfl,h1,hfm,h2,h3,rfl⟩
   ·intros;trivial
   ·intro j x τ G2 hx0 h_;apply xe3 h_;clear h_;intro v4 v5 F0 h_;apply ae5 h_;clear h_;intro i1 i2 i3 i4 iB
    obtain⟨⟨s,t⟩,hx,rfl⟩:=jKm hx0
    have hen:=jQq hW hx
    wp_walk using 1,encE,jUf,inR_ints i1,jK0 i1,i1
    by_cases hm:s∈F0
    ·rw[if_neg (by simp[hm])]
     exact⟨F0,rfl,i2,i3,i4,by rw[kJg hx,<-iB,if_pos (by simpa using hm)]⟩
    ·rw[if_pos (by simp[hm])]
     have hFl:=jU1 i3.nd i3.lt
     refine⟨by rw[jJl,lJc];omega,F0++[s],by simp[jJl],lKp _ i2,⟨?_,?_,?_⟩,i4.over hp,by rw[kJg hx,<-iB,if_neg (by simpa using hm)]⟩
     ·rw[lQd];exact⟨i3.nd,by simp,fun a ha b hb=>by rw[lJv] at hb;subst hb;rintro rfl;exact hm ha⟩
     ·intro x hx
      rw[lJ4,lJv] at hx
      rcases hx with hx | rfl
      ·exact i3.lt x hx
      ·exact fine.rng _ _ _ _ hen
     ·intro S h0 hc x hx
      rw[lJ4,lJv] at hx
      rcases hx with hx | rfl
      ·exact i3.got S h0 hc x hx
      ·exact hc _ _ _ _ (i3.got S h0 hc r i2) hen
   ·intro τ G' h_;apply xe3 h_;clear h_;intro v4 v5 F0 h_;apply ae5 h_;clear h_;intro i1 i2 i3 i4 iB
    wp_walk using 1,tSeq
    refine⟨by simp,F0,i1,i3,i4,?_⟩
    rw[lJc,lKt] at iB
    rw[hB,show W.length-at'=W.length-(at'+1)+1 by omega,jXt hF,jQl hW,<-iB]
 ·rename_i hc
  exact kk p G1 F hp h1 h2 (by rw[hB,jXu (by rw[jJl,lJc] at hc;omega)]) h3
structure Turn (m:Nat) (σ:List Nat):Prop where
 len:σ.length=m
 nd:σ.Nodup
 lt:∀x,x∈σ->x<m
def Invol (σ:List Nat):Prop:=∀(k x:Nat),σ[k]? =some x->σ[x]? =some k
theorem Turn.at {m:Nat} {σ:List Nat} (h:Turn m σ) {k:Nat} (hk:k<m):∃x,σ[k]? =some x/\x<m:=by
 have hk':k<σ.length:=by rw[h.len];exact hk
 exact⟨σ[k],lJa hk',h.lt _ (lQv hk')⟩
theorem Turn.onto {m:Nat} {σ:List Nat} (h:Turn m σ) {x:Nat} (hx:x<m):∃k,k<m/\σ[k]? =some x:=by
 obtain⟨k,hk⟩:=lJm (jV0 h.nd h.lt h.len x hx)
 exact⟨k,by rw[<-h.len];exact (lJb.mp hk).1,hk⟩
theorem Turn.inj {m:Nat} {σ:List Nat} (h:Turn m σ) {k k' x:Nat} (h1:σ[k]? =some x) (h2:σ[k']? =some x):k=k':=
 (lKm (lJb.mp h1).1 h.nd).mp (h1.trans h2.symm)
theorem Invol.turn {m:Nat} {σ:List Nat} (hl:σ.length=m) (h:Invol σ):Turn m σ where
 len:=hl
 nd:=by
  unfold List.Nodup
  refine List.pairwise_iff_getElem.mpr ?_
  intro i j hi hj hij e
  have h1:=h j _ (lJa hj)
  have h2:=h i _ (lJa hi)
  rw[e,h1] at h2;cases h2;omega
 lt:=fun x hx=>by
  obtain⟨k,hk⟩:=lJm hx
  rw[<-hl];exact (lJb.mp (h k x hk)).1
theorem Invol.swap {σ:List Nat} {a b:Nat} (h:Invol σ) (ha:σ[a]? =some a) (hb:σ[b]? =some b) (hab:a≠b):Invol ((σ.set a b).set b a):=by
 have hal:=(lJb.mp ha).1
 have hbl:=(lJb.mp hb).1
 have gt:∀k,((σ.set a b).set b a)[k]? =if k=b then some a else if k=a then some b else σ[k]? :=by
  intro k
  by_cases h1:k=b
  ·subst h1;rw[if_pos rfl,lJ6 (by simpa using hbl)]
  ·rw[if_neg h1,lJ3 (fun z=>h1 z.symm)]
   by_cases h2:k=a
   ·subst h2;rw[if_pos rfl,lJ6 hal]
   ·rw[if_neg h2,lJ3 (fun z=>h2 z.symm)]
 intro k x hk
 rw[gt] at hk ⊢
 by_cases h1:k=b
 ·subst h1;rw[if_pos rfl] at hk;cases hk
  rw[if_neg hab,if_pos rfl]
 ·rw[if_neg h1] at hk
  by_cases h2:k=a
  ·subst h2;rw[if_pos rfl] at hk;cases hk
   rw[if_pos rfl]
  ·rw[if_neg h2] at hk
   have hx:=h k x hk
   have h3:x≠b:=by rintro rfl;rw[hb] at hx;cases hx;exact h1 rfl
   have h4:x≠a:=by rintro rfl;rw[ha] at hx;cases hx;exact h2 rfl
   rw[if_neg h3,if_neg h4];exact hx
noncomputable def jK9:Sp3:=fun xs G Q=>∃(b:Addr) (m n:Nat) (own:Bool),xs=[.ref b,.int m,.bl own]/\BoxAt G b n/\n+m<2^40/\1<=m/\m<=1000/\∀ σ G',Turn m σ->(own=true->Invol σ)->BoxAt G' b (n+m)->Keep b G G'->Q (.tup (jJl σ)) G'
noncomputable def N_l_turn:List Str:=["_law_box_here","_law_many","_law_own","_law_order","_law_k","_law_turn_here","_law_first","_law_second"]
noncomputable def jYw:TS3:=
 (tSeq (tAsg (tLst tNil) (jJj 3))
 (tSeq (tFor (jKt (jJc (tVar 1) tNil)) (jJj 4) (jV7 (tBM "list" kJ4 (tVar 3) (jJc (jJy jJs (jJc (tVar 0) (jJc (tOp jK6 (tVar 4) (tC (.int 1))) tNil))) (jJc (tVar 4) tNil)))))
 (tSeq (tIfS (tNot (tTru rTru (tVar 2))) (tRet (tCB jJ9 (jJc (tVar 3) tNil))) jQn)
 (tSeq (tAsg (jU3 (jJc (tVar 1) tNil)) (jJj 5))
 (tSeq (tFor (iRng3 (jJc (tC (.int 0)) (jJc (tOp rSub (tVar 1) (tC (.int 1))) (jJc (tC (.int 2)) tNil)))) (jJj 4) (tSeq (tPar 6 7 (jJc (tOp rIxF (tVar 3) (tVar 4)) (jJc (tOp rIxF (tVar 3) (tOp jK6 (tVar 4) (tC (.int 1)))) tNil)))
 (tSeq (tAsg (tVar 7) (gSub (tVar 5) (tVar 6) jVz))
 (tAsg (tVar 6) (gSub (tVar 5) (tVar 7) jVz)))))
 (tRet (tCB jJ9 (jJc (tVar 5) tNil))))))))
theorem rdok_l_turn:∀xs G Q,jK9 xs G Q->jYw {nx:=fun _ G'=>Q .non G',rt:=Q} (jJk N_l_turn xs) G:=by
 intro xs G Q h_;apply xe4 h_;clear h_;intro b m n own h_;apply ae5 h_;clear h_;intro hb hn hm1 hm2 kk
 rw[show jJk N_l_turn [.ref b,.int m,.bl own]=[some (.ref b),some (.int m),some (.bl own),none,none,none,none,none] from rfl]
 have hs:=sz
 obtain⟨bo,hbo⟩:=hb.some
 wp_walk using 1,jYw,jJ5,jKt,iRng3,jU3
 refine⟨lJt _,fun o ho=>⟨by omega,by omega,?_⟩⟩
 have hob:=jJh hbo ho
 rw[show ((m:Int)).toNat=m by omega]
 refine⟨fun k τ G'=>∃(v4:Option T) (σ:List Nat),τ=[some (.ref b),some (.int m),some (.bl own),some (.ref o),v4,none,none,none]/\G' o=some (.lst (jJl σ))/\Turn k σ/\BoxAt G' b (n+k)/\Keep b G G',?_,?_,?_,?_⟩
 ·exact⟨none,[],rfl,jJi,⟨rfl,lQj,fun x hx=>by cases hx⟩,hb.gup hob,.new ho⟩
 ·intros;trivial
 ·intro k x τ G1 hx h_;apply xe2 h_;clear h_;intro v4 σ h_;apply ae4 h_;clear h_;intro h1 h2 h3 h4
  obtain⟨hk,rfl⟩:=jYt hx
  wp_walk using 1,jK0 h1
  refine⟨b,_,n+k,rfl,h3,by omega,by omega,by omega,fun c G2 c0 c1 bx kp=> ?_⟩
  have h1':=kp _ _ hob.symm h1
  refine⟨jJl σ,c,rfl,h1',c0,by rw[jJl,lJc,h2.len];omega,by rw[jJl,lJc,h2.len];omega,σ.take c.toNat++k::σ.drop c.toNat,?_,⟨?_,?_,?_⟩,bx.gup hob,(h4.trans kp).over ho⟩
  ·simp[insT,jJl,List.map_take,List.map_drop]
  ·rw[ins_perm.length_eq,lJ2,h2.len];rfl
  ·rw[ins_perm.nodup_iff,lQd]
   exact⟨h2.nd,by simp,fun a ha e he=>by rw[lJv] at he;subst he;have:=h2.lt a ha;omega⟩
  ·intro x hx
   rw[ins_perm.mem_iff,lJ4,lJv] at hx
   rcases hx with hx | rfl
   ·have:=h2.lt x hx;omega
   ·omega
 ·intro τ G1 h_;apply xe2 h_;clear h_;intro v4 σ h_;apply ae4 h_;clear h_;intro h1 h2 h3 h4
  rw[jQh] at h2 h3
  wp_walk using 1,jJm h1
  cases own with
  | false=>exact kk σ G1 h2 (fun z=>by cases z) h3 h4
  | true=>
   wp_walk using 1,jJ5,iRng3,jU3
   refine⟨by omega,by omega,fun t ht=> ?_⟩
   have hto:=jJh h1 ht
   have htb:b≠t:=by obtain⟨u,hu⟩:=h3.some;exact jJh hu ht
   have ht0:=h4.none htb.symm ht
   have hsm:Builtin.Range.small 0 ((m:Int)-1) 2=true:=by
    unfold Builtin.Range.small Builtin.Range.rangeSize
    simp only[Builtin.Range.rangeFitsLong,lKe,Bool.or_eq_true,decide_eq_true_eq,beq_iff_eq,show (2:Int)>0 by decide,if_true]
    split<;>omega
   refine⟨by decide,by decide,hsm,?_⟩
   have hN:(Builtin.Range.rangeSize 0 ((m:Int)-1) 2).toNat=m / 2:=by
    unfold Builtin.Range.rangeSize;rw[if_pos (by decide)]
    split<;>omega
   rw[hN,show ((m:Int)).toNat=m by omega,jV8]
   refine⟨fun k τ G'=>∃(v4 v6 v7:Option T) (ρ:List Nat),τ=[some (.ref b),some (.int m),some (.bl true),some (.ref o),v4,some (.ref t),v6,v7]/\G' t=some (.lst (jJl ρ))/\G' o=some (.lst (jJl σ))/\Invol ρ/\ρ.length=m/\(∀i x,2*k<=i->σ[i]? =some x->ρ[x]? =some x)/\BoxAt G' b (n+m)/\Keep b G G',?_,?_,?_,?_⟩
   ·refine⟨_,_,_,List.range m,rfl,jJi,by rw[jJu hto];exact h1,?_,by simp,?_,h3.gup htb,h4.over ht0⟩
    ·intro k x hk
     obtain⟨q1,q2⟩:=lJb.mp hk
     simp at q1 q2;subst q2;exact hk
    ·intro i x _ hx
     have:=h2.lt x (lJf hx)
     simp[this]
   ·intros;trivial
   ·intro k x τ G2 hx h_;apply xe4 h_;clear h_;intro v4 v6 v7 ρ h_;apply ae7 h_;clear h_;intro i1 i2 i3 i4 i5 i6 i7
    obtain⟨hk,rfl⟩:k<m / 2/\x= .int ((2*k:Nat):Int):=by
     obtain⟨q1,q2⟩:=lJb.mp hx
     simp[rngS] at q1 q2;refine⟨q1,?_⟩;rw[<-q2];congr 1;omega
    obtain⟨a,ha,_⟩:=h2.at (show 2*k<m by omega)
    obtain⟨c,hc,_⟩:=h2.at (show 2*k+1<m by omega)
    have hca:L2.atI (jJl σ) ((2*k:Nat):Int)=some (.int (a:Nat)):=by rw[atN];simp[jJl,ha]
    have hcc:L2.atI (jJl σ) (((2*k:Nat):Int)+1)=some (.int (c:Nat)):=by rw[show ((2*k:Nat):Int)+1=((2*k+1:Nat):Int) by omega,atN];simp[jJl,hc]
    have hac:a≠c:=by rintro rfl;have:=h2.inj ha hc;omega
    have fa:=i5 (2*k) a (lJd _) ha
    have fc:=i5 (2*k+1) c (by omega) hc
    have hal:a<ρ.length:=(lJb.mp fa).1
    have hcl:c<ρ.length:=(lJb.mp fc).1
    have ixa:L2.ixN (jJl ρ).length (a:Int)=some a:=kKe (by rw[jJl,lJc];exact hal)
    have ixc:L2.ixN ((jJl ρ).set a (.int (c:Nat))).length (c:Int)=some c:=kKe (by rw[lKq,jJl,lJc];exact hcl)
    wp_walk using 1,jKk i2,hca,hcc,kJj i1 ixa,ixc
    have e1:((jJl ρ).set a (.int (c:Nat))).set c (.int (a:Nat))=jJl ((ρ.set a c).set c a):=by simp[jJl,List.map_set]
    rw[e1]
    refine⟨(ρ.set a c).set c a,rfl,by rw[jJu hto];exact i2,i3.swap fa fc hac,by simp[i4],?_,i6.gup htb,i7.over ht0⟩
    intro i x hi hx
    have hxa:a≠x:=by rintro rfl;have:=h2.inj ha hx;omega
    have hxc:c≠x:=by rintro rfl;have:=h2.inj hc hx;omega
    rw[lJ3 hxc,lJ3 hxa]
    exact i5 i x (by omega) hx
   ·intro τ G2 h_;apply xe4 h_;clear h_;intro v4 v6 v7 ρ h_;apply ae7 h_;clear h_;intro i1 i2 i3 i4 i5 i6 i7
    wp_walk using 1,jJm i1
    exact kk ρ G2 (i3.turn i4) (fun _=>i3) i6 i7
structure TurnsOk (W:Web) (m:Nat) (Ts:List (List Nat)):Prop where
 len:Ts.length=(jQv W).length
 ok:∀(t:Nat) (x:Tie) (σ:List Nat),(jQv W)[t]? =some x->Ts[t]? =some σ->Turn m σ/\(x.1=x.2->Invol σ)
def Bel (W:Web) (Ts:List (List Nat)) (x i y j:Nat):Prop:=∃(t:Nat) (e f:Nat×Nat) (σ:List Nat) (k k':Nat),(jQv W)[t]? =some (e,f)/\Ts[t]? =some σ/\σ[k]? =some k'/\
 ((x=e.1+k*W.length/\i=e.2/\y=f.1+k'*W.length/\j=f.2)\/(y=e.1+k*W.length/\j=e.2/\x=f.1+k'*W.length/\i=f.2))
theorem Bel.symm {W:Web} {Ts:List (List Nat)} {x i y j:Nat} (h:Bel W Ts x i y j):Bel W Ts y j x i:=by
 obtain⟨t,e,f,σ,k,k',h1,h2,h3,h4⟩:=h
 exact⟨t,e,f,σ,k,k',h1,h2,h3,h4.symm⟩
theorem spl {n r k r' k':Nat} (h1:r<n) (h2:r'<n) (h:r+k*n=r'+k'*n):r=r'/\k=k':=by
 have e1:(r+k*n)%n=r:=by rw[Nat.add_mul_mod_self_right,lK3 h1]
 have e2:(r'+k'*n)%n=r':=by rw[Nat.add_mul_mod_self_right,lK3 h2]
 have hn:0<n:=by omega
 have e3:(r+k*n) / n=k:=by rw[Nat.add_mul_div_right _ _ hn,Nat.div_eq_of_lt h1,Nat.zero_add]
 have e4:(r'+k'*n) / n=k':=by rw[Nat.add_mul_div_right _ _ hn,Nat.div_eq_of_lt h2,Nat.zero_add]
 rw[h] at e1 e3
 exact⟨e1.symm.trans e2,e3.symm.trans e4⟩
theorem kQ5 {W:Web} {t:Nat} {x:Tie} (h:(jQv W)[t]? =some x):en W x.1.1 x.1.2=some x.2/\leE x.1 x.2=true:=endsL_mem.mp (lJf h)
theorem kQ4 {W:Web} {t t':Nat} {x:Tie} (h:(jQv W)[t]? =some x) (h':(jQv W)[t']? =some x):t=t':=(lKm (lJb.mp h).1 endsL_nodup).mp (h.trans h'.symm)
theorem Bel.fn {W:Web} {m:Nat} {Ts:List (List Nat)} {x i y j y' j':Nat} (hs:Sym W) (ok:TurnsOk W m Ts) (h:Bel W Ts x i y j) (h':Bel W Ts x i y' j'):y=y'/\j=j':=by
 obtain⟨t,e,f,σ,k,l,h1,h2,h3,h4⟩:=h
 obtain⟨t',e',f',σ',k',l',h1',h2',h3',h4'⟩:=h'
 obtain⟨q1,q2⟩:=kQ5 h1
 obtain⟨q1',q2'⟩:=kQ5 h1'
 have q1:en W e.1 e.2=some (f.1,f.2):=q1
 have q1':en W e'.1 e'.2=some (f'.1,f'.2):=q1'
 have qs:=hs _ _ _ _ q1
 have qs':=hs _ _ _ _ q1'
 have l1:=jZg q1
 have l2:=jZg qs
 have l1':=jZg q1'
 have l2':=jZg qs'
 obtain⟨e1,e2⟩:=e;obtain⟨f1,f2⟩:=f;obtain⟨e1',e2'⟩:=e';obtain⟨f1',f2'⟩:=f'
 obtain⟨T1,T2⟩:=ok.ok _ _ _ h1 h2
 simp only at *
 rcases h4 with ⟨rfl,rfl,rfl,rfl⟩ | ⟨rfl,rfl,rfl,rfl⟩<;>rcases h4' with ⟨z1,rfl,rfl,rfl⟩ | ⟨rfl,rfl,z1,rfl⟩
 ·obtain⟨rfl,rfl⟩:=spl l1 l1' z1
  rw[q1] at q1';cases q1'
  have:=kQ4 h1 h1';subst this
  rw[h2] at h2';cases h2'
  rw[h3] at h3';cases h3'
  exact⟨rfl,rfl⟩
 ·obtain⟨rfl,rfl⟩:=spl l1 l2' z1
  rw[q1] at qs';cases qs'
  have a1:=leE_iff.mp q2
  have a2:=leE_iff.mp q2'
  simp only at a1 a2
  have:e1=f1/\i=j:=by omega
  obtain⟨rfl,rfl⟩:=this
  have:=kQ4 h1 h1';subst this
  rw[h2] at h2';cases h2'
  have:=T2 rfl _ _ h3'
  rw[h3] at this;cases this
  exact⟨rfl,rfl⟩
 ·obtain⟨rfl,rfl⟩:=spl l2 l1' z1
  rw[qs] at q1';cases q1'
  have a1:=leE_iff.mp q2
  have a2:=leE_iff.mp q2'
  simp only at a1 a2
  have:e1=f1/\j=i:=by omega
  obtain⟨rfl,rfl⟩:=this
  have:=kQ4 h1 h1';subst this
  rw[h2] at h2';cases h2'
  have:=T2 rfl _ _ h3
  rw[h3'] at this;cases this
  exact⟨rfl,rfl⟩
 ·obtain⟨rfl,rfl⟩:=spl l2 l2' z1
  rw[qs] at qs';cases qs'
  have:=kQ4 h1 h1';subst this
  rw[h2] at h2';cases h2'
  have:=T1.inj h3 h3';subst this
  exact⟨rfl,rfl⟩
noncomputable def cl (M:List (List T)) (x i:Nat):Option T:=(M[x]?).bind fun ts=>ts[i]?
noncomputable def put (M:List (List T)) (x i:Nat) (v:T):List (List T):=match M[x]? with
 | some ts=>M.set x (ts.set i v)
 | none=>M
theorem kU4 {M:List (List T)} {x i:Nat} {v:T} (h:cl M x i=some v):∃ts,M[x]? =some ts/\ts[i]? =some v:=by
 unfold cl at h
 cases e1:M[x]? with
 | none=>rw[e1] at h;cases h
 | some ts=>rw[e1] at h;exact⟨ts,rfl,h⟩
theorem cl_of {M:List (List T)} {x i:Nat} {ts:List T} (h1:M[x]? =some ts):cl M x i=ts[i]? :=by unfold cl;rw[h1];rfl
theorem cl_put {M:List (List T)} {x i:Nat} {v u:T} (h:cl M x i=some u) (x' i':Nat):cl (put M x i v) x' i'=if x'=x/\i'=i then some v else cl M x' i':=by
 obtain⟨ts,h1,h2⟩:=kU4 h
 have hx:=(lJb.mp h1).1
 have hi:=(lJb.mp h2).1
 unfold put
 rw[h1]
 show cl (M.set x (ts.set i v)) x' i'=_
 by_cases hxx:x'=x
 ·subst hxx
  rw[cl_of (lJ6 hx),cl_of h1]
  by_cases hii:i'=i
  ·subst hii;rw[lJ6 hi,if_pos ⟨rfl,rfl⟩]
  ·rw[lJ3 (fun z=>hii z.symm),if_neg (fun z=>hii z.2)]
 ·rw[if_neg (fun z=>hxx z.1)]
  unfold cl
  rw[lJ3 (fun z=>hxx z.symm)]
structure SInv (W:Web) (m:Nat) (Ts:List (List Nat)) (M:List (List T)):Prop where
 len:M.length=m*W.length
 row:∀(x:Nat) (ts:List T),M[x]? =some ts->∃es,W[x%W.length]? =some es/\ts.length=es.length
 val:∀x i v,cl M x i=some v->v= .non\/∃y j,Bel W Ts x i y j/\v=encE (y,j)
def Fl (M:List (List T)) (x i:Nat):Prop:=∃e,cl M x i=some (encE e)
theorem SInv.at {W:Web} {m:Nat} {Ts:List (List Nat)} {M:List (List T)} {r i k:Nat} {e:Nat×Nat} (h:SInv W m Ts M) (hk:k<m) (he:en W r i=some e):∃ts,M[r+k*W.length]? =some ts/\i<ts.length:=by
 obtain⟨es,h1,h2⟩:=jQ6 he
 have hr:=jZg he
 have hx:r+k*W.length<M.length:=by
  rw[h.len]
  have:(k+1)*W.length<=m*W.length:=Nat.mul_le_mul_right _ hk
  rw[lQc] at this;omega
 have hM:M[r+k*W.length]? =some M[r+k*W.length]:=lJa hx
 obtain⟨es',q1,q2⟩:=h.row _ _ hM
 rw[Nat.add_mul_mod_self_right,lK3 hr,h1] at q1;cases q1
 exact⟨_,hM,by rw[q2];exact (lJb.mp h2).1⟩
theorem SInv.put {W:Web} {m:Nat} {Ts:List (List Nat)} {M:List (List T)} {x i y j:Nat} {ts:List T} (h:SInv W m Ts M) (hx:M[x]? =some ts) (hi:i<ts.length) (hb:Bel W Ts x i y j):
  SInv W m Ts (M.set x (ts.set i (encE (y,j))))/\Fl (M.set x (ts.set i (encE (y,j)))) x i/\∀x' i',Fl M x' i'->Fl (M.set x (ts.set i (encE (y,j)))) x' i':=by
 have hc:cl M x i=some ts[i]:=by rw[cl_of hx];exact lJa hi
 have hp:M.set x (ts.set i (encE (y,j)))=_root_.W.put M x i (encE (y,j)):=by unfold _root_.W.put;rw[hx]
 have hxl:=(lJb.mp hx).1
 refine⟨⟨by rw[lKq];exact h.len,fun x' ts' h'=> ?_,fun x' i' v hv=> ?_⟩,?_,fun x' i' ⟨e,he⟩=> ?_⟩
 ·by_cases hxx:x'=x
  ·subst hxx
   rw[lJ6 hxl] at h';cases h'
   rw[lKq];exact h.row _ _ hx
  ·rw[lJ3 (fun z=>hxx z.symm)] at h';exact h.row _ _ h'
 ·rw[hp,cl_put hc] at hv
  by_cases hxx:x'=x/\i'=i
  ·rw[if_pos hxx] at hv;cases hv
   obtain⟨rfl,rfl⟩:=hxx
   exact .inr ⟨y,j,hb,rfl⟩
  ·rw[if_neg hxx] at hv;exact h.val _ _ _ hv
 ·exact⟨(y,j),by rw[hp,cl_put hc,if_pos ⟨rfl,rfl⟩]⟩
 ·by_cases hxx:x'=x/\i'=i
  ·exact⟨(y,j),by rw[hp,cl_put hc,if_pos hxx]⟩
  ·exact⟨e,by rw[hp,cl_put hc,if_neg hxx];exact he⟩
structure Sheet (W:Web) (m:Nat) (V:Web):Prop where
 len:V.length=m*W.length
 row:∀(x:Nat) (ts:List (Nat×Nat)),V[x]? =some ts->∃es,W[x%W.length]? =some es/\ts.length=es.length
 sym:Sym V
def DoneS (W:Web) (m:Nat) (Ts:List (List Nat)) (M:List (List T)) (d:Nat->Nat->Prop):Prop:=∀t k e f σ k',d t k->(jQv W)[t]? =some (e,f)->Ts[t]? =some σ->σ[k]? =some k'->Fl M (e.1+k*W.length) e.2/\Fl M (f.1+k'*W.length) f.2
noncomputable def dec:T->Nat×Nat
 | .tup [.int a,.int b]=>(a.toNat,b.toNat)
 | _=>(0,0)
theorem kKl {e:Nat×Nat}:dec (encE e)=e:=by obtain⟨a,b⟩:=e;simp[encE,dec]
theorem sheet_of {W:Web} {m:Nat} {Ts:List (List Nat)} {M:List (List T)} (hs:Sym W) (ok:TurnsOk W m Ts) (h:SInv W m Ts M) (hd:DoneS W m Ts M fun t k=>t<(jQv W).length/\k<m):Sheet W m (M.map (List.map dec))/\M=(M.map (List.map dec)).map (List.map encE):=by
 have full:∀x i v,cl M x i=some v->Fl M x i:=by
  intro x i v hv
  obtain⟨ts,h1,h2⟩:=kU4 hv
  obtain⟨es,q1,q2⟩:=h.row _ _ h1
  have hx:x<m*W.length:=by rw[<-h.len];exact (lJb.mp h1).1
  have hi:i<es.length:=by rw[<-q2];exact (lJb.mp h2).1
  have hW:0<W.length:=by rcases Nat.eq_zero_or_pos W.length with z | z;rw[z] at hx;omega;exact z
  have hk:x / W.length<m:=Nat.div_lt_of_lt_mul (by rw[Nat.mul_comm];exact hx)
  have hxe:x%W.length+x / W.length*W.length=x:=by rw[Nat.mul_comm];exact Nat.mod_add_div x W.length
  have he:=jQq q1 (lJa hi)
  generalize es[i]=e at he
  obtain⟨s,j⟩:=e
  by_cases hle:leE (x%W.length,i) (s,j)=true
  ·obtain⟨t,ht⟩:=lJm (endsL_mem (x:=((x%W.length,i),(s,j))).mpr ⟨he,hle⟩)
   have htl:=(lJb.mp ht).1
   have htT:t<Ts.length:=by rw[ok.len];exact htl
   have hσ:Ts[t]? =some Ts[t]:=lJa htT
   obtain⟨k',hk',_⟩:=(ok.ok _ _ _ ht hσ).1.at hk
   have:=(hd t _ _ _ _ _ ⟨htl,hk⟩ ht hσ hk').1
   simp only at this
   rw[hxe] at this;exact this
  ·have hle2:leE (s,j) (x%W.length,i)=true:=by
    rw[leE_iff] at hle ⊢; simp only at hle ⊢; omega
   obtain⟨t,ht⟩:=lJm (endsL_mem (x:=((s,j),(x%W.length,i))).mpr ⟨hs _ _ _ _ he,hle2⟩)
   have htl:=(lJb.mp ht).1
   have htT:t<Ts.length:=by rw[ok.len];exact htl
   have hσ:Ts[t]? =some Ts[t]:=lJa htT
   obtain⟨k0,hk0,hk1⟩:=(ok.ok _ _ _ ht hσ).1.onto hk
   have:=(hd t _ _ _ _ _ ⟨htl,hk0⟩ ht hσ hk1).2
   simp only at this
   rw[hxe] at this;exact this
 have enM:∀x i e,en (M.map (List.map dec)) x i=some e->cl M x i=some (encE e)/\Bel W Ts x i e.1 e.2:=by
  intro x i e he
  obtain⟨es,h1,h2⟩:=jQ6 he
  rw[lJe] at h1
  cases e1:M[x]? with
  | none=>rw[e1] at h1;cases h1
  | some ts=>
   rw[e1] at h1;cases h1
   rw[lJe] at h2
   cases e2:ts[i]? with
   | none=>rw[e2] at h2;cases h2
   | some v=>
    rw[e2] at h2;cases h2
    have hc:cl M x i=some v:=by rw[cl_of e1];exact e2
    obtain⟨e',he'⟩:=full x i v hc
    rw[hc] at he';cases he'
    rw[kKl]
    refine⟨hc,?_⟩
    rcases h.val _ _ _ hc with z | ⟨y,j,hb,z⟩
    ·cases z
    ·have:e'=(y,j):=by rw[<-kKl (e:=e'),z,kKl]
     rw[this];exact hb
 have toM:∀x i e,cl M x i=some (encE e)->en (M.map (List.map dec)) x i=some e:=by
  intro x i e he
  obtain⟨ts,h1,h2⟩:=kU4 he
  exact jQq (es:=ts.map dec) (by simp[h1]) (by simp[h2,kKl])
 refine⟨⟨by rw[lJc];exact h.len,fun x ts hx=> ?_,fun x i y j he=> ?_⟩,?_⟩
 ·rw[lJe] at hx
  cases e1:M[x]? with
  | none=>rw[e1] at hx;cases hx
  | some us=>
   rw[e1] at hx;cases hx
   rw[lJc];exact h.row _ _ e1
 ·obtain⟨h1,h2⟩:=enM x i (y,j) he
  have h3:Bel W Ts y j x i:=h2.symm
  have hin:∃v,cl M y j=some v:=by
   obtain⟨t,e,f,σ,k,k',q1,q2,q3,q4⟩:=h3
   obtain⟨z1,z2⟩:=kQ5 q1
   have z1:en W e.1 e.2=some (f.1,f.2):=z1
   have T1:=(ok.ok _ _ _ q1 q2).1
   have hk:k<m:=by rw[<-T1.len];exact (lJb.mp q3).1
   have hk':k'<m:=T1.lt _ (lJf q3)
   rcases q4 with ⟨a1,a2,_,_⟩ | ⟨_,_,a1,a2⟩
   ·obtain⟨ts,b1,b2⟩:=h.at hk z1
    exact⟨ts[e.2],by rw[a1,a2,cl_of b1];exact lJa b2⟩
   ·obtain⟨ts,b1,b2⟩:=h.at hk' (hs _ _ _ _ z1)
    exact⟨ts[f.2],by rw[a1,a2,cl_of b1];exact lJa b2⟩
  obtain⟨v,hv⟩:=hin
  obtain⟨e',he'⟩:=full y j v hv
  have h4:=toM y j e' he'
  obtain⟨_,h5⟩:=enM y j e' h4
  obtain⟨a1,a2⟩:=Bel.fn hs ok h3 h5
  rw[h4,<-show (e'.1,e'.2)=e' from rfl,<-a1,<-a2]
 ·rw[lJj]
  conv=>lhs;rw[<-List.map_id M]
  apply lKl
  intro ts hts
  show ts=(ts.map dec).map encE
  rw[lJj]
  conv=>lhs;rw[<-List.map_id ts]
  apply lKl
  intro v hv
  obtain⟨x,hx⟩:=lJm hts
  obtain⟨i,hi⟩:=lJm hv
  obtain⟨e,he⟩:=full x i v (by rw[cl_of hx];exact hi)
  rw[cl_of hx,hi] at he;cases he
  show encE e=encE (dec (encE e))
  rw[kKl]
def RowsT (G:Gp) (h:Addr) (M:List (List T)) (rs:List Addr):Prop:=G h=some (.lst (rs.map T.ref))/\rs.length=M.length/\∀(i:Nat) (r:Addr),rs[i]? =some r->∃ts:List T,M[i]? =some ts/\G r=some (.lst ts)
theorem RowsT.set {G:Gp} {h:Addr} {M:List (List T)} {rs:List Addr} {r:Nat} {a:Addr} {ts:List T} (x:RowsT G h M rs) (hn:(h::rs).Nodup) (hr:rs[r]? =some a):RowsT (gup G a (.lst ts)) h (M.set r ts) rs:=by
 rw[lJ8] at hn
 have hrl:r<rs.length:=(lJb.mp hr).1
 refine⟨by rw[jJu];exact x.1;rintro rfl;exact hn.1 (lJf hr),by rw[lKq];exact x.2.1,fun i c e=> ?_⟩
 by_cases hi:i=r
 ·subst hi
  rw[hr] at e;cases e
  exact⟨ts,by rw[lJ6];rw[<-x.2.1];exact hrl,jJi⟩
 ·obtain⟨us,h1,h2⟩:=x.2.2 i c e
  refine⟨us,by rw[lJ3 (Ne.symm hi)];exact h1,?_⟩
  rw[jJu];exact h2
  rintro rfl
  have hil:i<rs.length:=(lJb.mp e).1
  exact hi ((lKm hil hn.2).mp (e.trans hr.symm))
theorem RowsT.get {G:Gp} {h:Addr} {M:List (List T)} {rs:List Addr} {x:Nat} {ts:List T} (R:RowsT G h M rs) (hx:M[x]? =some ts):∃a,rs[x]? =some a/\L2.atI (rs.map T.ref) (x:Int)=some (.ref a)/\G a=some (.lst ts):=by
 have hxl:x<rs.length:=by rw[R.2.1];exact (lJb.mp hx).1
 have hr:rs[x]? =some rs[x]:=lJa hxl
 obtain⟨us,h1,h2⟩:=R.2.2 x _ hr
 rw[hx] at h1;cases h1
 exact⟨_,hr,by rw[atN,lJe,hr];rfl,h2⟩
theorem rep_non {n:Nat}:(List.replicate n [T.non]).flatten=List.replicate n T.non:=by
 induction n with
 | zero=>rfl
 | succ n ih=>rw[lKr,lQb,ih];rfl
noncomputable def rowN (W:Web) (x:Nat):List T:=List.replicate ((W[x%W.length]?).getD []).length .non
theorem sinv_start {W:Web} {m:Nat} {Ts:List (List Nat)}:SInv W m Ts ((List.range (m*W.length)).map (rowN W)) where
 len:=by simp
 row:=fun x ts h=>by
  rw[lJe] at h
  cases e:(List.range (m*W.length))[x]? with
  | none=>rw[e] at h;cases h
  | some y=>
   rw[e] at h;cases h
   obtain⟨q1,q2⟩:=lJb.mp e
   simp at q1 q2;subst q2
   have hW:0<W.length:=by rcases Nat.eq_zero_or_pos W.length with z | z;rw[z] at q1;omega;exact z
   have hx:x%W.length<W.length:=lK1 _ hW
   exact⟨W[x%W.length],lJa hx,by simp[rowN,hx]⟩
 val:=fun x i v h=>by
  obtain⟨ts,h1,h2⟩:=kU4 h
  rw[lJe] at h1
  cases e:(List.range (m*W.length))[x]? with
  | none=>rw[e] at h1;cases h1
  | some y=>
   rw[e] at h1;cases h1
   have:=lJf h2
   unfold rowN at this
   exact .inl (List.mem_replicate.mp this).2
noncomputable def jKp:Sp3:=fun xs G Q=>∃(W:Web) (tr:Addr) (m:Nat) (Ts:List (List Nat)),xs=[encW W,.ref tr,.int m]/\Fine W/\Sym W/\1<=W.length/\1<=m/\m*W.length<=1000/\TurnsOk W m Ts/\G tr=some (.lst (Ts.map fun σ=>T.tup (jJl σ)))/\∀V G',Sheet W m V->Sub G G'->Q (encW V) G'
noncomputable def kKr:List Str:=["_law_web_here","_law_turns","_law_many","_law_made","_law_t","_law_one","_law_other","_law_k","_law_spot","_law_there","_law_n","_law_room"]
noncomputable def jVj:TS3:=
 (tSeq (tAsg (jQ5 [false,false,false,false,false,false,false,false,false,false,true,false] (jKt (jJc (tOp jXm (tVar 2) (tCB rLen (jJc (tVar 0) tNil))) tNil)) (jJj 10) jUh (tOp jXm (tLst (jJc (tC .non) tNil)) (tCB rLen (jJc (tOp rIxF (tVar 0) (tOp rMod (tVar 10) (tCB rLen (jJc (tVar 0) tNil)))) tNil)))) (jJj 3))
 (tSeq (tFor (kKg (jJc (jJy jQa (jJc (tVar 0) tNil)) tNil)) (gTup 2 (jKg (jJj 4) (jKg (gTup 2 (jKg (jJj 5) (jKg (jJj 6) gNil))) gNil))) (tFor (jKt (jJc (tVar 2) tNil)) (jJj 7) (tSeq (tAsg (tOp jK6 (tOp rIxF (tVar 5) (tC (.int 0))) (tOp jXm (tVar 7) (tCB rLen (jJc (tVar 0) tNil)))) (jJj 8))
 (tSeq (tAsg (tOp jK6 (tOp rIxF (tVar 6) (tC (.int 0))) (tOp jXm (tOp rIxF (tOp rIxF (tVar 1) (tVar 4)) (tVar 7)) (tCB rLen (jJc (tVar 0) tNil)))) (jJj 9))
 (tSeq (tAsg (tTup (jJc (tVar 9) (jJc (tOp rIxF (tVar 6) (tC (.int 1))) tNil))) (gSub (tOp rIxF (tVar 3) (tVar 8)) (tOp rIxF (tVar 5) (tC (.int 1))) jVz))
 (tAsg (tTup (jJc (tVar 8) (jJc (tOp rIxF (tVar 5) (tC (.int 1))) tNil))) (gSub (tOp rIxF (tVar 3) (tVar 9)) (tOp rIxF (tVar 6) (tC (.int 1))) jVz)))))))
 (tRet (tCB jJ9 (jJc (jQ5 [false,false,false,false,false,false,false,false,false,false,false,true] (iSeq (tVar 3)) (jJj 11) jUh (tCB jJ9 (jJc (tVar 11) tNil))) tNil)))))
theorem kKy:∀xs G Q,jKp xs G Q->jVj {nx:=fun _ G'=>Q .non G',rt:=Q} (jJk kKr xs) G:=by
 intro xs G Q h_;apply xe4 h_;clear h_;intro W tr m Ts h_;apply ae8 h_;clear h_;intro fine sym hW1 hm1 hmn ok htr kk
 rw[show jJk kKr [encW W,.ref tr,.int m]=[some (.tup (W.map encR)),some (.ref tr),some (.int m),none,none,none,none,none,none,none,none,none] from rfl]
 have hs:=sz
 have hl:=fine.len
 have hm2:m<=1000:=lKb (Nat.le_mul_of_pos_right m hW1) hmn
 wp_walk using 1,jVj,jJ5,jKt,kKg,iSeq,lJc
 have hcast:(m:Int)*(W.length:Int)=((m*W.length:Nat):Int):=by simp
 rw[hcast]
 refine⟨.inr ⟨by omega,by omega⟩,by omega,by omega,?_⟩
 rw[show ((m*W.length:Nat):Int).toNat=m*W.length by omega,jV8]
 refine kQs (rowN W) (by simp;omega) (fun _ _=>trivial) ?_ ?_
 ·intro x x' hx G' K K0 s hk
  obtain⟨q1,q2⟩:=lJb.mp hx
  simp at q1 q2;subst q2
  have hmod:x%W.length<W.length:=lK1 _ hW1
  have hWx:W[x%W.length]? =some W[x%W.length]:=lJa hmod
  have hrow:rowN W x=List.replicate (W[x%W.length]).length .non:=by simp[rowN,hWx]
  rw[hrow] at hk
  generalize W[x%W.length]=es at hWx hk
  have hes:=fine.row _ _ hWx
  wp_walk using 1,lJc,show (x:Int)%(W.length:Int)=((x%W.length:Nat):Int) by simp,jXs hWx,encR
  refine⟨by omega,fun p hp=>⟨by omega,.newL (List.replicate es.length .non),?_,?_⟩⟩
  ·rw[<-rep_non]
   simp only[mulR,jJi];rw[if_pos];congr;refine⟨?_,?_,?_⟩<;>simp<;>omega
  ·rw[fin_new]
   intro q hq
   have hq0:=(jUg hq).2
   exact hk q _ hq0 jJi ((Sub.new hp).over hq0)
 ·intro D rs G1 hD hD1 s1 hrl hnd hrs
  rw[lJ1] at hrl
  have hfr:∀r,r∈rs->G r=none:=by
   intro r z
   obtain⟨j,hj⟩:=lJm z
   have hjl:j<rs.length:=(lJb.mp hj).1
   exact (hrs j r j hj (by rw[lJw (by omega)])).1
  refine⟨W,rfl,fine,fun pe G2 hpe hG2 hlen s2=> ?_⟩
  have hpn:∀r,r∈rs->pe≠r:=by
   rintro r z rfl
   obtain⟨j,hj⟩:=lJm z
   have hjl:j<rs.length:=(lJb.mp hj).1
   have:=(hrs j pe j hj (by rw[lJw (by omega)])).2
   rw[this] at hpe;cases hpe
  refine⟨(jQv W).map encT,by simp only[jXf,hG2,asL],?_⟩
  let J1:Nat->St3->Gp->Prop:=fun t τ G'=>∃(v4 v5 v6 v7 v8 v9:Option T) (M:List (List T)),τ=[some (.tup (W.map encR)),some (.ref tr),some (.int m),some (.ref D),v4,v5,v6,v7,v8,v9,none,none]/\RowsT G' D M rs/\SInv W m Ts M/\DoneS W m Ts M (fun t' k=>t'<t/\k<m)/\Sub G G'/\G' pe=some (.lst ((jQv W).map encT))
  refine⟨J1,?_,?_,?_,?_⟩
  ·refine xi7 none none none none none none ((List.range (m*W.length)).map (rowN W)) rfl ⟨⟨s2 _ _ hD1,by simp[hrl],fun i r hi=> ?_⟩,sinv_start,fun t k e f σ k' h=>absurd h.1 (lJ0 _),s1.trans s2,hG2⟩
   have hil:i<m*W.length:=by rw[<-hrl];exact (lJb.mp hi).1
   exact⟨rowN W i,by simp[hil],s2 _ _ (hrs i r i hi (by simp[hil])).2⟩
  ·intro t τ G' ht h_;apply xe7 h_;clear h_;intro v4 v5 v6 v7 v8 v9 M h_;apply ae5 h_;clear h_;intro i1 i2 i3 i4 i5
   simp only[jXf,i5,asL]
  ·intro t x τ G3 hx h_;apply xe7 h_;clear h_;intro v4 v5 v6 v7 v8 v9 M h_;apply ae5 h_;clear h_;intro i1 i2 i3 i4 i5
   have ht:t<(jQv W).length:=by have:=(lJb.mp hx).1;simpa[kJp] using this
   have hte:(jQv W)[t]? =some (jQv W)[t]:=lJa ht
   rw[jYb (x:=encT (jQv W)[t]) (by simp[ht])] at hx
   cases hx
   generalize (jQv W)[t]=x at hte
   obtain⟨e,f⟩:=x
   have htT:t<Ts.length:=by rw[ok.len];exact ht
   have hσ:Ts[t]? =some Ts[t]:=lJa htT
   generalize Ts[t]=σ at hσ
   obtain⟨T1,T2⟩:=ok.ok _ _ _ hte hσ
   have hef:en W e.1 e.2=some (f.1,f.2):=(kQ5 hte).1
   have hfe:=sym _ _ _ _ hef
   wp_walk using 1,jJ5,jKt,encT
   refine⟨by omega,by omega,?_⟩
   rw[show ((m:Int)).toNat=m by omega]
   let J2:Nat->St3->Gp->Prop:=fun k τ G'=>∃(v7 v8 v9:Option T) (M:List (List T)),τ=[some (.tup (W.map encR)),some (.ref tr),some (.int m),some (.ref D),some (.int t),some (encE e),some (encE f),v7,v8,v9,none,none]/\RowsT G' D M rs/\SInv W m Ts M/\DoneS W m Ts M (fun t' k'=>(t'<t/\k'<m)\/(t'=t/\k'<k))/\Sub G G'/\G' pe=some (.lst ((jQv W).map encT))
   refine⟨J2,?_,?_,?_,?_⟩
   ·refine xi4 v7 v8 v9 M rfl ⟨i1,i2,fun t' k e f σ k' h=> ?_,i4,i5⟩
    rcases h with h | h
    ·exact i3 t' k e f σ k' h
    ·exact absurd h.2 (lJ0 _)
   ·intros;trivial
   ·intro k x τ G4 hx h_;apply xe4 h_;clear h_;intro v7 v8 v9 M h_;apply ae5 h_;clear h_;intro i1 i2 i3 i4 i5
    obtain⟨hk,rfl⟩:=jYt hx
    obtain⟨k',hk',hkm⟩:=T1.at hk
    have hb1:Bel W Ts (e.1+k*W.length) e.2 (f.1+k'*W.length) f.2:=⟨t,e,f,σ,k,k',hte,hσ,hk',.inl ⟨rfl,rfl,rfl,rfl⟩⟩
    obtain⟨ts,m1,m2⟩:=i2.at hk hef
    obtain⟨a,a1,a2,a3⟩:=i1.get m1
    have ham:=lJf a1
    obtain⟨p1,p2,p3⟩:=i2.put m1 m2 hb1
    have q1:=i1.set (ts:=ts.set e.2 (encE (f.1+k'*W.length,f.2))) hnd a1
    obtain⟨us,m3,m4⟩:=p1.at hkm hfe
    obtain⟨c,c1,c2,c3⟩:=q1.get m3
    have hcm:=lJf c1
    obtain⟨p4,p5,p6⟩:=p1.put m3 m4 hb1.symm
    have q2:=q1.set (ts:=us.set f.2 (encE (e.1+k*W.length,e.2))) hnd c1
    have g2:L2.atI (Ts.map fun σ=>T.tup (jJl σ)) (t:Int)=some (.tup (jJl σ)):=by rw[atN];simp[hσ]
    have g3:L2.atI (jJl σ) (k:Int)=some (.int (k':Nat)):=by rw[atN];simp[jJl,hk']
    have b1:e.1+k*W.length<m*W.length:=by rw[<-i2.len];exact (lJb.mp m1).1
    have b2:f.1+k'*W.length<m*W.length:=by rw[<-p1.len];exact (lJb.mp m3).1
    have s8:(e.1:Int)+(k:Int)*(W.length:Int)=((e.1+k*W.length:Nat):Int):=by simp
    have s9:(f.1:Int)+(k':Int)*(W.length:Int)=((f.1+k'*W.length:Nat):Int):=by simp
    wp_walk using 1,encE,lJc,jKk (i4 _ _ htr),g2,g3,s8,s9,jKk i1.1,a2,kJj a3 (kKe m2)
    refine⟨.inr ⟨by omega,by omega⟩,.inr ⟨by omega,by omega⟩,by omega,by omega,.ref c,(jKk q1.1).trans c2,_,kJj c3 (kKe m4),xi4 _ _ _ _ rfl ⟨q2,p4,?_,(i4.over (hfr a ham)).over (hfr c hcm),?_⟩⟩
    ·intro t' k0 e' f' σ' k1 h g4 g5 g6
     by_cases hh:t'=t/\k0=k
     ·obtain⟨rfl,rfl⟩:=hh
      rw[hte] at g4;cases g4
      rw[hσ] at g5;cases g5
      rw[hk'] at g6;cases g6
      exact⟨p6 _ _ p2,p5⟩
     ·obtain⟨z1,z2⟩:=i3 t' k0 e' f' σ' k1 (by omega) g4 g5 g6
      exact⟨p6 _ _ (p3 _ _ z1),p6 _ _ (p3 _ _ z2)⟩
    ·rw[jJu (hpn c hcm),jJu (hpn a ham)];exact i5
   ·intro τ G' h_;apply xe4 h_;clear h_;intro v7 v8 v9 M h_;apply ae5 h_;clear h_;intro i1 i2 i3 i4 i5
    rw[jQh] at i3
    refine xi7 _ _ _ _ _ _ M rfl ⟨i1,i2,fun t' k e f σ k' h=>i3 t' k e f σ k' ?_,i4,i5⟩
    by_cases hh:t'=t
    ·exact .inr ⟨hh,h.2⟩
    ·exact .inl ⟨by omega,h.2⟩
  ·intro τ G3 h_;apply xe7 h_;clear h_;intro v4 v5 v6 v7 v8 v9 M h_;apply ae5 h_;clear h_;intro i1 i2 i3 i4 i5
   rw[kJp,lJc] at i3
   obtain⟨sh,eM⟩:=sheet_of sym ok i2 i3
   wp_walk using 1,iSeq,jJm i1.1
   refine jKd (es:=rs) (fun r=>T.tup (match G3 r with | some (.lst ts)=>ts | _=>[])) (by omega) (fun G' s=>jJm (s _ _ i1.1)) ?_ ?_
   ·intro i r hr G4 K K0 s hk
    obtain⟨ts,z1,z2⟩:=i1.2.2 i r hr
    wp_walk using 1,jJm (s _ _ z2)
    have:=hk G4 (.refl _)
    rw[z2] at this
    exact this
   ·intro E G4 hE h4 s4
    refine⟨_,jJm h4,?_⟩
    have e1:rs.map (fun r=>T.tup (match G3 r with | some (.lst ts)=>ts | _=>[]))=(M.map (List.map dec)).map encR:=by
     have e2:(M.map (List.map dec)).map encR=M.map T.tup:=by
      conv=>rhs;rw[eM]
      rw[lJj,lJj,lJj];rfl
     rw[e2]
     apply lJx
     intro i
     by_cases hi:i<rs.length
     ·have hri:rs[i]? =some rs[i]:=lJa hi
      obtain⟨ts,z1,z2⟩:=i1.2.2 i _ hri
      rw[lJe,lJe,hri,z1]
      simp only[lJ9,z2]
     ·rw[lJk (by rw[lJc];omega),lJk (by rw[lJc,<-i1.2.1];omega)]
    rw[e1]
    exact kk _ G4 sh (i4.trans s4)
def Cov (W:Web) (m:Nat) (V:Web):Prop:=V=W\/(Sheet W m V/\Conn V)
theorem Sheet.fine {W V:Web} {m:Nat} (h:Sheet W m V) (f:Fine W) (hm:m*W.length<=1000):Fine V where
 len:=by rw[h.len];exact hm
 row:=fun x ts hx=>by obtain⟨es,h1,h2⟩:=h.row x ts hx;rw[h2];exact f.row _ _ h1
 rng:=fun r i s j he=>jZg (h.sym _ _ _ _ he)
theorem Found.conn {V:Web} {F:List Nat} (h:Found V 0 F) (hl:F.length=V.length):Conn V:=fun S h0 hst r hr=>h.got S h0 hst r (jV0 h.nd h.lt hl r hr)
theorem eqG_enc {G:Gp} {e f:Nat×Nat}:eqG G (encE e) (encE f)=some (decide (e=f)):=by
 obtain⟨a,b⟩:=e;obtain⟨c,d⟩:=f
 rw[show eqG G (encE (a,b)) (encE (c,d))=some (eqT (encE (a,b)) (encE (c,d))) from rfl]
 congr 1
 simp only[encE,eqT,eqTs,Bool.and_true]
 by_cases h1:a=c
 ·by_cases h2:b=d
  ·simp[h1,h2]
  ·have:¬ (b:Int)=d:=by omega
   simp[h1,h2,this]
 ·have:¬ (a:Int)=c:=by omega
  simp[h1,this]
theorem jZy {G:Gp} {a c:Nat}:eqG G (.int a) (.int c)=some (decide (a=c)):=by
 rw[show eqG G (.int a) (.int c)=some (eqT (.int a) (.int c)) from rfl]
 congr 1
 simp only[eqT]
 by_cases h1:a=c
 ·simp[h1]
 ·have:¬ (a:Int)=c:=by omega
  simp[h1,this]
noncomputable def jKq:Sp3:=fun xs G Q=>∃(b:Addr) (W:Web) (m n:Nat),xs=[.ref b,encW W,.int m]/\BoxAt G b n/\n+3*((jQv W).length*m)<2^40/\Fine W/\Sym W/\1<=W.length/\1<=m/\m*W.length<=1000/\∀V G',Cov W m V->BoxAt G' b (n+3*((jQv W).length*m))->Keep b G G'->Q (encW V) G'
noncomputable def kKu:List Str:=["_law_box_here","_law_web_here","_law_many","_law_turn_here","_law_turns","_law_made","_law_one","_law_other"]
noncomputable def jVm:TS3:=
 (tSeq (tFor (jKt (jJc (tC (.int 3)) tNil)) (jJj 3) (tSeq (tAsg (jQ5 [false,false,false,false,false,false,true,true] (iSeq (jJy jQa (jJc (tVar 1) tNil))) (gTup 2 (jKg (jJj 6) (jKg (jJj 7) gNil))) jUh (jJy jK9 (jJc (tVar 0) (jJc (tVar 2) (jJc (tOp rEqA (tVar 6) (tVar 7)) tNil))))) (jJj 4))
 (tSeq (tAsg (jJy jKp (jJc (tVar 1) (jJc (tVar 4) (jJc (tVar 2) tNil)))) (jJj 5))
 (tIfS (jKw (tOp rEqA (tCB rLen (jJc (jJy jKa (jJc (tVar 5) (jJc (tC (.int 0)) tNil))) tNil)) (tCB rLen (jJc (tVar 5) tNil)))) (tRet (tVar 5)) jQn))))
 (tRet (tVar 1)))
theorem kK1:∀xs G Q,jKq xs G Q->jVm {nx:=fun _ G'=>Q .non G',rt:=Q} (jJk kKu xs) G:=by
 intro xs G Q h_;apply xe4 h_;clear h_;intro b W m n h_;apply ae8 h_;clear h_;intro hb hn fine sym hW1 hm1 hmn kk
 rw[show jJk kKu [.ref b,encW W,.int m]=[some (.ref b),some (encW W),some (.int m),none,none,none,none,none] from rfl]
 have hs:=sz
 have hm2:m<=1000:=lKb (Nat.le_mul_of_pos_right m hW1) hmn
 wp_walk using 1,jVm,jJ5,jKt
 refine⟨by decide,by decide,?_⟩
 refine⟨fun k τ G'=>∃(v3 v4 v5:Option T),τ=[some (.ref b),some (encW W),some (.int m),v3,v4,v5,none,none]/\BoxAt G' b (n+k*((jQv W).length*m))/\Keep b G G',?_,?_,?_,?_⟩
 ·exact⟨none,none,none,rfl,by simpa using hb,.refl _ _⟩
 ·intros;trivial
 ·intro k x τ G1 hx h_;apply xe3 h_;clear h_;intro v3 v4 v5 h_;apply ae2 h_;clear h_;intro hb1 kp1
  have hk:k<3:=by have:=(lJb.mp hx).1;rw[jQh] at this;exact this
  have hk3:(k+1)*((jQv W).length*m)<=3*((jQv W).length*m):=Nat.mul_le_mul_right _ (by omega)
  rw[lQc] at hk3
  obtain⟨bo,hbo⟩:=hb1.some
  wp_walk using 1,iSeq
  refine⟨W,rfl,fine,fun pe G2 hpe hG2 hlen s2=> ?_⟩
  have hpb:=jJh hbo hpe
  refine⟨_,jJm hG2,?_⟩
  intro D hD
  have hDb:=jJh (s2 _ _ hbo) hD
  have hDe:=jJh hG2 hD
  refine⟨fun i acc G'=>∃Ts:List (List Nat),acc=Ts.map (fun σ=>T.tup (jJl σ))/\Ts.length=i/\(∀(t:Nat) (x:Tie) (σ:List Nat),(jQv W)[t]? =some x->Ts[t]? =some σ->Turn m σ/\(x.1=x.2->Invol σ))/\BoxAt G' b (n+k*((jQv W).length*m)+i*m)/\Keep b G2 G'/\G' D=some (.lst acc),?_,?_,?_,?_⟩
  ·exact⟨[],rfl,rfl,fun t x σ _ h=>by simp at h,by simpa using (hb1.sub s2).gup hDb,.new hD,jJi⟩
  ·rintro i acc G' hi ⟨Ts,rfl,j1,j2,j3,j4,j5⟩
   exact⟨jJm (j4 _ _ hpb.symm hG2),j5⟩
  ·rintro i x acc G3 hx0 ⟨Ts,rfl,j1,j2,j3,j4,j5⟩
   obtain⟨⟨e,f⟩,hte,rfl⟩:=jKm hx0
   have hi:i<(jQv W).length:=(lJb.mp hte).1
   have him:(i+1)*m<=(jQv W).length*m:=Nat.mul_le_mul_right _ hi
   rw[lQc] at him
   wp_walk using 1,encT,rEqA,eqG_enc
   refine⟨b,m,_,_,rfl,j3,by omega,hm1,hm2,fun σ G4 T1 T2 bx kp=> ?_⟩
   refine⟨kp _ _ hDb.symm j5,by rw[lJc];omega,Ts++[σ],by simp,by simp[j1],?_,?_,?_⟩
   ·intro t y ρ h1 h2
    by_cases htl:t<Ts.length
    ·rw[lKh htl] at h2;exact j2 t y ρ h1 h2
    ·have htl2:t<(Ts++[σ]).length:=(lJb.mp h2).1
     simp at htl2
     have:t=Ts.length:=by omega
     subst this
     rw[lQa (lJd _)] at h2
     simp at h2;subst h2
     rw[j1,hte] at h1;cases h1
     exact⟨T1,fun z=>T2 (by simpa using z)⟩
   ·exact (bx.gup hDb).mono (by rw[lQc];omega)
   ·exact (j4.trans kp).over hD
  ·rintro acc G3 ⟨Ts,rfl,j1,j2,j3,j4,j5⟩
   rw[lJc] at j1 j3
   have hkp3:Keep b G G3:=(kp1.trans (.sub s2)).trans j4
   refine⟨W,D,m,Ts,rfl,fine,sym,hW1,hm1,hmn,⟨j1,j2⟩,j5,fun V G4 sh s4=> ?_⟩
   have hVl:1<=V.length:=by rw[sh.len];exact Nat.mul_pos hm1 hW1
   refine⟨V,0,rfl,sh.fine fine hmn,hVl,fun p G5 F hp hp5 fd _ s5=> ?_⟩
   wp_walk using 1,rEqA,jJm hp5,encW,jJl,lJc,jZy
   split
   ·rename_i hc
    have hc:F.length=V.length:=by simpa using hc
    exact kk V G5 (.inr ⟨sh,fd.conn hc⟩) (((j3.sub s4).sub s5).mono (by omega)) ((hkp3.trans (.sub s4)).trans (.sub s5))
   ·exact⟨((j3.sub s4).sub s5).mono (by rw[lQc];omega),(hkp3.trans (.sub s4)).trans (.sub s5)⟩
 ·intro τ G1 h_;apply xe3 h_;clear h_;intro v3 v4 v5 h_;apply ae2 h_;clear h_;intro hb1 kp1
  rw[jQh] at hb1
  wp_walk using 1,tSeq
  exact kk W G1 (.inl rfl) hb1 kp1
structure AnyWeb (W:Web):Prop where
 pos:1<=W.length
 len:W.length<=24
 sym:Sym W
 deg:∀(r:Nat) (es:List (Nat×Nat)),W[r]? =some es->es.length<=6
 conn:Conn W
theorem WebOk.any {n d:Nat} {W:Web} (h:WebOk n d W) (h1:1<=n) (h2:n<=24) (h3:d<=6):AnyWeb W:=⟨by rw[h.len];exact h1,by rw[h.len];exact h2,h.sym,fun r es hr=>lKb (h.deg r es hr) h3,h.conn⟩
theorem WebOk.fine {n d:Nat} {W:Web} (h:WebOk n d W) (h2:n<=24) (h3:d<=6):Fine W:=⟨by rw[h.len];omega,fun r es hr=>by have:=h.deg r es hr;omega,fun r i s j he=>jZg (h.sym _ _ _ _ he)⟩
theorem AnyWeb.fine {W:Web} (h:AnyWeb W):Fine W:=⟨by have:=h.len;omega,fun r es hr=>by have:=h.deg r es hr;omega,fun r i s j he=>jZg (h.sym _ _ _ _ he)⟩
theorem flat_len {α β:Type} {f:α->List β} {d:Nat}:∀ {l:List α},(∀a,a∈l->(f a).length<=d)->(l.flatMap f).length<=l.length*d
 | [],_=>by simp
 | a::l,h=>by
  rw[List.flatMap_cons,lJ2,lJy,lQc]
  have h1:=h a (lJq)
  have h2:=flat_len (l:=l) fun x hx=>h x (lJs _ hx)
  omega
theorem ends_len {W:Web} {d:Nat} (h:∀(r:Nat) (es:List (Nat×Nat)),W[r]? =some es->es.length<=d):(jQv W).length<=W.length*d:=by
 have:=flat_len (f:=rowE W) (d:=d) (l:=List.range W.length) fun r hr=>by
  unfold rowE
  split
  ·rename_i es hes
   have h1:=List.length_filterMap_le (kJf r es) (List.range es.length)
   rw[lJ1] at h1
   have h2:=h r es hes
   omega
  ·simp
 rwa [lJ1] at this
noncomputable def jKf:Sp3:=fun xs G Q=>∃(b:Addr) (n:Nat),xs=[.ref b]/\BoxAt G b n/\n+1000<2^40/\∀W G',AnyWeb W->BoxAt G' b (n+1000)->Keep b G G'->Q (encW W) G'
noncomputable def kKv:List Str:=["_law_box_here","_law_way","_law_base"]
noncomputable def jVn:TS3:=
 (tSeq (tAsg (jJy jJs (jJc (tVar 0) (jJc (tC (.int 8)) tNil))) (jJj 1))
 (tSeq (tIfS (jKw (tOp rEqA (tVar 1) (tC (.int 0)))) (tRet (jJy jQ2 (jJc (tVar 0) (jJc (tOp jK6 (tC (.int 8)) (jJy jJs (jJc (tVar 0) (jJc (tC (.int 17)) tNil)))) (jJc (tOp jK6 (tC (.int 3)) (jJy jJs (jJc (tVar 0) (jJc (tC (.int 4)) tNil)))) tNil))))) jQn)
 (tSeq (tIfS (jKw (tOp rLt (tVar 1) (tC (.int 4)))) (tRet (jJy jQ2 (jJc (tVar 0) (jJc (tOp jK6 (tC (.int 1)) (jJy jJs (jJc (tVar 0) (jJc (tC (.int 7)) tNil)))) (jJc (tOp jK6 (tC (.int 2)) (jJy jJs (jJc (tVar 0) (jJc (tC (.int 3)) tNil)))) tNil))))) jQn)
 (tSeq (tIfS (jKw (tOp rEqA (tVar 1) (tC (.int 4)))) (tRet (jJy jQx (jJc (tOp jK6 (tC (.int 1)) (jJy jJs (jJc (tVar 0) (jJc (tC (.int 12)) tNil)))) tNil))) jQn)
 (tSeq (tAsg (jJy jQ2 (jJc (tVar 0) (jJc (tOp jK6 (tC (.int 1)) (jJy jJs (jJc (tVar 0) (jJc (tC (.int 4)) tNil)))) (jJc (tOp jK6 (tC (.int 2)) (jJy jJs (jJc (tVar 0) (jJc (tC (.int 2)) tNil)))) tNil)))) (jJj 2))
 (tRet (jJy jKq (jJc (tVar 0) (jJc (tVar 2) (jJc (tOp jK6 (tC (.int 2)) (jJy jJs (jJc (tVar 0) (jJc (tOp jK6 (tC (.int 3)) (tOp jXm (tC (.int 2)) (tCB rIntOf (jJc (tOp rLt (tCB rLen (jJc (tVar 2) tNil)) (tC (.int 4))) tNil)))) tNil)))) tNil))))))))))
theorem kK2:∀xs G Q,jKf xs G Q->jVn {nx:=fun _ G'=>Q .non G',rt:=Q} (jJk kKv xs) G:=by
 intro xs G Q h_;apply xe2 h_;clear h_;intro b n h_;apply ae3 h_;clear h_;intro hb hn kk
 rw[show jJk kKv [.ref b]=[some (.ref b),none,none] from rfl]
 have hs:=sz
 wp_walk using 1,jVn,rEqA
 refine⟨b,_,n,rfl,hb,by omega,by omega,by omega,fun w G1 w0 w1 b1 k1=> ?_⟩
 obtain⟨w,rfl⟩:=lKf w0
 have e0:eqG G1 (T.int (w:Nat)) (T.int 0)=some (decide (w=0)):=jZy (c:=0)
 have e4:eqG G1 (T.int (w:Nat)) (T.int 4)=some (decide (w=4)):=jZy (c:=4)
 wp_walk using 1,e0,e4
 split
 ·refine⟨b,_,_,rfl,b1,by omega,by omega,by omega,fun r G2 r0 r1 b2 k2=> ?_⟩
  wp_walk using 1,tSeq
  refine⟨b,_,_,rfl,b2,by omega,by omega,by omega,fun q G3 q0 q1 b3 k3=> ?_⟩
  wp_walk using 1,tSeq
  obtain⟨r,rfl⟩:=lKf r0
  obtain⟨q,rfl⟩:=lKf q0
  refine⟨b,8+r,3+q,_,by simp,b3,by omega,by omega,by omega,by omega,by omega,fun W G4 ok b4 k4=> ?_⟩
  exact kk W G4 (ok.any (by omega) (by omega) (by omega)) (b4.mono (by omega)) (((k1.trans k2).trans k3).trans k4)
 split
 ·refine⟨b,_,_,rfl,b1,by omega,by omega,by omega,fun r G2 r0 r1 b2 k2=> ?_⟩
  wp_walk using 1,tSeq
  refine⟨b,_,_,rfl,b2,by omega,by omega,by omega,fun q G3 q0 q1 b3 k3=> ?_⟩
  wp_walk using 1,tSeq
  obtain⟨r,rfl⟩:=lKf r0
  obtain⟨q,rfl⟩:=lKf q0
  refine⟨b,1+r,2+q,_,by simp,b3,by omega,by omega,by omega,by omega,by omega,fun W G4 ok b4 k4=> ?_⟩
  exact kk W G4 (ok.any (by omega) (by omega) (by omega)) (b4.mono (by omega)) (((k1.trans k2).trans k3).trans k4)
 split
 ·refine⟨b,_,_,rfl,b1,by omega,by omega,by omega,fun r G2 r0 r1 b2 k2=> ?_⟩
  wp_walk using 1,tSeq
  obtain⟨r,rfl⟩:=lKf r0
  refine⟨1+r,by simp,by omega,by omega,fun G3 s3=> ?_⟩
  exact kk _ G3 ((ring_ok (n:=1+r) (by omega)).any (by omega) (by omega) (by omega)) ((b2.sub s3).mono (by omega)) ((k1.trans k2).trans (.sub s3))
 refine⟨b,_,_,rfl,b1,by omega,by omega,by omega,fun r G2 r0 r1 b2 k2=> ?_⟩
 wp_walk using 1,tSeq
 refine⟨b,_,_,rfl,b2,by omega,by omega,by omega,fun q G3 q0 q1 b3 k3=> ?_⟩
 wp_walk using 1,tSeq
 obtain⟨r,rfl⟩:=lKf r0
 obtain⟨q,rfl⟩:=lKf q0
 refine⟨b,1+r,2+q,_,by simp,b3,by omega,by omega,by omega,by omega,by omega,fun W G4 ok b4 k4=> ?_⟩
 wp_walk using 1,encW,lJc
 have hWl:=ok.len
 have hfine:=ok.fine (by omega) (by omega)
 have hends:=ends_len ok.deg
 refine⟨by unfold L2.CMul;split<;>decide,?_⟩
 obtain⟨c,hc,hc1,hc2,hc3⟩:∃c:Nat,(3+2*(if (W.length:Int)<4 then 1 else 0):Int)=(c:Nat)/\1<=c/\c<=5/\(c+1)*W.length<=24:=by
  have:W.length=1\/W.length=2\/W.length=3\/W.length=4:=by omega
  rcases this with h | h | h | h<;>rw[h]
  ·exact⟨5,rfl,by decide,by decide,by decide⟩
  ·exact⟨5,rfl,by decide,by decide,by decide⟩
  ·exact⟨5,rfl,by decide,by decide,by decide⟩
  ·exact⟨3,rfl,by decide,by decide,by decide⟩
 refine⟨b,(c:Nat),_,by rw[hc],b4,by omega,by omega,by omega,fun x G5 x0 x1 b5 k5=> ?_⟩
 wp_walk using 1,tSeq
 obtain⟨x,rfl⟩:=lKf x0
 have hm:(2+x)*W.length<=24:=lKb (Nat.mul_le_mul_right _ (by omega)) hc3
 have hcost:(jQv W).length*(2+x)<=12*6:=Nat.mul_le_mul (lKb hends (by rw[hWl];exact Nat.mul_le_mul (show 1+r<=4 by omega) (show 2+q<=3 by omega))) (by omega)
 refine⟨b,W,2+x,_,by simp[encW],b5,by omega,hfine,ok.sym,by omega,by omega,by omega,fun V G6 cov b6 k6=> ?_⟩
 refine kk V G6 ?_ (b6.mono (by omega)) ((((k1.trans k2).trans k3).trans k4).trans k5 |>.trans k6)
 rcases cov with rfl | ⟨sh,cn⟩
 ·exact ok.any (by omega) (by omega) (by omega)
 ·refine⟨by rw[sh.len];exact Nat.mul_pos (by omega) (by omega),by rw[sh.len];exact hm,sh.sym,fun y es hy=> ?_,cn⟩
  obtain⟨es',h1,h2⟩:=sh.row y es hy
  have:=ok.deg _ _ h1
  omega
theorem jXv {nu:List Nat} {x y:Nat} (h:nu[x]? =some y):L2.atI (jJl nu) (x:Int)=some (.int (y:Nat)):=by rw[atN];simp[jJl,h]
theorem valT_isSome {kvs:List (L2.Key×T)} {k:L2.Key}:(valT kvs k).isSome=true↔k∈kvs.map Prod.fst:=by
 unfold valT
 rw[Option.isSome_map,List.find?_isSome,lJg]
 exact⟨fun ⟨a,h1,h2⟩=>⟨a,h1,by simpa using h2⟩,fun ⟨a,h1,h2⟩=>⟨a,h1,by simpa using h2⟩⟩
noncomputable def keyN (x:Nat):L2.Key:= .inl (x:Nat)
theorem keyN_mem {F:List Nat} {x:Nat}:keyN x∈F.map keyN↔x∈F:=by
 rw[lJg]
 refine⟨fun ⟨a,ha,e⟩=> ?_,fun h=>⟨x,h,rfl⟩⟩
 have e1:(Sum.inl (a:Int):L2.Key)=Sum.inl (x:Int):=e
 have:(a:Int)=x:=by injection e1
 have:a=x:=by omega
 exact this▸ha
theorem inR_dck {G:Gp} {d:Addr} {kvs:List (L2.Key×T)} {F:List Nat} {x:Nat} (h:G d=some (.dck kvs)) (hk:kvs.map Prod.fst=F.map keyN):inR G (.int (x:Nat)) (.ref d)=some (decide (x∈F)):=by
 have e1:seqT G (.ref d)=none:=by simp only[seqT,h];rfl
 have e2:dAt G (.ref d) (.int (x:Nat))=some (valT kvs (keyN x)):=by simp only[dAt,h,jV3];rfl
 unfold inR
 simp only[e1,e2]
 congr 1
 rw[Bool.eq_iff_iff,valT_isSome,hk,keyN_mem];simp
theorem putT_new {kvs:List (L2.Key×T)} {k:L2.Key} {v:T} (h:k∉kvs.map Prod.fst):putT kvs k v=kvs++[(k,v)]:=by
 unfold putT
 rw[if_neg]
 rw[List.any_eq_true]
 rintro⟨a,ha,e⟩
 exact h (lJg.mpr ⟨a,ha,by simpa using e⟩)
theorem setR_dck {G:Gp} {d:Addr} {kvs:List (L2.Key×T)} {x:Nat} {v:T} (h:G d=some (.dck kvs)) (hz:kvs.length<sizeLine):setR G (.ref d) (.int (x:Nat)) v=some (gup G d (.dck (putT kvs (keyN x) v))):=by
 simp only[setR,h,jV3]
 rw[if_pos hz];rfl
theorem kUj {xs:List T} {j:Nat} {y:T} (h:(numT xs)[j]? =some y):∃x,xs[j]? =some x/\y= .tup [.int j,x]:=by
 have hj:j<xs.length:=by have:=(lJb.mp h).1;rwa [jKj] at this
 refine⟨xs[j],lJa hj,?_⟩
 rw[jYb (lJa hj)] at h
 cases h;rfl
theorem jVf {G G':Gp} (h:Sub G G') {p:Addr} (hp:G' p=none):G p=none:=by
 cases e:G p with
 | none=>rfl
 | some o=>rw[h _ _ e] at hp;cases hp
theorem vis_sub {F:List Nat} {es:List (Nat×Nat)}:(∃E,vis F es=F++E)/\(∀e,e∈es->e.1∈vis F es)/\(∀x,x∈vis F es->x∈F\/∃e,e∈es/\e.1=x)/\(F.Nodup->(vis F es).Nodup):=by
 induction es generalizing F with
 | nil=>exact⟨⟨[],by simp[vis]⟩,by simp,fun x h=> .inl h,fun h=>h⟩
 | cons e es ih=>
  have hv:vis F (e::es)=vis (if F.contains e.1=true then F else F++[e.1]) es:=rfl
  rw[hv]
  by_cases h:F.contains e.1=true
  ·rw[if_pos h]
   obtain⟨⟨E,i1⟩,i2,i3,i4⟩:=ih (F:=F)
   refine⟨⟨E,i1⟩,fun d hd=> ?_,fun x hx=> ?_,i4⟩
   ·rcases (lJi.mp hd) with rfl | hde
    ·rw[i1];exact lKp _ (by simpa using h)
    ·exact i2 d hde
   ·rcases i3 x hx with h | ⟨d,hd,e⟩
    ·exact .inl h
    ·exact .inr ⟨d,lJs _ hd,e⟩
  ·rw[if_neg h]
   obtain⟨⟨E,i1⟩,i2,i3,i4⟩:=ih (F:=F++[e.1])
   refine⟨⟨e.1::E,by rw[i1];simp⟩,fun d hd=> ?_,fun x hx=> ?_,fun hn=>i4 ?_⟩
   ·rcases (lJi.mp hd) with rfl | hde
    ·rw[i1];exact lKp _ (by simp)
    ·exact i2 d hde
   ·rcases i3 x hx with h | ⟨d,hd,e'⟩
    ·rcases (lJ4.mp h) with h | hs
     ·exact .inl h
     ·exact .inr ⟨e,lJq ..,(lJv.mp hs).symm⟩
    ·exact .inr ⟨d,lJs _ hd,e'⟩
   ·rw[lQd]
    exact⟨hn,by simp,fun a ha b hb=>by rw[lJv] at hb;subst hb;rintro rfl;exact h (by simpa using ha)⟩
structure Bfs (W:Web) (k:Nat) (F:List Nat):Prop where
 nd:F.Nodup
 lt:∀x,x∈F->x<W.length
 near:∀(i x:Nat) (e:Nat×Nat),i<k->F[i]? =some x->e∈row W x->e.1∈F
theorem row_mem {W:Web} {x:Nat} {e:Nat×Nat} (h:e∈row W x):∃i,en W x i=some e:=by
 unfold row at h
 cases hW:W[x]? with
 | none=>rw[hW] at h;simp at h
 | some es=>
  rw[hW] at h
  obtain⟨i,hi⟩:=lJm (show e∈es from h)
  exact⟨i,jQq hW hi⟩
theorem Bfs.step {W:Web} (f:Fine W) {k r:Nat} {F:List Nat} (h:Bfs W k F) (hr:F[k]? =some r):Bfs W (k+1) (vis F (row W r)):=by
 obtain⟨⟨E,e1⟩,e2,e3,e4⟩:=vis_sub (F:=F) (es:=row W r)
 refine⟨e4 h.nd,fun x hx=> ?_,fun i x e hi hx he=> ?_⟩
 ·rcases e3 x hx with hx | ⟨e,he,rfl⟩
  ·exact h.lt x hx
  ·obtain⟨i,hi⟩:=row_mem he
   exact f.rng _ _ e.1 e.2 hi
 ·have hkl:k<F.length:=(lJb.mp hr).1
  have hx':F[i]? =some x:=by rw[e1,lKh (by omega)] at hx;exact hx
  rcases lQl (lKo hi) with h1 | rfl
  ·rw[e1];exact lKp _ (h.near i x e h1 hx' he)
  ·rw[hr] at hx';cases hx';exact e2 e he
theorem Bfs.run {W:Web} (f:Fine W):∀(n k:Nat) (F:List Nat),Bfs W k F->W.length<=n+k->k<=F.length->(∃E,bfsN W n k F=F++E)/\Bfs W (bfsN W n k F).length (bfsN W n k F)
 | 0,k,F,h,hl,hk=>by
  have hF:=jU1 h.nd h.lt
  have:k=F.length:=by omega
  subst this
  exact⟨⟨[],by simp[bfsN]⟩,h⟩
 | n+1,k,F,h,hl,hk=>by
  rcases lJ5 k F.length with hlt | hge
  ·have hr:F[k]? =some F[k]:=lJa hlt
   rw[jXt hr]
   obtain⟨⟨E,e1⟩,e2,e3,e4⟩:=vis_sub (F:=F) (es:=row W F[k])
   obtain⟨⟨E',h1⟩,h2⟩:=Bfs.run f n (k+1) _ (h.step f hr) (by omega) (by rw[e1,lJ2];omega)
   exact⟨⟨E++E',by rw[h1,e1,lQp]⟩,h2⟩
  ·have:k=F.length:=by omega
   subst this
   rw[jXu (lJd _)]
   exact⟨⟨[],by simp⟩,h⟩
theorem bfs_ok {W:Web} (f:Fine W) {r:Nat} (hr:r<W.length):(∃E,bfs W r=r::E)/\Bfs W (bfs W r).length (bfs W r):=
 Bfs.run f W.length 0 [r] ⟨by simp,by simpa using hr,fun i x e hi=>absurd hi (lJ0 _)⟩ (by omega) (by simp)
structure Order (W:Web) (r:Nat) (F:List Nat):Prop where
 nd:F.Nodup
 lt:∀x,x∈F->x<W.length
 all:∀x,x<W.length->x∈F
 first:F[0]? =some r
theorem bfs_order {W:Web} (f:Fine W) (sym:Sym W) (c:Conn W) {r:Nat} (hr:r<W.length):Order W r (bfs W r):=by
 obtain⟨⟨E,e1⟩,h⟩:=bfs_ok f hr
 have cl:∀x i s j,x∈bfs W r->en W x i=some (s,j)->s∈bfs W r:=by
  intro x i s j hx he
  obtain⟨k,hk⟩:=lJm hx
  have hkl:=(lJb.mp hk).1
  refine h.near k x (s,j) hkl hk ?_
  have he':=he
  unfold en at he'
  cases hW:W[x]? with
  | none=>rw[hW] at he';cases he'
  | some es=>rw[hW] at he';rw[jQl hW];exact lJf (show es[i]? =_ from he')
 have hrF:r∈bfs W r:=by rw[e1];exact lJq ..
 have h0:0∈bfs W r:=c (fun x=>x∈bfs W r->0∈bfs W r) (fun h=>h) (fun x i s j hx he hs=>hx (cl s j x i hs (sym _ _ _ _ he))) r hr hrF
 exact⟨h.nd,h.lt,fun x hx=>c (fun x=>x∈bfs W r) h0 (fun x i s j h he=>cl x i s j h he) x hx,by rw[e1];rfl⟩
theorem cover_le:∀(n:Nat) (F:List Nat),(∀x,x<n->x∈F)->n<=F.length
 | 0,_,_=>lJt _
 | n+1,F,h=>by
  have hn:=h n (lQw _)
  have h1:=cover_le n (F.erase n) fun x hx=>(List.mem_erase_of_ne (by omega)).mpr (h x (by omega))
  rw[List.length_erase_of_mem hn] at h1
  have:=List.length_pos_of_mem hn
  omega
theorem Order.len {W:Web} {r:Nat} {F:List Nat} (h:Order W r F):F.length=W.length:=by
 have h1:=jU1 h.nd h.lt
 exact Nat.le_antisymm h1 (cover_le _ _ h.all)
noncomputable def nuF (nu:List Nat) (x:Nat):Nat:=(nu[x]?).getD x
noncomputable def renE (nu:List Nat) (es:List (Nat×Nat)):List (Nat×Nat):=es.map fun e=>(nuF nu e.1,e.2)
structure Ren (W:Web) (nu:List Nat) (V:Web):Prop where
 len:V.length=W.length
 at':∀(r:Nat) (es:List (Nat×Nat)),W[r]? =some es->V[nuF nu r]? =some (renE nu es)
theorem jQb {nu:List Nat} {x y:Nat} (h:nu[x]? =some y):nuF nu x=y:=by unfold nuF;rw[h];rfl
theorem jZr {nu:List Nat} {x:Nat} (h:nu.length<=x):nuF nu x=x:=by unfold nuF;rw[lJk h];rfl
theorem kQj {n:Nat} {nu:List Nat} (t:Turn n nu) {x:Nat} (h:x<n):nuF nu x<n:=by
 obtain⟨y,hy,hl⟩:=t.at h
 rw[jQb hy];exact hl
theorem kUk {n:Nat} {nu:List Nat} (t:Turn n nu) {x y:Nat} (h:nuF nu x=nuF nu y):x=y:=by
 rcases lJ5 x n with hx | hx<;>rcases lJ5 y n with hy | hy
 ·obtain⟨a,ha,_⟩:=t.at hx
  obtain⟨b,hb,_⟩:=t.at hy
  rw[jQb ha,jQb hb] at h
  subst h
  exact (lKm (by rw[t.len];exact hx) t.nd).mp (ha.trans hb.symm)
 ·have:=kQj t hx;rw[h,jZr (by rw[t.len];exact hy)] at this;omega
 ·have:=kQj t hy;rw[<-h,jZr (by rw[t.len];exact hx)] at this;omega
 ·rw[jZr (by rw[t.len];exact hx),jZr (by rw[t.len];exact hy)] at h;exact h
theorem jVo {n:Nat} {nu:List Nat} (t:Turn n nu) {y:Nat} (h:y<n):∃x,x<n/\nuF nu x=y:=by
 have hm:=jV0 t.nd t.lt t.len y h
 obtain⟨x,hx⟩:=lJm hm
 exact⟨x,by have:=(lJb.mp hx).1;rw[t.len] at this;exact this,jQb hx⟩
theorem ren_row {W V:Web} {nu:List Nat} (h:Ren W nu V) (t:Turn W.length nu) (r:Nat):row V (nuF nu r)=renE nu (row W r):=by
 rcases lJ5 r W.length with hr | hr
 ·have hW:W[r]? =some W[r]:=lJa hr
  rw[jQl hW,jQl (h.at' r _ hW)]
 ·have e1:row W r=[]:=by unfold row;rw[lJk hr];rfl
  have e2:row V (nuF nu r)=[]:=by unfold row;rw[jZr (by rw[t.len];exact hr),lJk (by rw[h.len];exact hr)];rfl
  rw[e1,e2];rfl
theorem contains_map {f:Nat->Nat} (hf:∀x y,f x=f y->x=y) {F:List Nat} {x:Nat}:(F.map f).contains (f x)=F.contains x:=by
 rw[Bool.eq_iff_iff]
 simp only[List.contains_iff_mem,lJg]
 exact⟨fun ⟨a,ha,e⟩=>hf _ _ e▸ha,fun h=>⟨x,h,rfl⟩⟩
theorem vis_map {f:Nat->Nat} (hf:∀x y,f x=f y->x=y) (es:List (Nat×Nat)):∀F:List Nat,vis (F.map f) (es.map fun e=>(f e.1,e.2))=(vis F es).map f:=by
 induction es with
 | nil=>intro F;rfl
 | cons e es ih=>
  intro F
  show vis (if (F.map f).contains (f e.1)=true then F.map f else F.map f++[f e.1]) _=(vis (if F.contains e.1=true then F else F++[e.1]) es).map f
  rw[contains_map hf]
  by_cases h:F.contains e.1=true
  ·rw[if_pos h,if_pos h];exact ih F
  ·rw[if_neg h,if_neg h,show F.map f++[f e.1]=(F++[e.1]).map f by simp];exact ih _
theorem bfsN_ren {W V:Web} {nu:List Nat} (h:Ren W nu V) (t:Turn W.length nu):∀(n k:Nat) (F:List Nat),bfsN V n k (F.map (nuF nu))=(bfsN W n k F).map (nuF nu)
 | 0,_,_=>rfl
 | n+1,k,F=>by
  cases hk:F[k]? with
  | none=>
   have hl:F.length<=k:=by simpa using hk
   rw[jXu hl,jXu (by rw[lJc];exact hl)]
  | some r=>
   rw[jXt hk,jXt (by rw[lJe,hk];rfl),ren_row h t,renE,vis_map (fun _ _=>kUk t)]
   exact bfsN_ren h t n (k+1) _
theorem bfs_ren {W V:Web} {nu:List Nat} (h:Ren W nu V) (t:Turn W.length nu) (r:Nat):bfs V (nuF nu r)=(bfs W r).map (nuF nu):=by
 unfold bfs;rw[h.len];exact bfsN_ren h t _ _ [r]
theorem idx_map {f:Nat->Nat} (hf:∀x y,f x=f y->x=y) (x:Nat):∀F:List Nat,(F.map f).idxOf (f x)=F.idxOf x
 | []=>rfl
 | a::F=>by
  simp only[lJh,List.idxOf_cons,idx_map hf x F]
  by_cases h:a=x
  ·rw[h];simp only[BEq.rfl,cond_true]
  ·have h2:¬ f a=f x:=fun e=>h (hf _ _ e)
   rw[beq_eq_false_iff_ne.mpr h,beq_eq_false_iff_ne.mpr h2]
noncomputable def tf (W:Web) (r:Nat):Web:=(bfs W r).map fun s=>(row W s).map fun e=>((bfs W r).idxOf e.1,e.2)
theorem tf_ren {W V:Web} {nu:List Nat} (h:Ren W nu V) (t:Turn W.length nu) (r:Nat):tf V (nuF nu r)=tf W r:=by
 unfold tf
 rw[bfs_ren h t,lJj]
 apply lKl
 intro s _
 show (row V (nuF nu s)).map _=_
 rw[ren_row h t,renE,lJj]
 apply lKl
 intro e _
 show ((List.map (nuF nu) (bfs W r)).idxOf (nuF nu e.1),e.2)=_
 rw[idx_map fun _ _=>kUk t]
noncomputable def inv (n:Nat) (F:List Nat):List Nat:=(List.range n).map fun x=>F.idxOf x
theorem Order.idx {W:Web} {r:Nat} {F:List Nat} (o:Order W r F) {x:Nat} (h:x<W.length):F[F.idxOf x]? =some x/\F.idxOf x<W.length:=by
 have hl:=lKd (o.all x h)
 refine⟨?_,by rw[o.len] at hl;exact hl⟩
 rw[lJa hl,lKu]
theorem inv_at {n x:Nat} {F:List Nat} (h:x<n):(inv n F)[x]? =some (F.idxOf x):=by simp[inv,h]
theorem Order.turn {W:Web} {r:Nat} {F:List Nat} (o:Order W r F):Turn W.length (inv W.length F):=by
 refine⟨by simp[inv],?_,fun y hy=> ?_⟩
 ·unfold inv
  rw[List.nodup_iff_pairwise_ne,List.pairwise_map]
  refine List.Pairwise.imp_of_mem (fun {a b} ha hb hne e=>hne ?_) (List.nodup_iff_pairwise_ne.mp lQf)
  have h1:=(o.idx (lJn.mp ha)).1
  have h2:=(o.idx (lJn.mp hb)).1
  rw[e,h2] at h1;cases h1;rfl
 ·obtain⟨x,hx,rfl⟩:=lJg.mp hy
  exact (o.idx (lJn.mp hx)).2
theorem tf_is {W:Web} (f:Fine W) {r:Nat} (o:Order W r (bfs W r)):Ren W (inv W.length (bfs W r)) (tf W r):=by
 refine⟨by unfold tf;rw[lJc];exact o.len,fun x es hx=> ?_⟩
 have hxl:=(lJb.mp hx).1
 rw[jQb (inv_at hxl)]
 unfold tf
 rw[lJe,(o.idx hxl).1]
 show some _=some _
 congr 1
 show (row W x).map _=_
 rw[jQl hx,renE]
 apply lKl
 intro e he
 obtain⟨i,hi⟩:=lJm he
 rw[jQb (inv_at (f.rng x i e.1 e.2 (jQq hx hi)))]
theorem Ren.unique {W V V':Web} {nu:List Nat} (t:Turn W.length nu) (h:Ren W nu V) (h':Ren W nu V'):V=V':=by
 apply lJx
 intro i
 rcases lJ5 i W.length with hi | hi
 ·obtain⟨x,hx,rfl⟩:=jVo t hi
  have hW:W[x]? =some W[x]:=lJa hx
  rw[h.at' x _ hW,h'.at' x _ hW]
 ·rw[lJk (by rw[h.len];exact hi),lJk (by rw[h'.len];exact hi)]
theorem ren_en {W V:Web} {nu:List Nat} (t:Turn W.length nu) (h:Ren W nu V) (r i:Nat):en V (nuF nu r) i=(en W r i).map fun e=>(nuF nu e.1,e.2):=by
 unfold en
 rcases lJ5 r W.length with hr | hr
 ·have hW:W[r]? =some W[r]:=lJa hr
  rw[hW,h.at' r _ hW]
  show (renE nu W[r])[i]? =_
  rw[renE,lJe];rfl
 ·rw[lJk hr,jZr (by rw[t.len];exact hr),lJk (by rw[h.len];exact hr)];rfl
theorem conn_from {W:Web} (sym:Sym W) (c:Conn W) {r0:Nat} (hr:r0<W.length) (S:Nat->Prop) (h0:S r0) (cl:∀r i s j,S r->en W r i=some (s,j)->S s):∀r,r<W.length->S r:=
 c S (c (fun x=>S x->S 0) (fun h=>h) (fun x i s j hx he hs=>hx (cl s j x i hs (sym _ _ _ _ he))) r0 hr h0) cl
theorem ren_any {W V:Web} {nu:List Nat} (t:Turn W.length nu) (h:Ren W nu V) (a:AnyWeb W):AnyWeb V:=by
 have back:∀r i e,en V r i=some e->∃x d,nuF nu x=r/\en W x i=some d/\e=(nuF nu d.1,d.2):=by
  intro r i e he
  have hr:=jZg he
  rw[h.len] at hr
  obtain⟨x,hx,rfl⟩:=jVo t hr
  rw[ren_en t h] at he
  obtain⟨d,hd,rfl⟩:=lKi.mp he
  exact⟨x,d,rfl,hd,rfl⟩
 refine⟨by rw[h.len];exact a.pos,by rw[h.len];exact a.len,?_,?_,?_⟩
 ·intro r i s j he
  obtain⟨x,d,rfl,hd,e⟩:=back r i _ he
  cases e
  rw[ren_en t h,a.sym _ _ d.1 d.2 hd];rfl
 ·intro r es hr
  have hrl:=(lJb.mp hr).1
  rw[h.len] at hrl
  obtain⟨x,hx,rfl⟩:=jVo t hrl
  have hW:W[x]? =some W[x]:=lJa hx
  rw[h.at' x _ hW] at hr;cases hr
  rw[renE,lJc];exact a.deg x _ hW
 ·intro S h0 cl r hr
  rw[h.len] at hr
  have ap:=a.pos
  obtain⟨z,hz,e0⟩:=jVo t (show 0<W.length by omega)
  obtain⟨x,hx,rfl⟩:=jVo t hr
  exact conn_from a.sym a.conn hz (fun x=>S (nuF nu x)) (by show S (nuF nu z);rw[e0];exact h0) (fun r i s j hS he=>cl _ i _ j hS (by rw[ren_en t h,he];rfl)) x hx
theorem AnyWeb.order {W:Web} (a:AnyWeb W) {r:Nat} (hr:r<W.length):Order W r (bfs W r):=bfs_order a.fine a.sym a.conn hr
theorem any_tf {W:Web} (a:AnyWeb W) {r:Nat} (hr:r<W.length):AnyWeb (tf W r):=ren_any (a.order hr).turn (tf_is a.fine (a.order hr)) a
theorem vis_lt {W:Web} (f:Fine W) {F:List Nat} {x:Nat} {es:List (Nat×Nat)} (hx:W[x]? =some es) (hF:∀y,y∈F->y<W.length) (j:Nat):∀y,y∈vis F (es.take j)->y<W.length:=by
 intro y hy
 rcases (vis_sub (F:=F) (es:=es.take j)).2.2.1 y hy with h | ⟨e,he,rfl⟩
 ·exact hF y h
 ·obtain⟨i,hi⟩:=lJm (List.mem_of_mem_take he)
  exact f.rng x i e.1 e.2 (jQq hx hi)
noncomputable def jJ4:Sp3:=fun xs G Q=>∃(W:Web) (r0:Nat),xs=[encW W,.int r0]/\Fine W/\r0<W.length/\∀d G' kvs,G d=none->G' d=some (.dck kvs)->kvs.map Prod.fst=(bfs W r0).map keyN->Sub G G'->Q (.ref d) G'
noncomputable def jXw:List Str:=["web","room","comings","level","further","here","door","end"]
noncomputable def jQ3:TS3:=
 (tSeq (tAsg (tDisp1 (tVar 1) (tC .non)) (jJj 2))
 (tSeq (tAsg (tLst (jJc (tVar 1) tNil)) (jJj 3))
 (tSeq (kQe (tTru rTru (tVar 3)) (tSeq (tAsg (tLst tNil) (jJj 4))
 (tSeq (tFor (iSeq (tVar 3)) (jJj 5) (tFor (iEnT (jJc (tOp rIxF (tVar 0) (tVar 5)) tNil)) (gTup 2 (jKg (jJj 6) (jKg (jJj 7) gNil))) (tIfS (jKw (tOp jUf (tOp rIxF (tVar 7) (tC (.int 0))) (tVar 2))) (tSeq (tAsg (tTup (jJc (tVar 5) (jJc (tVar 6) tNil))) (gSub (tVar 2) (tOp rIxF (tVar 7) (tC (.int 0))) jVz))
 (jV7 (tBM "list" jQm (tVar 4) (jJc (tOp rIxF (tVar 7) (tC (.int 0))) tNil)))) jQn)))
 (tAsg (tVar 4) (jJj 3)))))
 (tRet (tVar 2)))))
theorem jYu:∀xs G Q,jJ4 xs G Q->jQ3 {nx:=fun _ G'=>Q .non G',rt:=Q} (jJk jXw xs) G:=by
 intro xs G Q h_;apply xe2 h_;clear h_;intro W r0 h_;apply ae3 h_;clear h_;intro fine hr0 kk
 rw[show jJk jXw [encW W,.int r0]=[some (.tup (W.map encR)),some (.int r0),none,none,none,none,none,none] from rfl]
 have hs:=sz
 have hl:=fine.len
 wp_walk using 1,jQ3,kQe,jJ5,tDisp1,iSeq,iEnT
 intro d hd
 refine⟨keyN r0,rfl,by omega,fun l hl0=> ?_⟩
 have hdl:d≠l:=jJh (jJi (G:=G) (a:=d) (o:= .dck [(keyN r0,T.non)])) hl0
 refine⟨fun m τ G'=>∃(a:Nat) (l:Addr) (v4 v5 v6 v7:Option T) (F:List Nat) (kvs:List (L2.Key×T)),τ=[some (.tup (W.map encR)),some (.int r0),some (.ref d),some (.ref l),v4,v5,v6,v7]/\d≠l/\G l=none/\G' d=some (.dck kvs)/\kvs.map Prod.fst=F.map keyN/\G' l=some (.lst (jJl (F.drop a)))/\a<=F.length/\Bfs W a F/\bfs W r0=bfsN W (W.length-a) a F/\Sub G G'/\m=W.length-a,?_,?_⟩
 ·refine⟨_,0,l,none,none,none,none,[r0],[(keyN r0,T.non)],rfl,hdl,?_,?_,rfl,jJi,lJt _,⟨by simp,by simpa using hr0,fun i x e hi=>absurd hi (lJ0 _)⟩,rfl,(Sub.new hd).trans (.new hl0),rfl⟩
  ·rw[jJu hdl.symm] at hl0;exact hl0
  ·rw[jJu hdl];exact jJi
 intro m τ G1 h_;apply xe8 h_;clear h_;intro a l v4 v5 v6 v7 F kvs h_;apply ae10 h_;clear h_;intro hdl hl0 h1 hk h2 haF hB hb hs1 e9_
 subst e9_
 have hFl:=jU1 hB.nd hB.lt
 wp_walk using 1,h2
 split
 ·rename_i hne
  have haF':a<F.length:=by
   rcases lJ5 a F.length with z | z
   ·exact z
   ·rw[List.drop_of_length_le z] at hne;simp[jJl] at hne
  refine⟨fun τ' G'=>∃(l':Addr) (v4 v5 v6 v7:Option T) (F':List Nat) (kvs':List (L2.Key×T)),τ'=[some (.tup (W.map encR)),some (.int r0),some (.ref d),some (.ref l'),v4,v5,v6,v7]/\d≠l'/\G l'=none/\G' d=some (.dck kvs')/\kvs'.map Prod.fst=F'.map keyN/\G' l'=some (.lst (jJl (F'.drop F.length)))/\F.length<=F'.length/\Bfs W F.length F'/\bfs W r0=bfsN W (W.length-F.length) F.length F'/\Sub G G',?_,by omega,fun p hp=> ?_⟩
  ·intro τ' G' h_;apply xe7 h_;clear h_;intro l' v4 v5 v6 v7 F' kvs' h_;apply ae9 h_;clear h_;intro i1 i2 i3 i4 i5 i6 i7 i8 i9
   exact⟨W.length-F.length,by omega,F.length,l',v4,v5,v6,v7,rfl,i1,i2,F',kvs',i3,i4,i5,i6,i7,i8,i9,rfl⟩
  ·have hpd:d≠p:=jJh h1 hp
   have hpl:l≠p:=jJh h2 hp
   have hp0:=jVf hs1 hp
   refine⟨jJl (F.drop a),jJm (by rw[jJu hpl];exact h2),?_⟩
   refine⟨fun i τ G'=>∃(v5 v6 v7:Option T) (F':List Nat) (kvs':List (L2.Key×T)),τ=[some (.tup (W.map encR)),some (.int r0),some (.ref d),some (.ref l),some (.ref p),v5,v6,v7]/\G' d=some (.dck kvs')/\kvs'.map Prod.fst=F'.map keyN/\G' l=some (.lst (jJl (F.drop a)))/\G' p=some (.lst (jJl (F'.drop F.length)))/\(∃E,F'=F++E)/\Bfs W (a+i) F'/\bfs W r0=bfsN W (W.length-(a+i)) (a+i) F'/\Sub G G',?_,?_,?_,?_⟩
   ·exact⟨v5,v6,v7,F,kvs,rfl,by rw[jJu hpd];exact h1,hk,by rw[jJu hpl];exact h2,by rw[List.drop_length];exact jJi,⟨[],by simp⟩,hB,hb,hs1.trans (.new hp)⟩
   ·intro i τ G' hi h_;apply xe5 h_;clear h_;intro v5 v6 v7 F' kvs' h_;apply ae8 h_;clear h_;intro j1 jk j2 j3 jE jB jb js
    exact jJm j2
   ·intro i y τ G2 hy h_;apply xe5 h_;clear h_;intro v5 v6 v7 F' kvs' h_;apply ae8 h_;clear h_;intro j1 jk j2 j3 q4_ jB jb js
    obtain⟨E,jE⟩:=q4_
    obtain⟨x,hx,rfl⟩:=jKm hy
    rw[List.getElem?_drop] at hx
    have hai:a+i<F.length:=(lJb.mp hx).1
    have hx':F'[a+i]? =some x:=by rw[jE,lKh hai];exact hx
    have hxW:=jB.lt x (lJf hx')
    have hW:W[x]? =some W[x]:=lJa hxW
    generalize W[x]=es at hW
    wp_walk using 1,iEnT,jXs hW,encR,jJ5
    refine⟨fun j τ G'=>∃(v6 v7:Option T) (F2:List Nat) (kvs2:List (L2.Key×T)),τ=[some (.tup (W.map encR)),some (.int r0),some (.ref d),some (.ref l),some (.ref p),some (.int x),v6,v7]/\G' d=some (.dck kvs2)/\kvs2.map Prod.fst=F2.map keyN/\G' l=some (.lst (jJl (F.drop a)))/\G' p=some (.lst (jJl (F2.drop F.length)))/\F2=vis F' (es.take j)/\Sub G G',?_,?_,?_,?_⟩
    ·exact⟨v6,v7,F',kvs',rfl,j1,jk,j2,j3,rfl,js⟩
    ·intros;trivial
    ·intro j y τ G3 hy h_;apply xe4 h_;clear h_;intro v6 v7 F2 kvs2 h_;apply ae6 h_;clear h_;intro q1 qk q2 q3 q4 q5
     obtain⟨z,hz,rfl⟩:=kUj hy
     obtain⟨e,he,rfl⟩:=jKm hz
     have hF2n:F2.Nodup:=by rw[q4];exact vis_sub.2.2.2 jB.nd
     have hF2l:∀y,y∈F2->y<W.length:=by rw[q4];exact vis_lt fine hW jB.lt j
     have hF2:=jU1 hF2n hF2l
     have hkl:kvs2.length=F2.length:=by have:=congrArg List.length qk;simpa using this
     have hFF:F.length<=F2.length:=by
      obtain⟨⟨E',e1⟩,_⟩:=vis_sub (F:=F') (es:=es.take j)
      rw[q4,e1,jE];simp only[lJ2];omega
     wp_walk using 1,encE,jUf,inR_dck q1 qk
     by_cases hm:e.1∈F2
     ·rw[if_neg (by simp[hm])]
      exact⟨F2,kvs2,q1,qk,q2,q3,by rw[kJg he,<-q4,if_pos (by simpa using hm)],q5⟩
     ·rw[if_pos (by simp[hm])]
      wp_walk using 1,setR_dck q1 (show kvs2.length<sizeLine by omega)
      have hgp:gup G3 d (.dck (putT kvs2 (keyN e.1) (.tup [.int x,.int j]))) p=some (.lst (jJl (F2.drop F.length))):=by rw[jJu hpd.symm];exact q3
      refine⟨by omega,by rw[jK0 hgp];trivial,_,hgp,by simp[jJl];omega,F2++[e.1],kvs2++[(keyN e.1,.tup [.int x,.int j])],?_,?_,?_,?_,?_,?_⟩
      ·rw[jJu hpd,jJi,putT_new (by rw[qk,keyN_mem];exact hm)]
      ·rw[lKg,lKg,qk];rfl
      ·rw[jJu hpl,jJu hdl.symm];exact q2
      ·rw[List.drop_append_of_le_length hFF];simp[jJl]
      ·rw[kJg he,<-q4,if_neg (by simpa using hm)]
      ·exact (q5.over hd).over hp0
    ·intro τ G3 h_;apply xe4 h_;clear h_;intro v6 v7 F2 kvs2 h_;apply ae6 h_;clear h_;intro q1 qk q2 q3 q4 q5
     rw[jKj,lJc,lKt] at q4
     obtain⟨⟨E',e1⟩,_⟩:=vis_sub (F:=F') (es:=es)
     refine⟨_,_,_,rfl,F2,kvs2,q1,qk,q2,q3,⟨E++E',by rw[q4,e1,jE,lQp]⟩,?_,?_,q5⟩
     ·have:=jB.step fine hx'
      rw[jQl hW,<-q4] at this
      exact this
     ·rw[jb,show W.length-(a+i)=W.length-(a+(i+1))+1 by omega,jXt hx',jQl hW,<-q4];rfl
   ·intro τ G2 h_;apply xe5 h_;clear h_;intro v5 v6 v7 F' kvs' h_;apply ae8 h_;clear h_;intro j1 jk j2 j3 q4_ jB jb js
    obtain⟨E,jE⟩:=q4_
    have hlen:(jJl (F.drop a)).length=F.length-a:=by simp[jJl]
    rw[hlen,show a+(F.length-a)=F.length by omega] at jB jb
    wp_walk using 1,tSeq
    exact⟨hpd,hp0,F',kvs',j1,jk,j3,by rw[jE,lJ2];omega,jB,jb,js⟩
 ·rename_i hne
  have he:F.length<=a:=by
   have:jJl (F.drop a)=[]:=by simpa using hne
   have:=congrArg List.length this
   simp[jJl] at this;omega
  rw[jXu he] at hb
  exact kk d G1 kvs hd h1 (by rw[hk,hb]) hs1
def NuAt (G:Gp) (x:T) (nu:List Nat):Prop:=x= .tup (jJl nu)\/∃p,x= .ref p/\G p=some (.lst (jJl nu))
theorem NuAt.at {G G':Gp} {x:T} {nu:List Nat} (h:NuAt G x nu) (s:Sub G G') {y z:Nat} (hy:nu[y]? =some z):ixR G' x (.int (y:Nat))=some (.int (z:Nat)):=by
 rcases h with rfl | ⟨p,rfl,hp⟩
 ·exact jXv hy
 ·rw[jKk (s _ _ hp)];exact jXv hy
noncomputable def jKz:Sp3:=fun xs G Q=>∃(es:List (Nat×Nat)) (nu:List Nat) (x:T),xs=[encR es,x]/\NuAt G x nu/\(∀e,e∈es->e.1<nu.length)/\es.length<=1000/\∀G',Sub G G'->Q (encR (renE nu es)) G'
noncomputable def N_ends_by:List Str:=["ends","numbers","end"]
noncomputable def jYa:TS3:=
 (tRet (tCB jJ9 (jJc (jQ5 [false,false,true] (iSeq (tVar 0)) (jJj 2) jUh (tTup (jJc (tOp rIxF (tVar 1) (tOp rIxF (tVar 2) (tC (.int 0)))) (jJc (tOp rIxF (tVar 2) (tC (.int 1))) tNil)))) tNil)))
theorem rdok_ends_by:∀xs G Q,jKz xs G Q->jYa {nx:=fun _ G'=>Q .non G',rt:=Q} (jJk N_ends_by xs) G:=by
 intro xs G Q h_;apply xe3 h_;clear h_;intro es nu x h_;apply ae4 h_;clear h_;intro hnu hlt hl kk
 rw[show jJk N_ends_by [encR es,x]=[some (.tup (es.map encE)),some x,none] from rfl]
 have hs:=sz
 wp_walk using 1,jYa,iSeq
 refine jKd (fun e=>encE (nuF nu e.1,e.2)) (by omega) (fun _ _=>trivial) ?_ ?_
 ·intro i e he G' K K0 s hk
  have hx:=hlt e (lJf he)
  have hy:nu[e.1]? =some nu[e.1]:=lJa hx
  wp_walk using 1,encE,hnu.at s hy
  rw[encE,jQb hy] at hk
  exact⟨by omega,hk G' (.refl _)⟩
 ·intro D G' hD h1 h2
  refine⟨_,jJm h1,?_⟩
  have:=kk G' h2
  rw[encR,renE,lJj] at this
  exact this
noncomputable def jKb:Sp3:=fun xs G Q=>∃(W:Web) (nu:List Nat),xs=[encW W,.tup (jJl nu)]/\Fine W/\Turn W.length nu/\∀V G',Ren W nu V->Sub G G'->Q (encW V) G'
noncomputable def jZ7:List Str:=["web","numbers","rooms","room","ends"]
noncomputable def jU0:TS3:=
 (tSeq (tAsg (tCB rListA (jJc (tVar 0) tNil)) (jJj 2))
 (tSeq (tFor (iEnT (jJc (tVar 0) tNil)) (gTup 2 (jKg (jJj 3) (jKg (jJj 4) gNil))) (tAsg (jJy jKz (jJc (tVar 4) (jJc (tVar 1) tNil))) (gSub (tVar 2) (tOp rIxF (tVar 1) (tVar 3)) jVz)))
 (tRet (tCB jJ9 (jJc (tVar 2) tNil)))))
theorem kJ2:∀xs G Q,jKb xs G Q->jU0 {nx:=fun _ G'=>Q .non G',rt:=Q} (jJk jZ7 xs) G:=by
 intro xs G Q h_;apply xe2 h_;clear h_;intro W nu h_;apply ae3 h_;clear h_;intro fine t kk
 rw[show jJk jZ7 [encW W,.tup (jJl nu)]=[some (.tup (W.map encR)),some (.tup (jJl nu)),none,none,none] from rfl]
 have hs:=sz
 have hl:=fine.len
 wp_walk using 1,jU0,rListA,rListOf,jJ5,iEnT
 intro p hp
 refine⟨fun k τ G'=>∃(v3 v4:Option T) (V:Web),τ=[some (.tup (W.map encR)),some (.tup (jJl nu)),some (.ref p),v3,v4]/\G' p=some (.lst (V.map encR))/\V.length=W.length/\(∀(r:Nat) (es:List (Nat×Nat)),r<k->W[r]? =some es->V[nuF nu r]? =some (renE nu es))/\Sub G G',?_,?_,?_,?_⟩
 ·exact⟨none,none,W,rfl,jJi,rfl,fun r es h=>absurd h (lJ0 _),.new hp⟩
 ·intros;trivial
 ·intro k y τ G1 hy h_;apply xe3 h_;clear h_;intro v3 v4 V h_;apply ae4 h_;clear h_;intro h1 h2 h3 h4
  obtain⟨z,hz,rfl⟩:=kUj hy
  obtain⟨es,he,rfl⟩:=jKm hz
  have hk:k<W.length:=(lJb.mp he).1
  obtain⟨x,hx,hxl⟩:=t.at hk
  wp_walk using 1,tSeq
  refine⟨es,nu,_,rfl,.inl rfl,fun e hm=> ?_,fine.row k es he,fun G2 s2=> ?_⟩
  ·obtain⟨i,hi⟩:=lJm hm
   rw[t.len];exact fine.rng k i e.1 e.2 (jQq he hi)
  ·have hp2:=s2 _ _ h1
   wp_walk using 1,jXv hx,setR_m hp2
   have hxV:x<(V.map encR).length:=by rw[lJc,h2];exact hxl
   rw[kKe hxV]
   refine⟨_,rfl,V.set x (renE nu es),(by show gup _ _ _ _=_;rw[jJi,List.map_set]),by rw[lKq];exact h2,fun r es' hr he'=> ?_,(h4.trans s2).over hp⟩
   rcases lQl (lKo hr) with h | rfl
   ·rw[lJ3 (fun e=> ?_)]
    ·exact h3 r es' h he'
    ·have:=kUk t ((jQb hx).trans e)
     omega
   ·rw[he] at he';cases he'
    rw[jQb hx,lJ6 (by rw[h2];exact hxl)]
 ·intro τ G1 h_;apply xe3 h_;clear h_;intro v3 v4 V h_;apply ae4 h_;clear h_;intro h1 h2 h3 h4
  wp_walk using 1,tSeq
  refine⟨_,jJm h1,?_⟩
  rw[jKj,lJc] at h3
  exact kk V G1 ⟨h2,fun r es he=>h3 r es (lJb.mp he).1 he⟩ h4
theorem rng_ints {n:Nat}:rngT 0 n=jJl (List.range n):=by
 unfold rngT jJl
 apply lKl
 intro x _
 show T.int (0+(x:Int))=_
 rw[Int.zero_add]
theorem keys_ints {F:List Nat} {kvs:List (L2.Key×T)} (h:kvs.map Prod.fst=F.map keyN):(kvs.map fun kv=>kT kv.1)=jJl F:=by
 have:(kvs.map fun kv=>kT kv.1)=(kvs.map Prod.fst).map kT:=by rw[lJj];rfl
 rw[this,h,lJj];rfl
noncomputable def jKo:Sp3:=fun xs G Q=>∃(W:Web) (r:Nat),xs=[encW W,.int r]/\AnyWeb W/\r<W.length/\∀G',Sub G G'->Q (encW (tf W r)) G'
noncomputable def kKq:List Str:=["web","room","numbers","number","come_to"]
noncomputable def jVi:TS3:=
 (tSeq (tAsg (jU3 (jJc (tCB rLen (jJc (tVar 0) tNil)) tNil)) (jJj 2))
 (tSeq (tFor (kKg (jJc (tCB rListD (jJc (jJy jJ4 (jJc (tVar 0) (jJc (tVar 1) tNil))) tNil)) tNil)) (gTup 2 (jKg (jJj 3) (jKg (jJj 4) gNil))) (tAsg (tVar 3) (gSub (tVar 2) (tVar 4) jVz)))
 (tRet (jJy jKb (jJc (tVar 0) (jJc (tCB jJ9 (jJc (tVar 2) tNil)) tNil))))))
theorem kKx:∀xs G Q,jKo xs G Q->jVi {nx:=fun _ G'=>Q .non G',rt:=Q} (jJk kKq xs) G:=by
 intro xs G Q h_;apply xe2 h_;clear h_;intro W r h_;apply ae3 h_;clear h_;intro any hr kk
 rw[show jJk kKq [encW W,.int r]=[some (.tup (W.map encR)),some (.int r),none,none,none] from rfl]
 have hs:=sz
 have hW2:=any.len
 have o:=any.order hr
 have ol:=o.len
 wp_walk using 1,jVi,jU3,jJ5,kKg,rListD,lJc
 refine⟨by omega,by omega,fun q hq=> ?_⟩
 refine⟨W,r,rfl,any.fine,hr,fun d G1 kvs hd hd1 hk s1=> ?_⟩
 have hq1:=s1 _ _ (jJi (G:=G) (a:=q) (o:= .lst (rngT 0 ((W.length:Nat):Int).toNat)))
 rw[show ((W.length:Nat):Int).toNat=W.length by omega,rng_ints] at hq1
 refine⟨d,rfl,kvs,hd1,fun u hu=> ?_⟩
 rw[keys_ints hk]
 have hqu:q≠u:=jJh hq1 hu
 refine⟨jJl (bfs W r),by simp only[jXf,jJi];rfl,?_⟩
 refine⟨fun i τ G'=>∃(v3 v4:Option T) (N:List Nat),τ=[some (.tup (W.map encR)),some (.int r),some (.ref q),v3,v4]/\G' q=some (.lst (jJl N))/\G' u=some (.lst (jJl (bfs W r)))/\N.length=W.length/\(∀i' x,i'<i->(bfs W r)[i']? =some x->N[x]? =some i')/\Sub G G',?_,?_,?_,?_⟩
 ·exact⟨none,none,List.range W.length,rfl,by rw[jJu hqu];exact hq1,jJi,by simp,fun i' x h=>absurd h (lJ0 _),((Sub.new hq).trans s1).trans (.new hu)⟩
 ·intro i τ G' hi h_;apply xe3 h_;clear h_;intro v3 v4 N h_;apply ae5 h_;clear h_;intro h1 h2 h3 h4 h5
  simp only[jXf,h2];rfl
 ·intro i y τ G2 hy h_;apply xe3 h_;clear h_;intro v3 v4 N h_;apply ae5 h_;clear h_;intro h1 h2 h3 h4 h5
  obtain⟨z,hz,rfl⟩:=kUj hy
  obtain⟨x,hx,rfl⟩:=jKm hz
  have hxl:=o.lt x (lJf hx)
  wp_walk using 1,setR_m h1
  rw[kKe (show x<(jJl N).length by simp[jJl,h3,hxl])]
  refine⟨_,rfl,N.set x i,(by show gup _ _ _ _=_;rw[jJi];simp[jJl]),(by show gup _ _ _ _=_;rw[jJu hqu.symm];exact h2),by rw[lKq];exact h3,fun i' x' hi' hx'=> ?_,h5.over hq⟩
  rcases lQl (lKo hi') with h | rfl
  ·rw[lJ3 (fun e=> ?_)]
   ·exact h4 i' x' h hx'
   ·subst e
    have:=(lKm (lJb.mp hx).1 o.nd).mp (hx.trans hx'.symm)
    omega
  ·rw[hx] at hx';cases hx'
   rw[lJ6 (by rw[h3];exact hxl)]
 ·intro τ G2 h_;apply xe3 h_;clear h_;intro v3 v4 N h_;apply ae5 h_;clear h_;intro h1 h2 h3 h4 h5
  wp_walk using 1,tSeq
  refine⟨_,jJm h1,?_⟩
  have hN:N=inv W.length (bfs W r):=by
   apply lJx
   intro x
   rcases lJ5 x W.length with hx | hx
   ·obtain⟨e1,e2⟩:=o.idx hx
    rw[inv_at hx,h4 _ x (by rw[jKj];simp[jJl];rw[ol];exact e2) e1]
   ·rw[lJk (by omega),lJk (by simp[inv];exact hx)]
  refine⟨W,N,rfl,any.fine,by rw[hN];exact o.turn,fun V G3 ren s3=> ?_⟩
  rw[hN] at ren
  rw[Ren.unique o.turn ren (tf_is any.fine o)]
  exact kk G3 (h5.trans s3)
noncomputable def renW (W:Web) (nu:List Nat):Web:=(List.range W.length).map fun i=>renE nu (row W (nu.idxOf i))
theorem renW_ok {W:Web} {nu:List Nat} (t:Turn W.length nu):Ren W nu (renW W nu):=by
 refine⟨by simp[renW],fun r es hr=> ?_⟩
 have hrl:=(lJb.mp hr).1
 obtain⟨x,hx,hxl⟩:=t.at hrl
 have hi:=lKd (lJf hx)
 have e1:nu[nu.idxOf x]? =some x:=by rw[lJa hi,lKu]
 have e2:nu.idxOf x=r:=(lKm hi t.nd).mp (e1.trans hx.symm)
 rw[jQb hx]
 unfold renW
 rw[lJe,lJw hxl]
 show some (renE nu (row W (nu.idxOf x)))=_
 rw[e2,jQl hr]
theorem made_is {W V:Web} {nu:List Nat} {ms:List T} (t:Turn W.length nu) (h:Ren W nu V) (hl:ms.length=W.length) (hm:∀(r:Nat) (es:List (Nat×Nat)),r<W.length->W[r]? =some es->ms[nuF nu r]? =some (encR (renE nu es))):ms=V.map encR:=by
 apply lJx
 intro i
 rcases lJ5 i W.length with hi | hi
 ·obtain⟨x,hx,rfl⟩:=jVo t hi
  have hW:W[x]? =some W[x]:=lJa hx
  rw[hm x _ hx hW,lJe,h.at' x _ hW];rfl
 ·rw[lJk (by omega),lJk (by rw[lJc,h.len];exact hi)]
noncomputable def jKe:Sp3:=fun xs G Q=>∃(b:Addr) (W:Web) (n:Nat),xs=[.ref b,encW W]/\BoxAt G b n/\n+1000<2^40/\AnyWeb W/\∀nu V G',Turn W.length nu->Ren W nu V->BoxAt G' b (n+W.length)->Keep b G G'->Q (.tup [encW V,.tup (jJl nu)]) G'
noncomputable def kKs:List Str:=["_law_box_here","_law_web_here","_law_numbers","_law_made","_law_room","_law_other","_law_door"]
noncomputable def jVk:TS3:=
 (tSeq (tAsg (jJy jK9 (jJc (tVar 0) (jJc (tCB rLen (jJc (tVar 1) tNil)) (jJc (tC (.bl false)) tNil)))) (jJj 2))
 (tSeq (tAsg (tOp jXm (tLst (jJc (tC .non) tNil)) (tCB rLen (jJc (tVar 1) tNil))) (jJj 3))
 (tSeq (tFor (jKt (jJc (tCB rLen (jJc (tVar 1) tNil)) tNil)) (jJj 4) (tAsg (tCB jJ9 (jJc (jQ5 [false,false,false,false,false,true,true] (iSeq (tOp rIxF (tVar 1) (tVar 4))) (gTup 2 (jKg (jJj 5) (jKg (jJj 6) gNil))) jUh (tTup (jJc (tOp rIxF (tVar 2) (tVar 5)) (jJc (tVar 6) tNil)))) tNil)) (gSub (tVar 3) (tOp rIxF (tVar 2) (tVar 4)) jVz)))
 (tRet (tTup (jJc (tCB jJ9 (jJc (tVar 3) tNil)) (jJc (tVar 2) tNil)))))))
theorem kKz:∀xs G Q,jKe xs G Q->jVk {nx:=fun _ G'=>Q .non G',rt:=Q} (jJk kKs xs) G:=by
 intro xs G Q h_;apply xe3 h_;clear h_;intro b W n h_;apply ae4 h_;clear h_;intro hb hn any kk
 rw[show jJk kKs [.ref b,encW W]=[some (.ref b),some (.tup (W.map encR)),none,none,none,none,none] from rfl]
 have hs:=sz
 have hW1:=any.pos
 have hW2:=any.len
 have fine:=any.fine
 wp_walk using 1,jVk,jJ5,jKt,lJc
 refine⟨b,W.length,n,false,rfl,hb,by omega,hW1,by omega,fun nu G1 t _ b1 k1=> ?_⟩
 obtain⟨bo,hbo⟩:=b1.some
 wp_walk using 1,lJc
 refine⟨by omega,fun z hz=> ?_⟩
 have e1:mulR (gup G1 z (GO.lst [T.non])) (.ref z) (.int (W.length:Nat))=some (.newL (List.replicate W.length T.non)):=by
  simp only[mulR,jJi];rw[if_pos]
  ·congr 2
   rw[show ((W.length:Nat):Int).toNat=W.length by omega]
   induction W.length with
   | zero=>rfl
   | succ n ih=>rw[lKr,lQb,ih,lKr];rfl
  ·refine⟨?_,?_,?_⟩<;>simp<;>omega
 refine⟨_,e1,?_⟩
 rw[fin_new]
 intro p hp
 have hbz:b≠z:=jJh hbo hz
 have hzp:z≠p:=jJh (jJi (G:=G1) (a:=z) (o:= .lst [T.non])) hp
 have hp1:G1 p=none:=by rw[jJu hzp.symm] at hp;exact hp
 have hbp:b≠p:=jJh hbo hp1
 have hpG:G p=none:=k1.none hbp.symm hp1
 refine⟨by omega,by omega,?_⟩
 refine⟨fun k τ G'=>∃(v4 v5 v6:Option T) (ms:List T),τ=[some (.ref b),some (.tup (W.map encR)),some (.tup (jJl nu)),some (.ref p),v4,v5,v6]/\G' p=some (.lst ms)/\ms.length=W.length/\(∀(r:Nat) (es:List (Nat×Nat)),r<k->W[r]? =some es->ms[nuF nu r]? =some (encR (renE nu es)))/\Sub G1 G',?_,?_,?_,?_⟩
 ·exact⟨none,none,none,_,rfl,jJi,by simp,fun r es h=>absurd h (lJ0 _),(Sub.new hz).trans (.new hp)⟩
 ·intros;trivial
 ·intro k y τ G2 hy h_;apply xe4 h_;clear h_;intro v4 v5 v6 ms h_;apply ae4 h_;clear h_;intro h1 h2 h3 h4
  obtain⟨hk,rfl⟩:=jUv hy
  have hk':k<W.length:=by omega
  have he:W[k]? =some W[k]:=lJa hk'
  generalize W[k]=es at he
  have hel:=any.deg k es he
  obtain⟨x,hx,hxl⟩:=t.at hk'
  wp_walk using 1,iSeq,jXs he,encR
  refine jKd (fun e=>encE (nuF nu e.1,e.2)) (by omega) (fun _ _=>trivial) ?_ ?_
  ·intro i e hi G3 K K0 s hK
   have hex:=fine.rng k i e.1 e.2 (jQq he hi)
   obtain⟨y,hy,_⟩:=t.at hex
   wp_walk using 1,encE,jXv hy
   rw[encE,jQb hy] at hK
   exact⟨by omega,hK G3 (.refl _)⟩
  ·intro D G3 hD q1 q2
   refine⟨_,jJm q1,?_⟩
   have hp3:=q2 _ _ h1
   wp_walk using 1,jXv hx,setR_m hp3
   rw[kKe (show x<ms.length by rw[h2];exact hxl)]
   refine⟨_,rfl,ms.set x (encR (renE nu es)),(by show gup _ _ _ _=_;rw[jJi,encR,renE,lJj];rfl),by rw[lKq];exact h2,fun r es' hr he'=> ?_,(h4.trans q2).over hp1⟩
   rcases lQl (lKo hr) with h | rfl
   ·rw[lJ3 (fun e=> ?_)]
    ·exact h3 r es' h he'
    ·have:=kUk t ((jQb hx).trans e)
     omega
   ·rw[he] at he';cases he'
    rw[jQb hx,lJ6 (by rw[h2];exact hxl)];rfl
 ·intro τ G2 h_;apply xe4 h_;clear h_;intro v4 v5 v6 ms h_;apply ae4 h_;clear h_;intro h1 h2 h3 h4
  wp_walk using 1,tSeq
  refine⟨_,jJm h1,by omega,?_⟩
  rw[made_is t (renW_ok t) h2 fun r es hr=>h3 r es (by rw[rngT,lJc,lJ1];omega)]
  exact kk nu (renW W nu) G2 t (renW_ok t) (b1.sub h4) (k1.trans (.sub h4))
theorem flat_intsN {F:List Nat}:(jJl F).all jXj=true:=jXq
theorem idx_fstN:∀ {F:List Nat} {x m y:Nat},m<F.idxOf x->F[m]? =some y->y≠x
 | [],_,_,_,_,e=>by simp at e
 | a::F,x,m,y,hm,h=>by
  rw[List.idxOf_cons] at hm
  by_cases e:a=x
  ·subst e;simp at hm
  ·rw[beq_eq_false_iff_ne.mpr e] at hm
   cases m with
   | zero=>cases h;exact e
   | succ m=>
    have hm':m<F.idxOf x:=by simp only[cond_false] at hm;omega
    exact idx_fstN hm' h
noncomputable def jQj:Sp3:=fun xs G Q=>∃(W:Web) (r:Nat),xs=[encW W,.int r]/\AnyWeb W/\r<W.length/\∀G',Sub G G'->Q (encW (tf W r)) G'
noncomputable def N_l_from:List Str:=["_law_web_here","_law_room","_law_order","_law_spot","_law_other","_law_door"]
noncomputable def jY0:TS3:=
 (tSeq (tAsg (jJy jKa (jJc (tVar 0) (jJc (tVar 1) tNil))) (jJj 2))
 (tRet (tCB jJ9 (jJc (jQ5 [false,false,false,true,false,false] (iSeq (tVar 2)) (jJj 3) jUh (tCB jJ9 (jJc (jQ5 [false,false,false,false,true,true] (iSeq (tOp rIxF (tVar 0) (tVar 3))) (gTup 2 (jKg (jJj 4) (jKg (jJj 5) gNil))) jUh (tTup (jJc (tBM "list" kQh (tVar 2) (jJc (tVar 4) tNil)) (jJc (tVar 5) tNil)))) tNil))) tNil))))
theorem rdok_l_from:∀xs G Q,jQj xs G Q->jY0 {nx:=fun _ G'=>Q .non G',rt:=Q} (jJk N_l_from xs) G:=by
 intro xs G Q h_;apply xe2 h_;clear h_;intro W r h_;apply ae3 h_;clear h_;intro any hr kk
 rw[show jJk N_l_from [encW W,.int r]=[some (.tup (W.map encR)),some (.int r),none,none,none,none] from rfl]
 have hs:=sz
 have hW2:=any.len
 have fine:=any.fine
 have o:=any.order hr
 have ol:=o.len
 wp_walk using 1,jY0,iSeq
 refine⟨W,r,rfl,fine,hr,fun p G1 F hp hp1 _ hF s1=> ?_⟩
 subst hF
 wp_walk using 1,tSeq
 refine⟨_,jJm hp1,?_⟩
 refine jKd (fun s=>encR ((row W s).map fun e=>((bfs W r).idxOf e.1,e.2))) (by rw[ol];omega) (fun G' s=>jJm (s _ _ hp1)) ?_ ?_
 ·intro i s hi G2 K K0 s2 hk
  have hsW:=o.lt s (lJf hi)
  have hW:W[s]? =some W[s]:=lJa hsW
  generalize W[s]=es at hW
  have hel:=any.deg s es hW
  wp_walk using 1,iSeq,jXs hW,encR
  refine jKd (fun e=>encE ((bfs W r).idxOf e.1,e.2)) (by omega) (fun _ _=>trivial) ?_ ?_
  ·intro j e he G3 K' K0' s3 hk'
   have hp3:=s3 _ _ (s2 _ _ hp1)
   have hex:=fine.rng s j e.1 e.2 (jQq hW he)
   obtain⟨i1,i2⟩:=o.idx hex
   wp_walk using 1,encE,jK0 hp3
   refine⟨p,jJl (bfs W r),.int e.1,.int e.1,(bfs W r).idxOf e.1,rfl,rfl,hp3,rfl,flat_intsN,by simp[jJl,i1],by simp[eqT],fun m t hm ht=> ?_,?_⟩
   ·obtain⟨y,hy,rfl⟩:=jKm ht
    have:=idx_fstN hm hy
    simp only[eqT]
    exact beq_eq_false_iff_ne.mpr (by omega)
   ·exact⟨by omega,hk' G3 (.refl _)⟩
  ·intro D G3 hD h1 h2
   refine⟨_,jJm h1,?_⟩
   have:=hk G3 h2
   rw[jQl hW,encR,lJj] at this
   exact this
 ·intro D G2 hD h1 h2
  refine⟨_,jJm h1,?_⟩
  have:=kk G2 (s1.trans h2)
  rw[encW,tf,lJj] at this
  exact this
section
variable {κ:Type} [DecidableEq κ]
noncomputable def fst1 (F:List κ) (x:κ):List κ:=if x∈F then F else F++[x]
noncomputable def jJo (ls:List κ):List κ:=ls.foldl fst1 []
noncomputable def ix1 (F:List κ) (x:κ):Nat:=F.idxOf x
noncomputable def num (ls:List κ):List Nat:=ls.map fun x=>(jJo ls).idxOf x
theorem fst1_mem {F:List κ} {x y:κ}:y∈fst1 F x↔y∈F\/y=x:=by
 unfold fst1
 split
 ·rename_i h
  constructor
  ·exact .inl
  ·rintro (z | rfl)
   ·exact z
   ·exact h
 ·simp
theorem fst1_nd {F:List κ} {x:κ} (h:F.Nodup):(fst1 F x).Nodup:=by
 unfold fst1
 split
 ·exact h
 ·rename_i hx
  rw[lQd]
  refine⟨h,by simp,fun a ha b hb=> ?_⟩
  have:b=x:=by simpa using hb
  subst this;rintro rfl;exact hx ha
theorem fst1_app {F:List κ} {x:κ}:∃E,fst1 F x=F++E:=by
 unfold fst1
 split
 ·exact⟨[],by simp⟩
 ·exact⟨[x],rfl⟩
theorem fold_app:∀(ls F:List κ),∃E,ls.foldl fst1 F=F++E
 | [],F=>⟨[],by simp⟩
 | x::ls,F=>by
  obtain⟨E,e⟩:=fst1_app (F:=F) (x:=x)
  obtain⟨E',e'⟩:=fold_app ls (fst1 F x)
  exact⟨E++E',by rw[lQi,e',e,lQp]⟩
theorem fold_mem:∀(ls F:List κ) {y:κ},y∈ls.foldl fst1 F↔y∈F\/y∈ls
 | [],F,y=>by simp
 | x::ls,F,y=>by
  rw[lQi,fold_mem ls,fst1_mem,lJi,or_assoc]
theorem fold_nd:∀(ls F:List κ),F.Nodup->(ls.foldl fst1 F).Nodup
 | [],F,h=>h
 | x::ls,F,h=>fold_nd ls _ (fst1_nd h)
theorem firsts_mem {ls:List κ} {y:κ}:y∈jJo ls↔y∈ls:=by
 unfold jJo;rw[fold_mem];simp
theorem jXr (ls:List κ):(jJo ls).Nodup:=fold_nd ls [] lQj
theorem jVd {ls:List κ} {k:Nat} {x:κ} (h:ls[k]? =some x):jJo (ls.take (k+1))=fst1 (jJo (ls.take k)) x:=by
 unfold jJo
 rw[lKz,h,List.foldl_append];rfl
theorem kQq (ls:List κ) (k:Nat):∃E,jJo ls=jJo (ls.take k)++E:=by
 unfold jJo
 obtain⟨E,e⟩:=fold_app (ls.drop k) ((ls.take k).foldl fst1 [])
 refine⟨E,?_⟩
 rw[<-e,<-List.foldl_append,List.take_append_drop]
theorem idx_pre {F E:List κ} {x:κ} (h:x∈F):(F++E).idxOf x=F.idxOf x:=by rw[List.idxOf_append,if_pos h]
theorem kJ7 {ls:List κ}:(num ls).length=ls.length:=by simp[num]
theorem jQr {ls:List κ} {k:Nat} {x:κ} (h:ls[k]? =some x):(num ls)[k]? =some ((jJo ls).idxOf x):=by simp[num,h]
theorem jVp {F:List κ} {x y:κ} (hx:x∈F) (h:F.idxOf x=F.idxOf y):x=y:=by
 have h1:=lKd hx
 have h2:F.idxOf y<F.length:=by rw[<-h];exact h1
 have e1:F[F.idxOf x]=x:=lKu h1
 have e2:F[F.idxOf y]=y:=lKu h2
 rw[<-e1,<-e2];congr 1
theorem num_inj {ls:List κ} {a b:Nat} {x y:κ} (ha:ls[a]? =some x) (hb:ls[b]? =some y) (h:(num ls)[a]? =(num ls)[b]?):x=y:=by
 rw[jQr ha,jQr hb] at h
 exact jVp (firsts_mem.mpr (lJf ha)) (lJr h)
theorem jXo {μ:Type} [DecidableEq μ] {f:κ->μ} {ls:List κ} (hf:∀x y,x∈ls->y∈ls->f x=f y->x=y):num (ls.map f)=num ls:=by
 have key:∀(ms F:List κ),(∀x,x∈ms->x∈ls)->(∀x,x∈F->x∈ls)->(ms.map f).foldl fst1 (F.map f)=(ms.foldl fst1 F).map f:=by
  intro ms
  induction ms with
  | nil=>intro F _ _;rfl
  | cons m ms ih=>
   intro F h1 h2
   rw[lJh,lQi,lQi]
   have hm:=h1 m lJq
   have e:fst1 (F.map f) (f m)=(fst1 F m).map f:=by
    unfold fst1
    by_cases h:m∈F
    ·rw[if_pos h,if_pos (lJg.mpr ⟨m,h,rfl⟩)]
    ·rw[if_neg h,if_neg,lKg];rfl
     intro z
     obtain⟨y,hy,e⟩:=lJg.mp z
     rw[hf y m (h2 y hy) hm e] at hy
     exact h hy
   rw[e]
   refine ih _ (fun x hx=>h1 x (lJs _ hx)) fun x hx=> ?_
   rcases fst1_mem.mp hx with z | rfl
   ·exact h2 x z
   ·exact hm
 have e:=key ls [] (fun _ h=>h) (by simp)
 have ef:jJo (ls.map f)=(jJo ls).map f:=e
 unfold num
 rw[lJj]
 apply lKl
 intro x hx
 show (jJo (ls.map f)).idxOf (f x)=_
 rw[ef]
 have idx:∀F:List κ,(∀y,y∈F->y∈ls)->(F.map f).idxOf (f x)=F.idxOf x:=by
  intro F
  induction F with
  | nil=>intro _;rfl
  | cons a F ih=>
   intro hF
   rw[lJh,List.idxOf_cons,List.idxOf_cons,ih fun y hy=>hF y (lJs _ hy)]
   by_cases h:a=x
   ·subst h;simp only[beq_self_eq_true]
   ·have:¬ f a=f x:=fun z=>h (hf a x (hF a lJq) hx z)
    rw[beq_eq_false_iff_ne.mpr this,beq_eq_false_iff_ne.mpr h]
 exact idx _ fun y hy=>firsts_mem.mp hy
def Canon (m:List Nat):Prop:=∀(k v:Nat),m[k]? =some v->∀n,n<v->∃i,i<k/\m[i]? =some n
theorem num_canon (ls:List κ):Canon (num ls):=by
 intro k v hk n hn
 have hkl:k<ls.length:=by have:=(lJb.mp hk).1;rwa [kJ7] at this
 have hx:ls[k]? =some ls[k]:=lJa hkl
 rw[jQr hx] at hk;cases hk
 obtain⟨E,e⟩:=kQq ls (k+1)
 have hxm:ls[k]∈jJo (ls.take (k+1)):=by
  rw[firsts_mem];exact lJf (i:=k) (by rw[List.getElem?_take];simp[hkl])
 rw[e,idx_pre hxm] at hn
 obtain⟨E',e'⟩:∃E',jJo (ls.take (k+1))=jJo (ls.take k)++E'/\(E'=[]\/E'=[ls[k]]):=by
  rw[jVd hx]
  unfold fst1
  split
  ·exact⟨[],by simp,.inl rfl⟩
  ·exact⟨[ls[k]],rfl,.inr rfl⟩
 have hnl:n<(jJo (ls.take k)).length:=by
  rcases e'.2 with z | z
  ·have:=lKd hxm
   rw[e'.1,z,lQg] at this hn
   omega
  ·by_cases hm:ls[k]∈jJo (ls.take k)
   ·rw[e'.1,idx_pre hm] at hn
    have:=lKd hm
    omega
   ·rw[e'.1,z] at hn
    have:(jJo (ls.take k)++[ls[k]]).idxOf ls[k]<=(jJo (ls.take k)).length:=by
     rw[List.idxOf_append]
     simp[hm]
    omega
 have hy:(jJo (ls.take k))[n]? =some (jJo (ls.take k))[n]:=lJa hnl
 generalize (jJo (ls.take k))[n]=y at hy
 have hym:y∈ls.take k:=firsts_mem.mp (lJf hy)
 obtain⟨i,hi⟩:=lJm hym
 have hik:i<k:=by have:=(lJb.mp hi).1;simp at this;omega
 have hiy:ls[i]? =some y:=by rw[List.getElem?_take] at hi;simpa[hik] using hi
 refine⟨i,hik,?_⟩
 rw[jQr hiy]
 congr 1
 obtain⟨E2,e2⟩:=kQq ls k
 rw[e2,idx_pre (lJf hy)]
 have hnd:(jJo (ls.take k)).Nodup:=jXr _
 have hi1:=lKd (lJf hy)
 have e1:(jJo (ls.take k))[(jJo (ls.take k)).idxOf y]? =some y:=by rw[lJa hi1,lKu]
 exact (lKm hi1 hnd).mp (e1.trans hy.symm)
end
noncomputable def tups (W:Web) (m:List Nat):List (List (Nat×Nat)):=W.map fun es=>es.map fun e=>(e.2,m.getD e.1 0)
noncomputable def marks (W:Web):Nat->List Nat
 | 0=>num (W.map List.length)
 | k+1=>num (tups W (marks W k))
theorem jJ0 {W:Web}:∀k,(marks W k).length=W.length
 | 0=>by simp[marks,num]
 | k+1=>by simp[marks,num,tups]
theorem jZu {W:Web} {k:Nat} (h:marks W (k+1)=marks W k):∀j,marks W (k+j)=marks W k
 | 0=>rfl
 | j+1=>by
  show num (tups W (marks W (k+j)))=_
  rw[jZu h j]
  exact h
theorem jK7 {W:Web} {m:List Nat} {r:Nat} {es:List (Nat×Nat)} (h:W[r]? =some es):(tups W m)[r]? =some (es.map fun e=>(e.2,m.getD e.1 0)):=by simp[tups,h]
theorem finer {W:Web} (f:Fine W):∀(k a b:Nat) (es fs:List (Nat×Nat)),W[a]? =some es->W[b]? =some fs->(es.map fun e=>(e.2,(marks W k).getD e.1 0))=(fs.map fun e=>(e.2,(marks W k).getD e.1 0))->(marks W k)[a]? =(marks W k)[b]?
 | 0,a,b,es,fs,ha,hb,h=>by
  have hl:=congrArg List.length h
  simp at hl
  have h1:(W.map List.length)[a]? =some es.length:=by simp[ha]
  have h2:(W.map List.length)[b]? =some fs.length:=by simp[hb]
  show (num _)[a]? =(num _)[b]?
  rw[jQr h1,jQr h2,hl]
 | k+1,a,b,es,fs,ha,hb,h=>by
  show (num _)[a]? =(num _)[b]?
  rw[jQr (jK7 ha),jQr (jK7 hb)]
  congr 2
  apply lJx
  intro i
  have hi:=congrArg (fun l=>l[i]?) h
  simp only[lJe] at hi ⊢
  cases e1:es[i]? with
  | none=>
   rw[e1] at hi
   cases e2:fs[i]? with
   | none=>rfl
   | some q=>rw[e2] at hi;cases hi
  | some p=>
   rw[e1] at hi
   cases e2:fs[i]? with
   | none=>rw[e2] at hi;cases hi
   | some q=>
    rw[e2] at hi
    simp only[lJ9,lQm,Prod.mk.injEq] at hi ⊢
    refine⟨hi.1,?_⟩
    have hp:=f.rng a i p.1 p.2 (jQq ha e1)
    have hq:=f.rng b i q.1 q.2 (jQq hb e2)
    have gd:∀(k x:Nat),x<W.length->(marks W k)[x]? =some ((marks W k).getD x 0):=fun k x hx=>by
     have:x<(marks W k).length:=by rw[jJ0];exact hx
     simp[List.getD,lJa this]
    have hWp:W[p.1]? =some W[p.1]:=lJa hp
    have hWq:W[q.1]? =some W[q.1]:=lJa hq
    have same:(num (tups W (marks W k)))[p.1]? =(num (tups W (marks W k)))[q.1]? :=by
     have g1:=gd (k+1) p.1 hp
     have g2:=gd (k+1) q.1 hq
     show (marks W (k+1))[p.1]? =(marks W (k+1))[q.1]?
     rw[g1,g2,hi.2]
    have:=finer f k p.1 q.1 _ _ hWp hWq (num_inj (jK7 hWp) (jK7 hWq) same)
    rw[gd k p.1 hp,gd k q.1 hq] at this
    exact lJr this
section
variable {κ K:Type} [DecidableEq κ] [DecidableEq K]
noncomputable def dkvN (key:κ->K):Nat->List κ->List (K×T)
 | _,[]=>[]
 | n,x::F=>(key x,T.int (n:Nat))::dkvN key (n+1) F
noncomputable def dkv (key:κ->K) (F:List κ):List (K×T):=dkvN key 0 F
theorem dkvN_app (key:κ->K) (x:κ):∀(F:List κ) (n:Nat),dkvN key n (F++[x])=dkvN key n F++[(key x,T.int ((n+F.length:Nat)))]
 | [],n=>rfl
 | y::F,n=>by
  rw[List.cons_append,dkvN,dkvN_app key x F,dkvN,List.cons_append,lJy,show n+1+F.length=n+(F.length+1) by omega]
theorem dkv_app (key:κ->K) (x:κ) (F:List κ):dkv key (F++[x])=dkv key F++[(key x,T.int (F.length:Nat))]:=by
 unfold dkv;rw[dkvN_app,Nat.zero_add]
theorem dkvN_len (key:κ->K):∀(F:List κ) (n:Nat),(dkvN key n F).length=F.length
 | [],_=>rfl
 | _::F,n=>by rw[dkvN,lJy,dkvN_len key F,lJy]
theorem dkv_len {key:κ->K} {F:List κ}:(dkv key F).length=F.length:=dkvN_len key F 0
theorem dkvN_val {key:κ->K} (hk:∀x y,key x=key y->x=y) (x:κ):∀(F:List κ) (n:Nat),valT (dkvN key n F) (key x)=if x∈F then some (T.int ((n+F.idxOf x:Nat))) else none
 | [],_=>by simp[dkvN,valT]
 | y::F,n=>by
  have ih:=dkvN_val hk x F (n+1)
  unfold valT at ih ⊢
  rw[dkvN,lKs]
  by_cases h:y=x
  ·subst h
   simp
  ·have h1:decide (key y=key x)=false:=decide_eq_false fun e=>h (hk y x e)
   simp only[h1]
   rw[ih,List.idxOf_cons,beq_eq_false_iff_ne.mpr h]
   have h2:(x∈y::F)↔x∈F:=by
    rw[lJi]
    exact⟨fun z=>z.resolve_left fun e=>h e.symm,.inr⟩
   by_cases hx:x∈F
   ·rw[if_pos hx,if_pos (h2.mpr hx)]
    simp only[cond_false]
    congr 3;omega
   ·rw[if_neg hx,if_neg fun z=>hx (h2.mp z)]
theorem dkv_val {key:κ->K} (hk:∀x y,key x=key y->x=y) {x:κ} {F:List κ}:valT (dkv key F) (key x)=if x∈F then some (T.int (F.idxOf x:Nat)) else none:=by
 unfold dkv;rw[dkvN_val hk,Nat.zero_add]
theorem putT_none {kvs:List (K×T)} {k:K} {v:T} (h:valT kvs k=none):putT kvs k v=kvs++[(k,v)]:=by
 unfold putT
 rw[if_neg]
 intro z
 rw[List.any_eq_true] at z
 obtain⟨p,hp,e⟩:=z
 unfold valT at h
 rw[Option.map_eq_none_iff,List.find?_eq_none] at h
 exact h p hp e
theorem dkv_put {key:κ->K} (hk:∀x y,key x=key y->x=y) {x:κ} {F:List κ} (h:x∉F):putT (dkv key F) (key x) (T.int (F.length:Nat))=dkv key (fst1 F x):=by
 rw[putT_none (by rw[dkv_val hk,if_neg h]),fst1,if_neg h,dkv_app]
structure Dic (mk:List (K×T)->GO) (key:κ->K) (enc:κ->T):Prop where
 inj:∀x y,key x=key y->x=y
 has:∀(G:Gp) d kvs x,G d=some (mk kvs)->inR G (enc x) (.ref d)=some (valT kvs (key x)).isSome
 put:∀(G:Gp) d kvs x v,G d=some (mk kvs)->kvs.length<sizeLine->setR G (.ref d) (enc x) v=some (gup G d (mk (putT kvs (key x) v)))
 get:∀(G:Gp) d kvs x,G d=some (mk kvs)->ixR G (.ref d) (enc x)=valT kvs (key x)
 len:∀(G:Gp) d kvs,G d=some (mk kvs)->lenG G (.ref d)=some kvs.length
end
theorem dicN:Dic (fun kvs=> .dck kvs) keyN (fun n:Nat=>T.int n) where
 inj:=fun x y h=>by have:((x:Nat):Int)=(y:Nat):=Sum.inl.inj h;omega
 has:=fun G d kvs x h=>by
  have h1:seqT G (.ref d)=none:=by simp only[seqT,h,asL]
  have h2:dAt G (.ref d) (.int (x:Nat))=some (valT kvs (keyN x)):=by simp only[dAt,h,jV3];rfl
  unfold inR;rw[h1,h2]
 put:=fun G d kvs x v h hz=>setR_dck h hz
 get:=fun G d kvs x h=>by
  have h1:seqT G (.ref d)=none:=by simp only[seqT,h,asL]
  have h2:dAt G (.ref d) (.int (x:Nat))=some (valT kvs (keyN x)):=by simp only[dAt,h,jV3];rfl
  unfold ixR;rw[h1,h2]
 len:=fun G d kvs h=>by simp only[lenG,h]
theorem dicT {κ:Type} [DecidableEq κ] {key:κ->L2.TKey} {enc:κ->List T} (hi:∀x y,key x=key y->x=y) (hk:∀x,jQ9 (enc x)=some (key x)):Dic (fun kvs=> .dct kvs) key (fun x=>T.tup (enc x)) where
 inj:=hi
 has:=fun G d kvs x h=>by
  have h1:seqT G (.ref d)=none:=by simp only[seqT,h,asL]
  have h2:=dAt_dct h (hk x)
  unfold inR;rw[h1,h2]
 put:=fun G d kvs x v h hz=>setR_dct h (hk x) hz
 get:=fun G d kvs x h=>by
  have h1:seqT G (.ref d)=none:=by simp only[seqT,h,asL]
  have h2:=dAt_dct h (hk x)
  unfold ixR;rw[h1,h2]
 len:=fun G d kvs h=>by simp only[lenG,h]
noncomputable def keyP (e:Nat×Nat):L2.K2:= .inr [.inl (.inl (e.1:Nat)),.inl (.inl (e.2:Nat))]
noncomputable def keyR (t:List (Nat×Nat)):L2.TKey:=t.map keyP
theorem keyP_inj {a b:Nat×Nat} (h:keyP a=keyP b):a=b:=by
 have h:=Sum.inr.inj h
 simp only[lK2,Sum.inl.injEq,and_true] at h
 obtain⟨a1,a2⟩:=a;obtain⟨b1,b2⟩:=b
 simp only at h
 rw[show a1=b1 by omega,show a2=b2 by omega]
theorem keyR_inj:∀ {a b:List (Nat×Nat)},keyR a=keyR b->a=b
 | [],[],_=>rfl
 | [],_::_,h=>by simp[keyR] at h
 | _::_,[],h=>by simp[keyR] at h
 | x::a,y::b,h=>by
  simp only[keyR,lJh,lK2] at h
  rw[keyP_inj h.1,keyR_inj (show keyR a=keyR b from h.2)]
theorem keysOf_R:∀t:List (Nat×Nat),jQ9 (t.map encE)=some (keyR t)
 | []=>rfl
 | e::t=>by
  show allK key2 (encE e::t.map encE)=_
  unfold allK
  rw[show allK key2 (t.map encE)=some (keyR t) from keysOf_R t,show key2 (encE e)=some (keyP e) from rfl];rfl
theorem dicR:Dic (fun kvs=> .dct kvs) keyR encR:=dicT (fun _ _ h=>keyR_inj h) keysOf_R
def NumOf (us:List T) (m:List Nat):Prop:=(∃ls:List Nat,us=jJl ls/\ls.length<=1000/\m=num ls)\/∃ls:List (List (Nat×Nat)),us=ls.map encR/\ls.length<=1000/\m=num ls
noncomputable def jKu:Sp3:=fun xs G Q=>∃(p:Addr) (us:List T) (m:List Nat),xs=[.ref p]/\G p=some (.lst us)/\NumOf us m/\∀q G',G q=none->G' q=some (.lst (jJl m))->Sub G G'->Q (.ref q) G'
noncomputable def kQx:List Str:=["looks","numbers","look"]
noncomputable def jXa:TS3:=
 (tSeq (tAsg jZl (jJj 1))
 (tSeq (tFor (iSeq (tVar 0)) (jJj 2) (tIfS (jKw (tOp jUf (tVar 2) (tVar 1))) (tAsg (tCB rLenD (jJc (tVar 1) tNil)) (gSub (tVar 1) (tVar 2) jVz)) jQn))
 (tRet (jQ5 [false,false,true] (iSeq (tVar 0)) (jJj 2) jUh (tOp rIxF (tVar 1) (tVar 2))))))
noncomputable def rd_numB:TS3:=(tSeq (tFor (iSeq (tVar 0)) (jJj 2) (tIfS (jKw (tOp jUf (tVar 2) (tVar 1))) (tAsg (tCB rLenD (jJc (tVar 1) tNil)) (gSub (tVar 1) (tVar 2) jVz)) jQn)) (tRet (jQ5 [false,false,true] (iSeq (tVar 0)) (jJj 2) jUh (tOp rIxF (tVar 1) (tVar 2)))))
theorem jUs {κ:Type} [DecidableEq κ] {ls:List κ}:(jJo ls).length<=ls.length:=by
 have:∀(ms F:List κ),(ms.foldl fst1 F).length<=F.length+ms.length:=by
  intro ms
  induction ms with
  | nil=>intro F;simp
  | cons m ms ih=>
   intro F
   rw[lQi]
   have h1:=ih (fst1 F m)
   have h2:(fst1 F m).length<=F.length+1:=by unfold fst1;split<;>simp
   simp;omega
 have:=this ls []
 simpa[jJo] using this
theorem rdok_numB {κ K:Type} [DecidableEq κ] [DecidableEq K] {mk:List (K×T)->GO} {key:κ->K} {enc:κ->T} (D:Dic mk key enc) {G G1:Gp} {p d:Addr} {ls:List κ} {Q:VK3} (hl:ls.length<=1000) (hd:G d=none) (hp:G1 p=some (.lst (ls.map enc))) (h1:G1 d=some (mk (dkv key ([]:List κ)))) (hs:Sub G G1) (hpd:p≠d)
  (kk:∀q G',G q=none->G' q=some (.lst (jJl (num ls)))->Sub G G'->Q (.ref q) G'):rd_numB {nx:=fun _ G'=>Q .non G',rt:=Q} [some (.ref p),some (.ref d),none] G1:=by
 have hz:=sz
 wp_walk using 1,rd_numB,jJ5,iSeq
 refine⟨_,jJm hp,?_⟩
 refine⟨fun i τ G'=>∃v2:Option T,τ=[some (.ref p),some (.ref d),v2]/\G' p=some (.lst (ls.map enc))/\G' d=some (mk (dkv key (jJo (ls.take i))))/\Sub G G',?_,?_,?_,?_⟩
 ·exact⟨none,rfl,hp,by rw[List.take_zero];exact h1,hs⟩
 ·intro i τ G' hi h_;apply xe1 h_;clear h_;intro v2 h_;apply ae3 h_;clear h_;intro i1 i2 i3
  exact jJm i1
 ·intro i y τ G2 hy h_;apply xe1 h_;clear h_;intro v2 h_;apply ae3 h_;clear h_;intro i1 i2 i3
  obtain⟨x,hx,rfl⟩:=jKm hy
  have hfl:(jJo (ls.take i)).length<=1000:=lKb jUs (by rw[lK9];omega)
  wp_walk using 1,jUf,D.has _ _ _ x i2,dkv_val D.inj
  by_cases hm:x∈jJo (ls.take i)
  ·wp_walk using 1,if_pos hm,Option.isSome_some
   refine⟨i1,?_,i3⟩
   rw[jVd hx,fst1,if_pos hm];exact i2
  ·wp_walk using 1,if_neg hm,Option.isSome_none,rLenD,D.len _ _ _ i2
   rw[dkv_len]
   refine⟨_,D.put _ _ _ x _ i2 (by rw[dkv_len];omega),?_,?_,i3.over hd⟩
   ·rw[jJu hpd];exact i1
   ·rw[jJi,dkv_put D.inj hm,jVd hx]
 ·intro τ G2 h_;apply xe1 h_;clear h_;intro v2 h_;apply ae3 h_;clear h_;intro i1 i2 i3
  rw[lJc,lKt] at i2
  wp_walk using 1,iSeq,jJm i1
  refine jKd (es:=ls) (enc:=enc) (fun x=>T.int ((jJo ls).idxOf x:Nat)) (by omega) (fun G' s=>jJm (s _ _ i1)) ?_ ?_
  ·intro i x hx G' K' K0 s hk
   have hm:x∈jJo ls:=firsts_mem.mpr (lJf hx)
   wp_walk using 1,D.get _ _ _ x (s _ _ i2),dkv_val D.inj,if_pos hm
   exact hk G' (.refl _)
  ·intro q G3 hq h3 s3
   refine kk q G3 (jVf i3 hq) ?_ (i3.trans s3)
   rw[h3,num,jJl,lJj];rfl
theorem kUd:∀xs G Q,jKu xs G Q->jXa {nx:=fun _ G'=>Q .non G',rt:=Q} (jJk kQx xs) G:=by
 intro xs G Q h_;apply xe3 h_;clear h_;intro p us m h_;apply ae3 h_;clear h_;intro hp hn kk
 rw[show jJk kQx [.ref p]=[some (.ref p),none,none] from rfl]
 rw[show jXa=tSeq (tAsg jZl (jJj 1)) rd_numB from rfl]
 wp_walk using 1,jZl
 rcases hn with ⟨ls,rfl,hl,rfl⟩ | ⟨ls,rfl,hl,rfl⟩
 ·refine .inr fun d hd=> ?_
  have hpd:p≠d:=jJh hp hd
  exact rdok_numB dicN hl hd (by rw[jJu hpd];exact hp) jJi (.new hd) hpd kk
 ·refine .inl fun d hd=> ?_
  have hpd:p≠d:=jJh hp hd
  exact rdok_numB dicR hl hd (by rw[jJu hpd];exact hp) jJi (.new hd) hpd kk
theorem okI:∀w:List Nat,jUi (jJl w)=true/\PyData.canLayAll0 (tds (jJl w))=true/\PyData.depthAll (tds (jJl w))<=1
 | []=>⟨rfl,by simp[jJl,tds,PyData.canLayAll0],by simp[jJl,tds,PyData.depthAll]⟩
 | a::w=>by
  obtain⟨a1,a2,a3⟩:=okI w
  refine⟨?_,?_,?_⟩
  ·show (tree (.int a)&&jUi (jJl w))=true;rw[a1];rfl
  ·show PyData.canLayAll0 (td (.int a)::tds (jJl w))=true;rw[PyData.canLayAll0,a2];rfl
  ·show PyData.depthAll (td (.int a)::tds (jJl w))<=1;rw[PyData.depthAll];simp[td,PyData.depth];exact a3
theorem eqTs_ints:∀a b:List Nat,eqTs (jJl a) (jJl b)=decide (a=b)
 | [],[]=>rfl
 | [],_::_=>rfl
 | _::_,[]=>rfl
 | x::a,y::b=>by
  show (eqT (.int x) (.int y)&&eqTs (jJl a) (jJl b))=_
  rw[eqTs_ints a b]
  by_cases h:x=y
  ·subst h
   by_cases h2:a=b
   ·subst h2;simp[eqT]
   ·simp[eqT,h2]
  ·have:¬ (x:Int)=y:=by omega
   simp[eqT,h,this]
theorem eqG_lists {G:Gp} {p q:Addr} {a b:List Nat} (h1:G p=some (.lst (jJl a))) (h2:G q=some (.lst (jJl b))):eqG G (.ref p) (.ref q)=some (decide (a=b)):=by
 have ok:∀F:List Nat,kUz (jJl F)=true:=by
  intro F
  obtain⟨a1,a2,a3⟩:=okI F
  unfold kUz
  rw[a1,a2,decide_eq_true (show (PyData.list (tds (jJl F))).depth<=50 by rw[PyData.depth];omega)];rfl
 have:eqG G (.ref p) (.ref q)=if kUz (jJl a)=true/\kUz (jJl b)=true then some (eqTs (jJl a) (jJl b)) else none:=by simp only[eqG,h1,h2]
 rw[this,if_pos ⟨ok a,ok b⟩,eqTs_ints]
noncomputable def jJz:Sp3:=fun xs G Q=>∃(W:Web) (n:Nat),xs=[encW W,.int n]/\Fine W/\n<=1000/\∀q G',G q=none->G' q=some (.lst (jJl (marks W n)))->Sub G G'->Q (.ref q) G'
noncomputable def jYk:List Str:=["web","steps","marks","step","finer","ends","end"]
noncomputable def jUe:TS3:=
 (tSeq (tAsg (jJy jKu (jJc (jQ5 [false,false,false,false,false,true,false] (iSeq (tVar 0)) (jJj 5) jUh (tCB rLen (jJc (tVar 5) tNil))) tNil)) (jJj 2))
 (tSeq (tFor (jKt (jJc (tVar 1) tNil)) (jJj 3) (tSeq (tAsg (jJy jKu (jJc (jQ5 [false,false,false,false,false,true,false] (iSeq (tVar 0)) (jJj 5) jUh (tCB jJ9 (jJc (jQ5 [false,false,false,false,false,false,true] (iSeq (tVar 5)) (jJj 6) jUh (tTup (jJc (tOp rIxF (tVar 6) (tC (.int 1))) (jJc (tOp rIxF (tVar 2) (tOp rIxF (tVar 6) (tC (.int 0)))) tNil)))) tNil))) tNil)) (jJj 4))
 (tSeq (tIfS (jKw (tOp rEqA (tVar 4) (tVar 2))) (tRet (tVar 2)) jQn)
 (tAsg (tVar 4) (jJj 2)))))
 (tRet (tVar 2))))
theorem getD_at {m:List Nat} {x:Nat} (h:x<m.length):L2.atI (jJl m) (x:Int)=some (.int (m.getD x 0:Nat)):=by
 rw[atN];simp[jJl,List.getD,lJa h]
theorem jZp:∀xs G Q,jJz xs G Q->jUe {nx:=fun _ G'=>Q .non G',rt:=Q} (jJk jYk xs) G:=by
 intro xs G Q h_;apply xe2 h_;clear h_;intro W n h_;apply ae3 h_;clear h_;intro fine hn kk
 rw[show jJk jYk [encW W,.int n]=[some (.tup (W.map encR)),some (.int n),none,none,none,none,none] from rfl]
 have hs:=sz
 have hl:=fine.len
 wp_walk using 1,jUe,jJ5,jKt,iSeq
 refine jKd (es:=W) (enc:=encR) (fun es=>T.int (es.length:Nat)) (by omega) (fun _ _=>trivial) ?_ ?_
 ·intro i es he G' K K0 s hk
  wp_walk using 1,encR,lJc
  exact hk G' (.refl _)
 ·intro p G1 hp h1 s1
  refine⟨p,_,marks W 0,rfl,h1,.inl ⟨W.map List.length,by simp[jJl,lJj],by simp;omega,rfl⟩,fun q0 G2 hq0 h2 s2=> ?_⟩
  refine⟨by omega,by omega,?_⟩
  rw[show ((n:Nat):Int).toNat=n by omega]
  refine⟨fun k τ G'=>∃(q:Addr) (v3 v4:Option T),τ=[some (.tup (W.map encR)),some (.int n),some (.ref q),v3,v4,none,none]/\G q=none/\G' q=some (.lst (jJl (marks W k)))/\Sub G G',?_,?_,?_,?_⟩
  ·exact⟨q0,none,none,rfl,jVf s1 hq0,h2,s1.trans s2⟩
  ·intros;trivial
  ·intro k y τ G3 hy h_;apply xe3 h_;clear h_;intro q v3 v4 h_;apply ae3 h_;clear h_;intro i1 i2 i3
   obtain⟨hk,rfl⟩:=jUv hy
   wp_walk using 1,iSeq
   have hml:∀x,x<W.length->x<(marks W k).length:=fun x hx=>by rw[jJ0];exact hx
   refine jKd (es:=W) (enc:=encR) (fun es=>encR (es.map fun e=>(e.2,(marks W k).getD e.1 0))) (by omega) (fun _ _=>trivial) ?_ ?_
   ·intro r es he G' K K0 s hK
    have hes:=fine.row r es he
    wp_walk using 1,encR,iSeq
    refine jKd (es:=es) (enc:=encE) (fun e=>encE (e.2,(marks W k).getD e.1 0)) (by omega) (fun _ _=>trivial) ?_ ?_
    ·intro i e hi G'' K' K0' s' hK'
     have hlt:=fine.rng r i e.1 e.2 (jQq he hi)
     wp_walk using 1,encE,jKk ((s.trans s') _ _ i2),getD_at (hml _ hlt)
     rw[encE] at hK'
     exact⟨by omega,hK' G'' (.refl _)⟩
    ·intro D G'' hD q1 q2
     refine⟨_,jJm q1,?_⟩
     have:=hK G'' q2
     rw[encR,lJj] at this
     exact this
   ·intro p' G4 hp' h4 s4
    refine⟨p',_,marks W (k+1),rfl,h4,.inr ⟨tups W (marks W k),by simp[tups,lJj],by simp[tups];omega,rfl⟩,fun q' G5 hq' h5 s5=> ?_⟩
    have hq5:=s5 _ _ (s4 _ _ i2)
    wp_walk using 1,rEqA,eqG_lists h5 hq5
    by_cases he:marks W (k+1)=marks W k
    ·rw[if_pos he]
     have:=jZu he (n-k)
     rw[show k+(n-k)=n by omega] at this
     exact kk q G5 i1 (by rw[this];exact hq5) ((i3.trans s4).trans s5)
    ·rw[if_neg he]
     exact⟨jVf i3 (jVf s4 hq'),h5,(i3.trans s4).trans s5⟩
  ·intro τ G3 h_;apply xe3 h_;clear h_;intro q v3 v4 h_;apply ae3 h_;clear h_;intro i1 i2 i3
   rw[jQh] at i2
   wp_walk using 1,tSeq
   exact kk q G3 i1 i2 i3
def Cnt (m:List Nat) (k c:Nat):Prop:=(∀i v,i<k->m[i]? =some v->v<c)/\∀n,n<c->∃i,i<k/\m[i]? =some n
theorem Cnt.unique {m:List Nat} {k c c':Nat} (h:Cnt m k c) (h':Cnt m k c'):c=c':=by
 rcases Nat.lt_trichotomy c c' with z | z | z
 ·obtain⟨i,h1,h2⟩:=h'.2 c z
  exact absurd (h.1 i c h1 h2) (lK5 _)
 ·exact z
 ·obtain⟨i,h1,h2⟩:=h.2 c' z
  exact absurd (h'.1 i c' h1 h2) (lK5 _)
theorem cnt_zero {m:List Nat}:Cnt m 0 0:=⟨fun i v h=>absurd h (lJ0 _),fun n h=>absurd h (lJ0 _)⟩
theorem Cnt.next {m:List Nat} {k c v:Nat} (cn:Canon m) (h:Cnt m k c) (hv:m[k]? =some v):(v<c/\Cnt m (k+1) c)\/(v=c/\Cnt m (k+1) (c+1)):=by
 rcases Nat.lt_trichotomy v c with z | z | z
 ·refine .inl ⟨z,fun i u hi hu=> ?_,fun n hn=>let ⟨i,h1,h2⟩:=h.2 n hn;⟨i,by omega,h2⟩⟩
  rcases lQl (lKo hi) with q | rfl
  ·exact h.1 i u q hu
  ·rw[hv] at hu;cases hu;exact z
 ·subst z
  refine .inr ⟨rfl,fun i u hi hu=> ?_,fun n hn=> ?_⟩
  ·rcases lQl (lKo hi) with q | rfl
   ·exact Nat.lt_succ_of_lt (h.1 i u q hu)
   ·rw[hv] at hu;cases hu;exact lQw _
  ·rcases lQl (lKo hn) with q | rfl
   ·obtain⟨i,h1,h2⟩:=h.2 n q;exact⟨i,by omega,h2⟩
   ·exact⟨k,lQw _,hv⟩
 ·obtain⟨i,h1,h2⟩:=cn k v hv c z
  exact absurd (h.1 i c h1 h2) (lK5 _)
noncomputable def grp (m:List Nat) (k n:Nat):List Nat:=(List.range k).filter fun r=>m[r]? == some n
theorem kUx {m:List Nat} {k n v:Nat} (h:m[k]? =some v):grp m (k+1) n=if v=n then grp m k n++[k] else grp m k n:=by
 unfold grp
 rw[lKk,List.filter_append]
 by_cases e:v=n
 ·subst e;rw[if_pos rfl];simp[h]
 ·rw[if_neg e]
  have:(m[k]? == some n)=false:=by rw[h];simp[e]
  simp[this]
theorem grp_none {m:List Nat} {k n:Nat} (h:∀i,i<k->m[i]? ≠some n):grp m k n=[]:=by
 unfold grp
 rw[List.filter_eq_nil_iff]
 intro r hr
 have:=h r (lJn.mp hr)
 simpa using this
noncomputable def grps (m:List Nat) (k c:Nat):List (List Nat):=(List.range c).map (grp m k)
theorem grps_old {m:List Nat} {k c v:Nat} (h:m[k]? =some v) (hv:v<c):grps m (k+1) c=(grps m k c).set v (grp m k v++[k]):=by
 apply lJx
 intro n
 unfold grps
 rw[List.getElem?_set]
 by_cases hn:n<c
 ·rw[lJe,lJw hn,lJ9,kUx h]
  by_cases e:v=n
  ·subst e;simp[hn]
  ·simp[e,hn]
 ·rw[lJk (by simp;omega)]
  rw[if_neg (by omega),lJk (by simp;omega)]
theorem grps_new {m:List Nat} {k c:Nat} (h:m[k]? =some c) (hc:Cnt m k c):grps m (k+1) (c+1)=grps m k c++[[k]]:=by
 unfold grps
 rw[lKk,lKg]
 congr 1
 ·apply lKl
  intro n hn
  have:=lJn.mp hn
  rw[kUx h,if_neg (by omega)]
 ·show [grp m (k+1) c]=[[k]]
  rw[kUx h,if_pos rfl,grp_none fun i hi e=>absurd (hc.1 i c hi e) (lK5 _)];rfl
noncomputable def LsN (L:List (List Nat)):List (List T):=L.map jJl
noncomputable def jK2:Sp3:=fun xs G Q=>∃(W:Web) (n:Nat),xs=[encW W,.int n]/\Fine W/\n<=1000/\∀q c rs G',G q=none->(∀r,r∈rs->G r=none)->(q::rs).Nodup->Cnt (marks W n) (marks W n).length c->RowsT G' q (LsN (grps (marks W n) (marks W n).length c)) rs->Sub G G'->Q (.ref q) G'
noncomputable def kQz:List Str:=["web","steps","told","room","number"]
noncomputable def jXc:TS3:=
 (tSeq (tAsg (tLst tNil) (jJj 2))
 (tSeq (tFor (kKg (jJc (jJy jJz (jJc (tVar 0) (jJc (tVar 1) tNil))) tNil)) (gTup 2 (jKg (jJj 3) (jKg (jJj 4) gNil))) (tSeq (tIfS (jKw (tOp rEqA (tVar 4) (tCB rLen (jJc (tVar 2) tNil)))) (jV7 (tBM "list" jQm (tVar 2) (jJc (tLst tNil) tNil))) jQn)
 (jV7 (tBM "list" jQm (tOp rIxF (tVar 2) (tVar 4)) (jJc (tVar 3) tNil)))))
 (tRet (tVar 2))))
theorem kJ9 {W:Web}:∀n,Canon (marks W n)
 | 0=>num_canon _
 | _+1=>num_canon _
theorem kUf:∀xs G Q,jK2 xs G Q->jXc {nx:=fun _ G'=>Q .non G',rt:=Q} (jJk kQz xs) G:=by
 intro xs G Q h_;apply xe2 h_;clear h_;intro W n h_;apply ae3 h_;clear h_;intro fine hn kk
 rw[show jJk kQz [encW W,.int n]=[some (encW W),some (.int n),none,none,none] from rfl]
 have hs:=sz
 have hl:=fine.len
 wp_walk using 1,jXc,jJ5,kKg
 refine⟨by omega,fun t ht=> ?_⟩
 refine⟨W,n,rfl,fine,hn,fun q G2 hq h2 s2=> ?_⟩
 have hql:=(jUg hq)
 have cn:=kJ9 (W:=W) n
 have hml:=jJ0 (W:=W) n
 generalize marks W n=m at h2 cn hml kk
 refine⟨jJl m,by simp only[jXf,h2,asL],?_⟩
 refine⟨fun k τ G'=>∃(v3 v4:Option T) (c:Nat) (rs:List Addr),τ=[some (encW W),some (.int n),some (.ref t),v3,v4]/\c<=k/\Cnt m k c/\RowsT G' t (LsN (grps m k c)) rs/\(t::rs).Nodup/\(∀r,r∈rs->G r=none)/\q∉rs/\G' q=some (.lst (jJl m))/\Sub G G',?_,?_,?_,?_⟩
 ·exact⟨none,none,0,[],rfl,lJd _,cnt_zero,⟨s2 _ _ jJi,rfl,by simp⟩,by simp,by simp,by simp,h2,(Sub.new ht).trans s2⟩
 ·intro k τ G' hk h_;apply xe4 h_;clear h_;intro v3 v4 c rs h_;apply ae8 h_;clear h_;intro i0 i1 i2 i3 i4 i5 i6 i7
  simp only[jXf,i6,asL]
 ·intro k y τ G3 hy h_;apply xe4 h_;clear h_;intro v3 v4 c rs h_;apply ae8 h_;clear h_;intro i0 i1 i2 i3 i4 i5 i6 i7
  obtain⟨z,hz,rfl⟩:=kUj hy
  obtain⟨v,hv,rfl⟩:=jKm hz
  have hkl:k<m.length:=(lJb.mp hv).1
  have hrl:rs.length=c:=by have:=i2.2.1;simpa[LsN,grps] using this
  have htq:t≠q:=jJh (jJi (G:=G) (a:=t) (o:= .lst [])) hq
  have hqt:q≠t:=htq.symm
  wp_walk using 1,rEqA,jJm i2.1,lJc,hrl,jZy
  rcases i1.next cn hv with ⟨z,cnt'⟩ | ⟨z,cnt'⟩
  ·rw[if_neg (by omega)]
   have hM:(LsN (grps m k c))[v]? =some (jJl (grp m k v)):=by simp[LsN,grps,z]
   obtain⟨a,a1,a2,a3⟩:=i2.get hM
   have ham:=lJf a1
   have hgl:(grp m k v).length<=k:=by unfold grp;exact lKb (lQz _ _) (by simp)
   have R:=i2.set (ts:=jJl (grp m k v)++[.int (k:Nat)]) i3 a1
   refine⟨.ref a,(jKk i2.1).trans a2,by rw[jK0 a3];trivial,a,rfl,_,a3,by simp[jJl];omega,c,by omega,cnt',rs,?_,i3,i4,i5,?_,i7.over (i4 a ham)⟩
   ·rw[grps_old hv z]
    have:LsN ((grps m k c).set v (grp m k v++[k]))=(LsN (grps m k c)).set v (jJl (grp m k v)++[.int (k:Nat)]):=by
     unfold LsN;rw[List.map_set];simp[jJl]
    rw[this];exact R
   ·rw[jJu (show q≠a from fun e=>i5 (by rw[e];exact ham))];exact i6
  ·subst z
   rw[if_pos rfl]
   refine⟨by rw[jK0 i2.1];trivial,by omega,fun p hp=> ?_⟩
   have htp:t≠p:=jJh i2.1 hp
   have hqp:q≠p:=jJh i6 hp
   have hpr:p∉rs:=fun hm=>by
    obtain⟨j,hj⟩:=lJm (id hm)
    obtain⟨ts,_,z2⟩:=i2.2.2 j p hj
    rw[hp] at z2;cases z2
   have hpG:G p=none:=jVf i7 hp
   refine⟨rs.map T.ref,by rw[jJu htp];exact i2.1,by simp;omega,.ref p,by rw[atN];simp[hrl],?_,p,rfl,[],?_,by simp;omega,v+1,by omega,cnt',rs++[p],?_,?_,?_,?_,?_,?_⟩
   ·rw[jK0 (by rw[jJu htp.symm];exact jJi)];trivial
   ·rw[jJu htp.symm];exact jJi
   ·rw[grps_new hv i1]
    refine⟨by rw[jJu htp,jJi];simp,by simp[LsN,hrl,grps],fun i r hi=> ?_⟩
    by_cases hil:i<rs.length
    ·rw[lKh hil] at hi
     obtain⟨ts,z1,z2⟩:=i2.2.2 i r hi
     have hrm:=lJf hi
     have hrt:r≠t:=fun e=>(lJ8.mp i3).1 (e▸hrm)
     have hrp:r≠p:=fun e=>hpr (e▸hrm)
     refine⟨ts,?_,by rw[jJu hrp,jJu hrt,jJu hrp];exact z2⟩
     have hlt:i<(LsN (grps m k v)).length:=(lJb.mp z1).1
     unfold LsN at z1 hlt ⊢
     rw[lKg,lKh hlt];exact z1
    ·have hi2:=(lJb.mp hi).1
     simp at hi2
     have e:i=rs.length:=by omega
     subst e
     rw[lQa (lJd _)] at hi
     simp at hi;subst hi
     refine⟨[.int (k:Nat)],?_,by rw[jJi];rfl⟩
     unfold LsN
     rw[lKg,lQa (by simp[grps,hrl])]
     simp[grps,hrl,jJl]
   ·rw[lJ8] at i3 ⊢
    refine⟨fun hm=> ?_,?_⟩
    ·rcases (lJ4.mp hm) with h | h
     ·exact i3.1 h
     ·exact htp (lJv.mp h)
    ·rw[lQd]
     exact⟨i3.2,by simp,fun a ha b hb=>by rw[lJv.mp hb];rintro rfl;exact hpr ha⟩
   ·intro r hr
    rcases (lJ4.mp hr) with h | h
    ·exact i4 r h
    ·rw[lJv.mp h];exact hpG
   ·intro hm
    rcases (lJ4.mp hm) with h | h
    ·exact i5 h
    ·exact hqp (lJv.mp h)
   ·rw[jJu hqp,jJu hqt,jJu hqp];exact i6
   ·exact ((i7.over hpG).over ht).over hpG
 ·intro τ G3 h_;apply xe4 h_;clear h_;intro v3 v4 c rs h_;apply ae8 h_;clear h_;intro i0 i1 i2 i3 i4 i5 i6 i7
  rw[jKj,show (jJl m).length=m.length by simp[jJl]] at i1 i2
  wp_walk using 1,tSeq
  exact kk t c rs G3 ht i4 i3 i1 i2 i7
section
variable {κ:Type}
structure Mv (nu:List Nat) (ls ls':List κ):Prop where
 len:ls'.length=ls.length
 at':∀(r:Nat) (x:κ),ls[r]? =some x->ls'[nuF nu r]? =some x
theorem Mv.unique {nu:List Nat} {ls a b:List κ} (t:Turn ls.length nu) (h:Mv nu ls a) (h':Mv nu ls b):a=b:=by
 apply lJx
 intro y
 by_cases hy:y<ls.length
 ·obtain⟨x,hx,rfl⟩:=jVo t hy
  have e:ls[x]? =some ls[x]:=lJa hx
  rw[h.at' _ _ e,h'.at' _ _ e]
 ·rw[lJk (by rw[h.len];omega),lJk (by rw[h'.len];omega)]
theorem Mv.map {μ:Type} {nu:List Nat} {ls ls':List κ} (f:κ->μ) (h:Mv nu ls ls'):Mv nu (ls.map f) (ls'.map f):=by
 refine⟨by simp[h.len],fun r x hx=> ?_⟩
 obtain⟨y,hy,rfl⟩:=jKm hx
 rw[lJe,h.at' r y hy];rfl
theorem Mv.mem {nu:List Nat} {ls ls':List κ} (t:Turn ls.length nu) (h:Mv nu ls ls') {x:κ}:x∈ls'↔x∈ls:=by
 constructor
 ·intro hx
  obtain⟨y,hy⟩:=lJm hx
  have hyl:y<ls.length:=by rw[<-h.len];exact (lJb.mp hy).1
  obtain⟨r,hr,rfl⟩:=jVo t hyl
  have e:ls[r]? =some ls[r]:=lJa hr
  rw[h.at' _ _ e] at hy;cases hy
  exact lJf e
 ·intro hx
  obtain⟨r,hr⟩:=lJm hx
  exact lJf (h.at' _ _ hr)
theorem mv_ex {nu:List Nat} {ls:List κ} (t:Turn ls.length nu):∃ls',Mv nu ls ls':=by
 have key:∀n,n<=ls.length->∃ls':List κ,ls'.length=n/\∀i,i<n->ls'[i]? =ls[nu.idxOf i]? :=by
  intro n
  induction n with
  | zero=>intro _;exact⟨[],rfl,fun i h=>absurd h (lJ0 _)⟩
  | succ n ih=>
   intro hn
   obtain⟨l,h1,h2⟩:=ih (by omega)
   have hm:=jV0 t.nd t.lt t.len n (by omega)
   have hi:=lKd hm
   rw[t.len] at hi
   refine⟨l++[ls[nu.idxOf n]],by simp[h1],fun i hi'=> ?_⟩
   by_cases e:i<n
   ·rw[lKh (by omega)];exact h2 i e
   ·have:i=n:=by omega
    subst this
    rw[lQa (by omega),h1,Nat.sub_self,lJa hi];rfl
 obtain⟨l,h1,h2⟩:=key ls.length (lJd _)
 refine⟨l,h1,fun r x hx=> ?_⟩
 have hr:=(lJb.mp hx).1
 have hlt:=kQj t hr
 rw[h2 _ hlt]
 have hm:=jV0 t.nd t.lt t.len _ hlt
 have hi:=lKd hm
 obtain⟨y,hy,_⟩:=t.at hr
 rw[jQb hy] at hi ⊢
 have e1:nu[nu.idxOf y]? =some y:=by rw[lJa hi,lKu]
 rw[(lKm hi t.nd).mp (e1.trans hy.symm)]
 exact hx
end
theorem num_again {κ:Type} [DecidableEq κ] {ls:List κ}:num (num ls)=num ls:=by
 conv=>lhs;rw[num]
 exact jXo (f:=fun x=>(jJo ls).idxOf x) fun x y hx _ h=>jVp (firsts_mem.mpr hx) h
theorem jKv {W:Web}:∀k,num (marks W k)=marks W k
 | 0=>num_again
 | _+1=>num_again
theorem jVc {m:List Nat} {r v:Nat} (h:m[r]? =some v):m.getD r 0=v:=by simp[List.getD,h]
theorem marks_ren {W V:Web} {nu:List Nat} (f:Fine W) (t:Turn W.length nu) (r:Ren W nu V):∀(k:Nat) (P:List Nat),Mv nu (marks W k) P->marks V k=num P
 | 0,P,h=>by
  have tL:Turn (W.map List.length).length nu:=by rw[lJc];exact t
  have hL:Mv nu (W.map List.length) (V.map List.length):=⟨by simp[r.len],fun a x hx=>by
   obtain⟨es,he,rfl⟩:=jKm hx
   rw[lJe,r.at' a es he];simp[renE]⟩
  have hP:P=(V.map List.length).map fun x=>(jJo (W.map List.length)).idxOf x:=Mv.unique (by rw[jJ0];exact t) h (hL.map _)
  rw[hP]
  refine (jXo fun x y hx _ e=>jVp ?_ e).symm
  exact firsts_mem.mpr ((hL.mem tL).mp hx)
 | k+1,P,h=>by
  have tm:Turn (marks W k).length nu:=by rw[jJ0];exact t
  have tT:Turn (tups W (marks W k)).length nu:=by rw[tups,lJc];exact t
  obtain⟨Pk,hk⟩:=mv_ex tm
  have ih:=marks_ren f t r k Pk hk
  obtain⟨S,hS⟩:=mv_ex tT
  have gd:∀x,x<W.length->(marks W k)[x]? =some ((marks W k).getD x 0):=fun x hx=>by
   have:x<(marks W k).length:=by rw[jJ0];exact hx
   simp[List.getD,lJa this]
  have hT:Mv nu ((tups W (marks W k)).map fun s=>s.map fun e=>(e.1,(jJo Pk).idxOf e.2)) (tups V (marks V k)):=by
   refine⟨by simp[tups,r.len],fun a x hx=> ?_⟩
   obtain⟨s,hs,rfl⟩:=jKm hx
   obtain⟨es,he,rfl⟩:=jKm hs
   rw[jK7 (r.at' a es he)]
   congr 1
   rw[renE,lJj,lJj]
   apply lKl
   intro e hem
   obtain⟨i,hi⟩:=lJm hem
   have hlt:=f.rng a i e.1 e.2 (jQq he hi)
   show (e.2,(marks V k).getD (nuF nu e.1) 0)=(e.2,(jJo Pk).idxOf ((marks W k).getD e.1 0))
   rw[ih,jVc (jQr (hk.at' _ _ (gd _ hlt)))]
  have e1:tups V (marks V k)=S.map fun s=>s.map fun e=>(e.1,(jJo Pk).idxOf e.2):=Mv.unique (by rw[lJc];exact tT) hT (hS.map _)
  have e2:P=S.map fun x=>ix1 (jJo (tups W (marks W k))) x:=Mv.unique (by rw[jJ0];exact t) h (hS.map _)
  show num (tups V (marks V k))=num P
  rw[e1,e2,jXo,jXo]
  ·intro x y hx _ e
   exact jVp (firsts_mem.mpr ((hS.mem tT).mp hx)) e
  ·intro x y hx hy e
   obtain⟨a,ha⟩:=lJm ((hS.mem tT).mp hx)
   obtain⟨b,hb⟩:=lJm ((hS.mem tT).mp hy)
   obtain⟨es,he,rfl⟩:=jKm ha
   obtain⟨fs,hf,rfl⟩:=jKm hb
   apply lJx
   intro i
   have hi:=congrArg (fun l=>l[i]?) e
   simp only[lJe] at hi ⊢
   cases q1:es[i]? with
   | none=>
    rw[q1] at hi
    cases q2:fs[i]? with
    | none=>rfl
    | some q=>rw[q2] at hi;cases hi
   | some p=>
    rw[q1] at hi
    cases q2:fs[i]? with
    | none=>rw[q2] at hi;cases hi
    | some q=>
     rw[q2] at hi
     simp only[lJ9,lQm,Prod.mk.injEq] at hi ⊢
     refine⟨hi.1,?_⟩
     have hp:=f.rng a i p.1 p.2 (jQq he q1)
     exact jVp (firsts_mem.mpr ((hk.mem tm).mpr (lJf (gd _ hp)))) hi.2
noncomputable def LL (m:List Nat):List (List Nat):=(jJo m).map (grp m m.length)
theorem cnt_num {m:List Nat}:Cnt (num m) (num m).length (jJo m).length:=by
 refine⟨fun i v hi hv=> ?_,fun n hn=> ?_⟩
 ·have hil:i<m.length:=by rwa [kJ7] at hi
  have hx:m[i]? =some m[i]:=lJa hil
  rw[jQr hx] at hv;cases hv
  exact lKd (firsts_mem.mpr (lJf hx))
 ·have hx:(jJo m)[n]? =some (jJo m)[n]:=lJa hn
  generalize (jJo m)[n]=x at hx
  obtain⟨i,hi⟩:=lJm (firsts_mem.mp (lJf hx))
  refine⟨i,by rw[kJ7];exact (lJb.mp hi).1,?_⟩
  rw[jQr hi]
  have hm:=lJf hx
  have h1:=lKd hm
  have e1:(jJo m)[(jJo m).idxOf x]? =some x:=by rw[lJa h1,lKu]
  rw[(lKm h1 (jXr m)).mp (e1.trans hx.symm)]
theorem grps_num {m:List Nat}:grps (num m) (num m).length (jJo m).length=LL m:=by
 apply lJx
 intro n
 unfold grps LL
 by_cases hn:n<(jJo m).length
 ·have hx:(jJo m)[n]? =some (jJo m)[n]:=lJa hn
  generalize (jJo m)[n]=x at hx
  rw[lJe,lJw hn,lJe,hx]
  simp only[lJ9]
  congr 1
  unfold grp
  rw[kJ7]
  apply List.filter_congr
  intro r hr
  have hrl:=lJn.mp hr
  have hy:m[r]? =some m[r]:=lJa hrl
  generalize m[r]=y at hy
  rw[jQr hy,hy]
  have hm:=lJf hx
  have h1:=lKd hm
  have e1:(jJo m)[(jJo m).idxOf x]? =some x:=by rw[lJa h1,lKu]
  have e2:(jJo m).idxOf x=n:=(lKm h1 (jXr m)).mp (e1.trans hx.symm)
  by_cases e:y=x
  ·subst e;simp[e2]
  ·have hne:(jJo m).idxOf y≠n:=fun z=>e (jVp (firsts_mem.mpr (lJf hy)) (z.trans e2.symm))
   rw[show (some ((jJo m).idxOf y) == some n)=false from beq_eq_false_iff_ne.mpr (fun z=>hne (lJr z)),show (some y == some x)=false from beq_eq_false_iff_ne.mpr (fun z=>e (lJr z))]
 ·rw[lJk (by simp;omega),lJk (by simp;omega)]
noncomputable def jUu:Sp3:=fun xs G Q=>∃(W:Web),xs=[encW W]/\Fine W/\∀q rs G',G q=none->(∀r,r∈rs->G r=none)->(q::rs).Nodup->RowsT G' q (LsN (LL (marks W W.length))) rs->Sub G G'->Q (.ref q) G'
noncomputable def N_kinds:List Str:=["web"]
noncomputable def kJn:TS3:=
 (tRet (jJy jK2 (jJc (tVar 0) (jJc (tCB rLen (jJc (tVar 0) tNil)) tNil))))
theorem rdok_kinds:∀xs G Q,jUu xs G Q->kJn {nx:=fun _ G'=>Q .non G',rt:=Q} (jJk N_kinds xs) G:=by
 intro xs G Q h_;apply xe1 h_;clear h_;intro W h_;apply ae2 h_;clear h_;intro fine kk
 rw[show jJk N_kinds [encW W]=[some (.tup (W.map encR))] from rfl]
 have hl:=fine.len
 wp_walk using 1,kJn,lJc
 refine⟨W,W.length,rfl,fine,hl,fun q c rs G' h1 h2 h3 h4 h5 h6=> ?_⟩
 have e:=cnt_num (m:=marks W W.length)
 rw[jKv] at e
 obtain rfl:=h4.unique e
 have g:=grps_num (m:=marks W W.length)
 rw[jKv] at g
 rw[g] at h5
 exact kk q rs G' h1 h2 h3 h5 h6
noncomputable def line (n:Nat):Web:=(List.range n).map fun r=>[if r>0 then (r-1,1) else (0,0),if r<n-1 then (r+1,0) else (r,1)]
theorem jYn {n r:Nat} (h:r<n):(line n)[r]? =some [if r>0 then (r-1,1) else (0,0),if r<n-1 then (r+1,0) else (r,1)]:=by simp[line,h]
theorem en_line {n r i s j:Nat} (h:en (line n) r i=some (s,j)):r<n/\((i=0/\r>0/\s=r-1/\j=1)\/(i=0/\r=0/\s=0/\j=0)\/(i=1/\r<n-1/\s=r+1/\j=0)\/(i=1/\r=n-1/\s=r/\j=1)):=by
 have hr:=jZg h
 rw[show (line n).length=n by simp[line]] at hr
 obtain⟨es,h1,h2⟩:=jQ6 h
 rw[jYn hr] at h1;cases h1
 refine⟨hr,?_⟩
 have hi:=(lJb.mp h2).1
 simp at hi
 have:i=0\/i=1:=by omega
 rcases this with rfl | rfl
 ·simp at h2
  by_cases h0:r>0
  ·rw[if_pos h0] at h2;cases h2;exact .inl ⟨rfl,h0,rfl,rfl⟩
  ·rw[if_neg h0] at h2;cases h2;exact .inr (.inl ⟨rfl,by omega,rfl,rfl⟩)
 ·simp at h2
  by_cases h0:r<n-1
  ·rw[if_pos h0] at h2;cases h2;exact .inr (.inr (.inl ⟨rfl,h0,rfl,rfl⟩))
  ·rw[if_neg h0] at h2;cases h2;exact .inr (.inr (.inr ⟨rfl,by omega,rfl,rfl⟩))
theorem line_en0 {n r:Nat} (h:r<n) (h0:r>0):en (line n) r 0=some (r-1,1):=jQq (jYn h) (by simp[h0])
theorem line_ok {n:Nat} (hn:1<=n):WebOk n 2 (line n) where
 len:=by simp[line]
 sym:=by
  intro r i s j h
  obtain⟨hr,h⟩:=en_line h
  rcases h with ⟨rfl,h0,rfl,rfl⟩ | ⟨rfl,rfl,rfl,rfl⟩ | ⟨rfl,h0,rfl,rfl⟩ | ⟨rfl,h0,rfl,rfl⟩
  ·rw[jQq (jYn (show r-1<n by omega)) (e:=(r,0)) (i:=1)]
   simp only[List.getElem?_cons_succ,List.getElem?_cons_zero]
   rw[if_pos (by omega)];congr 2;omega
  ·exact jQq (jYn hr) (by simp)
  ·rw[line_en0 (by omega) (by omega)];rfl
  ·exact jQq (jYn hr) (by simp only[List.getElem?_cons_succ,List.getElem?_cons_zero];rw[if_neg (by omega)])
 deg:=fun r es h=>by
  have hr:r<n:=by have:=(lJb.mp h).1;simpa[line] using this
  rw[jYn hr] at h;cases h;simp
 low:=fun r h1 h2=>⟨0,r-1,1,line_en0 h2 (by omega),by omega⟩
noncomputable def jQi:Sp3:=fun xs G Q=>∃n:Nat,xs=[.int n]/\1<=n/\n<=1000/\∀G',Sub G G'->Q (encW (line n)) G'
noncomputable def N_l_line:List Str:=["_law_many","_law_made","_law_room","_law_back","_law_on"]
noncomputable def jYz:TS3:=
 (tSeq (tAsg (tLst tNil) (jJj 1))
 (tSeq (tFor (jKt (jJc (tVar 0) tNil)) (jJj 2) (tSeq (tAsg (tIf (jKw (tOp rGt (tVar 2) (tC (.int 0)))) (tTup (jJc (tOp rSub (tVar 2) (tC (.int 1))) (jJc (tC (.int 1)) tNil))) (tTup (jJc (tC (.int 0)) (jJc (tC (.int 0)) tNil)))) (jJj 3))
 (tSeq (tAsg (tIf (jKw (tOp rLt (tVar 2) (tOp rSub (tVar 0) (tC (.int 1))))) (tTup (jJc (tOp jK6 (tVar 2) (tC (.int 1))) (jJc (tC (.int 0)) tNil))) (tTup (jJc (tVar 2) (jJc (tC (.int 1)) tNil)))) (jJj 4))
 (jV7 (tBM "list" jQm (tVar 1) (jJc (tTup (jJc (tVar 3) (jJc (tVar 4) tNil))) tNil))))))
 (tRet (tCB jJ9 (jJc (tVar 1) tNil)))))
theorem rdok_l_line:∀xs G Q,jQi xs G Q->jYz {nx:=fun _ G'=>Q .non G',rt:=Q} (jJk N_l_line xs) G:=by
 intro xs G Q h_;apply xe1 h_;clear h_;intro n h_;apply ae3 h_;clear h_;intro hn1 hn kk
 rw[show jJk N_l_line [.int n]=[some (.int n),none,none,none,none] from rfl]
 have hs:=sz
 wp_walk using 1,jYz,jJ5,jKt
 refine⟨by omega,fun p hp=>⟨by omega,by omega,?_⟩⟩
 rw[show ((n:Nat):Int).toNat=n by omega]
 refine⟨fun k τ G'=>∃(v2 v3 v4:Option T),τ=[some (.int n),some (.ref p),v2,v3,v4]/\G' p=some (.lst (((line n).take k).map encR))/\Sub G G',?_,?_,?_,?_⟩
 ·exact⟨none,none,none,rfl,by rw[List.take_zero];exact jJi,.new hp⟩
 ·intros;trivial
 ·intro k y τ G1 hy h_;apply xe3 h_;clear h_;intro v2 v3 v4 h_;apply ae2 h_;clear h_;intro h1 h2
  obtain⟨hk,rfl⟩:=jUv hy
  have tk:((line n).take (k+1)).map encR=((line n).take k).map encR++[encR [if k>0 then (k-1,1) else (0,0),if k<n-1 then (k+1,0) else (k,1)]]:=by
   rw[lKz,jYn hk];simp
  have hlen:(((line n).take k).map encR).length<sizeLine:=by simp[line];omega
  have hty:tyT G1 "list" (T.ref p):=by rw[jK0 h1];trivial
  wp_walk using 1,h1
  by_cases h0:0<k
  ·rw[if_pos (by omega)]
   refine⟨by omega,?_⟩
   by_cases h3:k<n-1
   ·rw[if_pos (by omega)]
    refine⟨by omega,hty,by omega,hlen,?_,h2.over hp⟩
    rw[tk,if_pos h0,if_pos h3,show ((k:Int)-1)=((k-1:Nat):Int) by omega];rfl
   ·rw[if_neg (by omega)]
    refine⟨by omega,hty,by omega,hlen,?_,h2.over hp⟩
    rw[tk,if_pos h0,if_neg h3,show ((k:Int)-1)=((k-1:Nat):Int) by omega];rfl
  ·rw[if_neg (by omega)]
   refine⟨by omega,?_⟩
   by_cases h3:k<n-1
   ·rw[if_pos (by omega)]
    refine⟨by omega,hty,by omega,hlen,?_,h2.over hp⟩
    rw[tk,if_neg h0,if_pos h3];rfl
   ·rw[if_neg (by omega)]
    refine⟨by omega,hty,by omega,hlen,?_,h2.over hp⟩
    rw[tk,if_neg h0,if_neg h3];rfl
 ·intro τ G1 h_;apply xe3 h_;clear h_;intro v2 v3 v4 h_;apply ae2 h_;clear h_;intro h1 h2
  rw[jQh,List.take_of_length_le (by simp[line])] at h1
  wp_walk using 1,tSeq
  exact⟨_,jJm h1,kk G1 h2⟩
section
variable {κ:Type} [DecidableEq κ]
end
theorem kKm {W:Web} {k:Nat}:Cnt (marks W k) W.length (jJo (marks W k)).length:=by
 have:=cnt_num (m:=marks W k)
 rw[jKv,jJ0] at this
 exact this
theorem marks_grow {W:Web} (f:Fine W) (k:Nat):marks W (k+1)=marks W k\/(jJo (marks W k)).length<(jJo (marks W (k+1))).length:=by
 obtain⟨a1,a2⟩:=kKm (W:=W) (k:=k)
 obtain⟨b1,b2⟩:=kKm (W:=W) (k:=k+1)
 generalize (jJo (marks W k)).length=c at a1 a2 ⊢
 generalize (jJo (marks W (k+1))).length=c' at b1 b2 ⊢
 by_cases hc:c<c'
 ·exact .inr hc
 refine .inl ?_
 have at_:∀(k r:Nat),r<W.length->∃v,(marks W k)[r]? =some v:=fun k r hr=>⟨(marks W k)[r]'(by rw[jJ0];exact hr),lJa _⟩
 have fin:∀(a b v:Nat),(marks W (k+1))[a]? =some v->(marks W (k+1))[b]? =some v->(marks W k)[a]? =(marks W k)[b]? :=by
  intro a b v ha hb
  have la:a<W.length:=by rw[<-jJ0 (k+1)];exact (lJb.mp ha).1
  have lb:b<W.length:=by rw[<-jJ0 (k+1)];exact (lJb.mp hb).1
  have ea:W[a]? =some W[a]:=lJa la
  have eb:W[b]? =some W[b]:=lJa lb
  exact finer f k a b _ _ ea eb (num_inj (jK7 ea) (jK7 eb) (ha.trans hb.symm))
 let g:Nat->Nat:=fun u=>if h:u<c then ((marks W (k+1)).getD (Classical.choose (a2 u h)) 0) else 0
 have gat:∀u,u<c->∃i:Nat,(marks W k)[i]? =some u/\(marks W (k+1))[i]? =some (g u)/\g u<c':=by
  intro u hu
  obtain⟨hi,hv⟩:=Classical.choose_spec (a2 u hu)
  obtain⟨v,hv'⟩:=at_ (k+1) _ hi
  have:g u=v:=by show (if h:u<c then _ else 0)=v;rw[dif_pos hu];exact jVc hv'
  exact⟨_,hv,by rw[this];exact hv',by rw[this];exact b1 _ v hi hv'⟩
 have ginj:∀u u',u<c->u'<c->g u=g u'->u=u':=by
  intro u u' hu hu' e
  obtain⟨i,i1,i2,_⟩:=gat u hu
  obtain⟨j,j1,j2,_⟩:=gat u' hu'
  rw[<-e] at j2
  have:=fin i j _ i2 j2
  rw[i1,j1] at this;cases this;rfl
 have hnd:((List.range c).map g).Nodup:=by
  unfold List.Nodup
  rw[List.pairwise_map]
  refine List.Pairwise.imp_of_mem ?_ (lQf (n:=c))
  intro a b ha hb hab e
  exact hab (ginj a b (lJn.mp ha) (lJn.mp hb) e)
 have hlt:∀x,x∈(List.range c).map g->x<c':=fun x hx=>by
  obtain⟨u,hu,rfl⟩:=lJg.mp hx
  obtain⟨_,_,_,h⟩:=gat u (lJn.mp hu)
  exact h
 have hle:=jU1 hnd hlt
 rw[lJc,lJ1] at hle
 have hcc:c=c':=by omega
 subst hcc
 have onto:=jV0 hnd hlt (by rw[lJc,lJ1])
 have inj:∀(a b v:Nat),(marks W k)[a]? =some v->(marks W k)[b]? =some v->(marks W (k+1))[a]? =(marks W (k+1))[b]? :=by
  intro a b v ha hb
  have la:a<W.length:=by rw[<-jJ0 k];exact (lJb.mp ha).1
  have lb:b<W.length:=by rw[<-jJ0 k];exact (lJb.mp hb).1
  obtain⟨p,hp⟩:=at_ (k+1) a la
  obtain⟨q,hq⟩:=at_ (k+1) b lb
  obtain⟨u,hu,eu⟩:=lJg.mp (onto p (b1 a p la hp))
  obtain⟨w,hw,ew⟩:=lJg.mp (onto q (b1 b q lb hq))
  obtain⟨i,i1,i2,_⟩:=gat u (lJn.mp hu)
  obtain⟨j,j1,j2,_⟩:=gat w (lJn.mp hw)
  have e1:=fin a i p hp (by rw[i2,eu])
  have e2:=fin b j q hq (by rw[j2,ew])
  rw[ha,i1] at e1;cases e1
  rw[hb,j1] at e2;cases e2
  rw[hp,hq,<-eu,<-ew]
 let φ:Nat->Nat:=fun v=> @dite _ (∃i:Nat,(marks W (k+1))[i]? =some v) (Classical.propDecidable _) (fun h=>(marks W k).getD (Classical.choose h) 0) fun _=>0
 have hmap:(marks W (k+1)).map φ=marks W k:=by
  apply lJx
  intro r
  rw[lJe]
  by_cases hr:r<W.length
  ·obtain⟨v,hv⟩:=at_ (k+1) r hr
   obtain⟨u,hu⟩:=at_ k r hr
   rw[hv,hu,lJ9]
   have hex:∃i:Nat,(marks W (k+1))[i]? =some v:=⟨r,hv⟩
   have:φ v=(marks W k).getD (Classical.choose hex) 0:=dif_pos hex
   rw[this]
   have e:=fin _ r v (Classical.choose_spec hex) hv
   rw[hu] at e
   rw[jVc e]
  ·rw[lJk (by rw[jJ0];omega),lJk (by rw[jJ0];omega)];rfl
 rw[<-jKv (k+1),<-jKv k,<-hmap]
 symm
 refine jXo fun x y hx hy e=> ?_
 obtain⟨a,ha⟩:=lJm hx
 obtain⟨b,hb⟩:=lJm hy
 have la:a<W.length:=by rw[<-jJ0 (k+1)];exact (lJb.mp ha).1
 have lb:b<W.length:=by rw[<-jJ0 (k+1)];exact (lJb.mp hb).1
 have ga:(marks W k)[a]? =some (φ x):=by rw[<-hmap,lJe,ha];rfl
 have gb:(marks W k)[b]? =some (φ y):=by rw[<-hmap,lJe,hb];rfl
 rw[<-e] at gb
 have:=inj a b _ ga gb
 rw[ha,hb] at this;cases this;rfl
theorem marks_fix {W:Web} (f:Fine W):∃k,k<W.length+1/\∀n,k<=n->marks W n=marks W k:=by
 suffices h:∀n,(∃k,k<n/\marks W (k+1)=marks W k)\/n<=(jJo (marks W n)).length by
  rcases h (W.length+1) with ⟨k,h1,h2⟩ | h
  ·exact⟨k,h1,fun n hn=>by have:=jZu h2 (n-k);rwa [show k+(n-k)=n by omega] at this⟩
  ·have:=jUs (ls:=marks W (W.length+1))
   rw[jJ0] at this;omega
 intro n
 induction n with
 | zero=>exact .inr (lJt _)
 | succ n ih=>
  rcases ih with ⟨k,h1,h2⟩ | h
  ·exact .inl ⟨k,by omega,h2⟩
  ·rcases marks_grow f n with z | z
   ·exact .inl ⟨n,by omega,z⟩
   ·exact .inr (by omega)
noncomputable def mk (W:Web):List Nat:=marks W W.length
noncomputable def nk (W:Web):Nat:=(jJo (mk W)).length
noncomputable def fr (W:Web) (n:Nat):Nat:=(mk W).idxOf n
noncomputable def fw (W:Web):Web:=(List.range (nk W)).map fun n=>renE (mk W) (row W (fr W n))
theorem jUx {W:Web}:(mk W).length=W.length:=jJ0 _
theorem mk_late {W:Web} (f:Fine W) {n:Nat} (h:W.length<=n):marks W n=mk W:=by
 obtain⟨k,h1,h2⟩:=marks_fix f
 unfold mk
 rw[h2 n (by omega),h2 W.length (by omega)]
theorem mk_fix {W:Web} (f:Fine W):num (tups W (mk W))=mk W:=mk_late f (Nat.le_succ _)
theorem mk_cnt {W:Web}:Cnt (mk W) W.length (nk W):=kKm
theorem kQa {W:Web} {r:Nat} (h:r<W.length):∃v,(mk W)[r]? =some v/\v<nk W:=by
 have hl:r<(mk W).length:=by rw[jUx];exact h
 exact⟨(mk W)[r],lJa hl,mk_cnt.1 r _ h (lJa hl)⟩
theorem jYh {W:Web} {n:Nat} (h:n<nk W):(mk W)[fr W n]? =some n/\fr W n<W.length/\∀i,i<fr W n->(mk W)[i]? ≠some n:=by
 obtain⟨i,h1,h2⟩:=mk_cnt.2 n h
 have hm:=lJf h2
 have hl:=lKd hm
 refine⟨by unfold fr;rw[lJa hl,lKu],by rw[<-jUx];exact hl,fun i hi hv=> ?_⟩
 unfold fr at hi
 have hil:=(lJb.mp hv)
 obtain⟨h3,h4⟩:=hil
 have:=List.not_of_lt_findIdx (show i<(mk W).findIdx (· == n) from hi)
 simp[h4] at this
theorem LL_mk {W:Web}:LL (mk W)=(List.range (nk W)).map (grp (mk W) W.length):=by
 have:=grps_num (m:=mk W)
 rw[show num (mk W)=mk W from jKv _,jUx] at this
 exact this.symm
theorem grp_head {W:Web} {n:Nat} (h:n<nk W):(grp (mk W) W.length n)[0]? =some (fr W n):=by
 obtain⟨h1,h2,h3⟩:=jYh h
 unfold grp
 rw[<-List.head?_eq_getElem?,List.head?_filter,List.find?_range_eq_some]
 exact⟨by simp[h1],by simp[h2],fun j hj=>by simpa using h3 j hj⟩
theorem kU6 {W:Web} (f:Fine W) {a b i s j:Nat} (ha:a<W.length) (hb:b<W.length) (h:(mk W)[a]? =(mk W)[b]?) (he:en W a i=some (s,j)):∃s',en W b i=some (s',j)/\(mk W)[s']? =(mk W)[s]? :=by
 have ea:W[a]? =some W[a]:=lJa ha
 have eb:W[b]? =some W[b]:=lJa hb
 rw[<-mk_fix f] at h
 have e:=num_inj (jK7 ea) (jK7 eb) h
 obtain⟨es,q1,q2⟩:=jQ6 he
 rw[ea] at q1;cases q1
 have e2:=congrArg (fun l=>l[i]?) e
 simp only[lJe,q2,lJ9] at e2
 cases q3:(W[b])[i]? with
 | none=>rw[q3] at e2;cases e2
 | some p=>
  rw[q3] at e2
  simp only[lJ9,lQm,Prod.mk.injEq] at e2
  have hp:=jQq eb q3
  refine⟨p.1,by rw[hp];exact congrArg some (Prod.ext rfl e2.1.symm),?_⟩
  have l1:=f.rng _ _ _ _ he
  have l2:=f.rng b i p.1 p.2 hp
  obtain⟨v,hv,_⟩:=kQa l1
  obtain⟨u,hu,_⟩:=kQa l2
  rw[hv,hu]
  have:=e2.2
  rw[jVc hv,jVc hu] at this
  rw[this]
theorem jKy {W:Web}:(fw W).length=nk W:=by unfold fw;rw[lJc,lJ1]
theorem en_fw {W:Web} {K i:Nat} (h:K<nk W):en (fw W) K i=(en W (fr W K) i).map fun e=>(nuF (mk W) e.1,e.2):=by
 obtain⟨_,hl,_⟩:=jYh h
 have e1:(fw W)[K]? =some (renE (mk W) (row W (fr W K))):=by unfold fw;rw[lJe,lJw h];rfl
 have e2:W[fr W K]? =some W[fr W K]:=lJa hl
 unfold en
 rw[e1,e2,jQl e2]
 show (renE _ _)[i]? =Option.map _ (_[i]?)
 unfold renE
 rw[lJe]
theorem nk_pos {W:Web} (h:1<=W.length):1<=nk W:=by
 obtain⟨v,_,hv⟩:=kQa (W:=W) (r:=0) h
 omega
theorem mk_zero {W:Web} (h:1<=W.length):(mk W)[0]? =some 0:=by
 obtain⟨v,hv,_⟩:=kQa (W:=W) (r:=0) h
 rcases Nat.eq_zero_or_pos v with rfl | z
 ·exact hv
 ·have cn:Canon (mk W):=kJ9 _
  obtain⟨i,hi,_⟩:=cn 0 v hv 0 z
  exact absurd hi (lJ0 _)
theorem any_fw {W:Web} (any:AnyWeb W):AnyWeb (fw W) where
 pos:=by rw[jKy];exact nk_pos any.pos
 len:=by
  have:=jUs (ls:=mk W)
  rw[jUx] at this
  have:=any.len
  rw[jKy];unfold nk;omega
 sym:=fun K i L j h=>by
  have hK:K<nk W:=by rw[<-jKy];exact jZg h
  obtain⟨k1,k2,_⟩:=jYh hK
  rw[en_fw hK] at h
  cases he:en W (fr W K) i with
  | none=>rw[he] at h;cases h
  | some e=>
   obtain⟨y,j'⟩:=e
   rw[he] at h;cases h
   have f:=any.fine
   have hy:=f.rng _ _ _ _ he
   obtain⟨L,hL,hLk⟩:=kQa hy
   rw[jQb hL,en_fw hLk]
   obtain⟨l1,l2,_⟩:=jYh hLk
   obtain⟨s,s1,s2⟩:=kU6 f hy l2 (by rw[hL,l1]) (any.sym _ _ _ _ he)
   rw[s1]
   rw[k1] at s2
   rw[lJ9,jQb s2]
 deg:=fun K es h=>by
  have hK:K<nk W:=by rw[<-jKy];exact (lJb.mp h).1
  obtain⟨_,k2,_⟩:=jYh hK
  have e2:W[fr W K]? =some W[fr W K]:=lJa k2
  unfold fw at h
  rw[lJe,lJw hK] at h;cases h
  unfold renE
  rw[lJc,jQl e2]
  exact any.deg _ _ e2
 conn:=fun S h0 hst K hK=>by
  rw[jKy] at hK
  obtain⟨k1,k2,_⟩:=jYh hK
  have f:=any.fine
  have:=any.conn (fun r=>∀v,(mk W)[r]? =some v->S v) (fun v hv=>by rw[mk_zero any.pos] at hv;cases hv;exact h0) (fun r i s j hr he v hv=>by
   obtain⟨u,hu,huk⟩:=kQa (jZg he)
   obtain⟨l1,l2,_⟩:=jYh huk
   obtain⟨s',s1,s2⟩:=kU6 f (jZg he) l2 (by rw[hu,l1]) he
   refine hst u i v j (hr u hu) ?_
   rw[en_fw huk,s1,lJ9,jQb (s2.trans hv)]) (fr W K) k2
  exact this K k1
section
variable {κ μ:Type} [DecidableEq κ] [DecidableEq μ]
theorem num_pat {ls:List κ} {ms:List μ} (hl:ls.length=ms.length) (h:∀(i j:Nat) (a b:κ) (c d:μ),ls[i]? =some a->ls[j]? =some b->ms[i]? =some c->ms[j]? =some d->(a=b↔c=d)):num ls=num ms:=by
 have e1:ls=(ls.zip ms).map Prod.fst:=(List.map_fst_zip (Nat.le_of_eq hl)).symm
 have e2:ms=(ls.zip ms).map Prod.snd:=(List.map_snd_zip (Nat.le_of_eq hl.symm)).symm
 have key:∀x y,x∈ls.zip ms->y∈ls.zip ms->(x.1=y.1↔x.2=y.2):=by
  intro x y hx hy
  obtain⟨i,hi⟩:=lJm hx
  obtain⟨j,hj⟩:=lJm hy
  rw[lQ1] at hi hj
  exact h i j x.1 y.1 x.2 y.2 hi.1 hj.1 hi.2 hj.2
 have n1:num ((ls.zip ms).map Prod.fst)=num (ls.zip ms):=jXo (f:=Prod.fst) fun x y hx hy e=>Prod.ext e ((key x y hx hy).mp e)
 have n2:num ((ls.zip ms).map Prod.snd)=num (ls.zip ms):=jXo (f:=Prod.snd) fun x y hx hy e=>Prod.ext ((key x y hx hy).mpr e) e
 rw[e1,n1,<-n2,<-e2]
theorem kJo {ls:List κ} {ms:List μ} (h:num ls=num ms) {i j:Nat} {a b:κ} {c d:μ} (ha:ls[i]? =some a) (hb:ls[j]? =some b) (hc:ms[i]? =some c) (hd:ms[j]? =some d):a=b↔c=d:=by
 have e1:=congrArg (fun l=>l[i]?) h
 have e2:=congrArg (fun l=>l[j]?) h
 simp only[jQr ha,jQr hc,jQr hb,jQr hd,lQm] at e1 e2
 constructor
 ·intro z
  subst z
  exact jVp (firsts_mem.mpr (lJf hc)) (e1.symm.trans e2)
 ·intro z
  subst z
  exact jVp (firsts_mem.mpr (lJf ha)) (e1.trans e2.symm)
end
noncomputable abbrev Row:=Nat×List (Nat×Nat)
noncomputable def rowOf (M:List Nat) (r:Nat) (es:List (Nat×Nat)):Row:=(M.getD r 0,es.map fun e=>(e.2,M.getD e.1 0))
noncomputable def jXk (W:Web) (M:List Nat):List Row:=(List.range W.length).map fun r=>rowOf M r (row W r)
theorem kUa {W:Web} {M:List Nat} {r:Nat} {es:List (Nat×Nat)} (h:W[r]? =some es):(jXk W M)[r]? =some (rowOf M r es):=by
 have hr:r<W.length:=(lJb.mp h).1
 unfold jXk
 rw[lJe,lJw hr]
 show some (rowOf M r (row W r))=_
 rw[show row W r=es by unfold row;rw[h];rfl]
theorem jYs {W:Web} {M:List Nat}:(jXk W M).length=W.length:=by unfold jXk;rw[lJc,lJ1]
theorem rows_num {W:Web} (f:Fine W) {M:List Nat} {k:Nat} (hl:M.length=W.length) (hm:num M=marks W k):num (jXk W M)=marks W (k+1):=by
 show _=num (tups W (marks W k))
 have jUx:=jJ0 (W:=W) k
 have mm:∀i,i<W.length->M[i]? =some (M.getD i 0)/\(marks W k)[i]? =some ((marks W k).getD i 0):=by
  intro i hi
  exact⟨by rw[lQn,lJa (by omega)];rfl,by rw[lQn,lJa (by omega)];rfl⟩
 have hm':num M=num (marks W k):=by rw[jKv];exact hm
 have same:∀i j,i<W.length->j<W.length->(M.getD i 0=M.getD j 0↔(marks W k).getD i 0=(marks W k).getD j 0):=fun i j hi hj=>kJo hm' (mm i hi).1 (mm j hj).1 (mm i hi).2 (mm j hj).2
 refine num_pat (by rw[jYs];simp[tups]) fun i j a b c d ha hb hc hd=> ?_
 have hi:i<W.length:=by rw[<-jYs (W:=W) (M:=M)];exact (lJb.mp ha).1
 have hj:j<W.length:=by rw[<-jYs (W:=W) (M:=M)];exact (lJb.mp hb).1
 have hei:W[i]? =some W[i]:=lJa hi
 have hej:W[j]? =some W[j]:=lJa hj
 generalize W[i]=es at hei
 generalize W[j]=fs at hej
 rw[kUa hei] at ha;rw[kUa hej] at hb
 rw[jK7 hei] at hc;rw[jK7 hej] at hd
 cases ha;cases hb;cases hc;cases hd
 have inner:(es.map fun e=>(e.2,M.getD e.1 0))=(fs.map fun e=>(e.2,M.getD e.1 0))↔(es.map fun e=>(e.2,(marks W k).getD e.1 0))=(fs.map fun e=>(e.2,(marks W k).getD e.1 0)):=by
  have go:∀(g g':List Nat),(∀i j,i<W.length->j<W.length->g.getD i 0=g.getD j 0->g'.getD i 0=g'.getD j 0)->(es.map fun e=>(e.2,g.getD e.1 0))=(fs.map fun e=>(e.2,g.getD e.1 0))->(es.map fun e=>(e.2,g'.getD e.1 0))=(fs.map fun e=>(e.2,g'.getD e.1 0)):=by
   intro g g' hg h
   apply lJx
   intro x
   have hx:=congrArg (fun l=>l[x]?) h
   simp only[lJe] at hx ⊢
   cases e1:es[x]? with
   | none=>
    rw[e1] at hx
    cases e2:fs[x]? with
    | none=>rfl
    | some q=>rw[e2] at hx;cases hx
   | some p=>
    rw[e1] at hx
    cases e2:fs[x]? with
    | none=>rw[e2] at hx;cases hx
    | some q=>
     rw[e2] at hx
     simp only[lJ9,lQm,Prod.mk.injEq] at hx ⊢
     exact⟨hx.1,hg _ _ (f.rng i x p.1 p.2 (jQq hei e1)) (f.rng j x q.1 q.2 (jQq hej e2)) hx.2⟩
  exact⟨go M (marks W k) fun a b ha hb=>(same a b ha hb).mp,go (marks W k) M fun a b ha hb=>(same a b ha hb).mpr⟩
 constructor
 ·intro z
  exact inner.mp (Prod.mk.inj z).2
 ·intro z
  have fin:=finer f k i j es fs hei hej z
  rw[(mm i hi).2,(mm j hj).2] at fin
  unfold rowOf
  rw[(same i j hi hj).mpr (lJr fin),inner.mpr z]
noncomputable def rowT (x:Row):List T:=[.int x.1,.tup (x.2.map fun p=> .tup [.int p.1,.int p.2])]
noncomputable def rowK (x:Row):L2.TKey:=[.inl (.inl x.1),.inr (x.2.map fun p=> .inr [.inl p.1,.inl p.2])]
theorem pairs_key:∀ps:List (Nat×Nat),allK key1 (ps.map fun p=>T.tup [.int p.1,.int p.2])=some (ps.map fun p=> .inr [.inl p.1,.inl p.2])
 | []=>rfl
 | p::ps=>by
  rw[lJh]
  unfold allK
  rw[pairs_key ps]
  rfl
theorem kUb (x:Row):jQ9 (rowT x)=some (rowK x):=by
 have e:key2 (T.tup (x.2.map fun p=>T.tup [.int p.1,.int p.2]))=some (.inr (x.2.map fun p=> .inr [.inl p.1,.inl p.2])):=by
  show (allK key1 _).map Sum.inr=_
  rw[pairs_key];rfl
 unfold jQ9 rowT
 unfold allK
 rw[show allK key2 [T.tup (x.2.map fun p=>T.tup [.int p.1,.int p.2])]=some [.inr (x.2.map fun p=> .inr [.inl p.1,.inl p.2])] by unfold allK;rw[e];rfl]
 rfl
theorem row_skey (x:Row):SKey true (rowT x) (rowK x):=by
 refine⟨kUb x,rfl,?_⟩
 show ((true:Bool)&&((x.2.map fun p=>(Sum.inr [Sum.inl (p.1:Int),Sum.inl (p.2:Int)]:L2.K1)).all (intS intK)&&true))=true
 rw[Bool.true_and,Bool.and_true,lKy]
 intro k hk
 obtain⟨p,_,rfl⟩:=lJg.mp hk
 rfl
theorem pairs_lt:∀ps qs:List (Nat×Nat),(L3.lexLt (ltS ltI) (ps.map fun p=>(Sum.inr [Sum.inl (p.1:Int),Sum.inl (p.2:Int)]:L2.K1)) (qs.map fun p=>Sum.inr [Sum.inl (p.1:Int),Sum.inl (p.2:Int)])).isSome=true
 | [],[]=>rfl
 | [],_::_=>rfl
 | _::_,[]=>rfl
 | p::ps,q::qs=>by
  rw[lJh,lJh]
  unfold L3.lexLt
  split
  ·exact pairs_lt ps qs
  ·show (L3.lexLt ltI [Sum.inl (p.1:Int),Sum.inl (p.2:Int)] [Sum.inl (q.1:Int),Sum.inl (q.2:Int)]).isSome=true
   unfold L3.lexLt
   split
   ·unfold L3.lexLt
    split
    ·rfl
    ·rfl
   ·rfl
theorem row_lt (x y:Row):(ltK (rowK x) (rowK y)).isSome=true:=by
 unfold ltK rowK L3.lexLt
 split
 ·unfold L3.lexLt
  split
  ·rfl
  ·exact pairs_lt x.2 y.2
 ·rfl
theorem row_inj {x y:Row} (h:rowK x=rowK y):x=y:=by
 obtain⟨a,ps⟩:=x
 obtain⟨b,qs⟩:=y
 unfold rowK at h
 simp only[lK2,Sum.inl.injEq,Sum.inr.injEq,and_true] at h
 have e1:a=b:=by
  have:=h.1
  exact Int.ofNat.inj this
 subst e1
 have:∀ps qs:List (Nat×Nat),(ps.map fun p=>(Sum.inr [Sum.inl (p.1:Int),Sum.inl (p.2:Int)]:L2.K1))=(qs.map fun p=>Sum.inr [Sum.inl (p.1:Int),Sum.inl (p.2:Int)])->ps=qs:=by
  intro ps
  induction ps with
  | nil=>intro qs e;cases qs with | nil=>rfl | cons _ _=>cases e
  | cons p ps ih=>
   intro qs e
   cases qs with
   | nil=>cases e
   | cons q qs=>
    rw[lJh,lJh,lK2] at e
    have e1:=e.1
    simp only[Sum.inr.injEq,lK2,Sum.inl.injEq,and_true] at e1
    rw[ih qs e.2]
    have h1:p.1=q.1:=Int.ofNat.inj e1.1
    have h2:p.2=q.2:=Int.ofNat.inj e1.2
    rw[Prod.ext h1 h2]
 rw[this ps qs h.2]
theorem idx_first {κ:Type} [DecidableEq κ] {ks:List κ} {k:κ} (h:k∈ks):ks[ix1 ks k]? =some k/\∀m,m<ix1 ks k->ks[m]? ≠some k:=by
 unfold ix1
 have hi:=lKd h
 refine⟨by rw[lJa hi,lKu],fun m hm e=> ?_⟩
 obtain⟨hm',e'⟩:=lJb.mp e
 have:=List.not_of_lt_findIdx (p:=(· == k)) (xs:=ks) hm
 rw[e'] at this
 simp at this
noncomputable def jQe:Sp3:=fun xs G Q=>∃W:Web,xs=[encW W]/\Fine W/\W.length<=60/\∀q G' M,G q=none->G' q=some (.lst (jJl M))->M.length=W.length->num M=marks W W.length->Sub G G'->Q (.ref q) G'
noncomputable def N_l_kinds:List Str:=["_law_web_here","_law_marks","_law_turn_here","_law_rows","_law_some","_law_doors","_law_room","_law_other","_law_door","_law_row"]
noncomputable def jX8:TS3:=
 (tSeq (tAsg (jQ5 [false,false,false,false,false,true,false,false,false,false] (iSeq (tVar 0)) (jJj 5) jUh (tCB rLen (jJc (tVar 5) tNil))) (jJj 1))
 (tSeq (tFor (jKt (jJc (tCB rLen (jJc (tVar 0) tNil)) tNil)) (jJj 2) (tSeq (tAsg (jQ5 [false,false,false,false,false,false,true,false,false,false] (jKt (jJc (tCB rLen (jJc (tVar 0) tNil)) tNil)) (jJj 6) jUh (tTup (jJc (tOp rIxF (tVar 1) (tVar 6)) (jJc (tCB jJ9 (jJc (jQ5 [false,false,false,false,false,false,false,true,true,false] (iSeq (tOp rIxF (tVar 0) (tVar 6))) (gTup 2 (jKg (jJj 7) (jKg (jJj 8) gNil))) jUh (tTup (jJc (tVar 8) (jJc (tOp rIxF (tVar 1) (tVar 7)) tNil)))) tNil)) tNil)))) (jJj 3))
 (tSeq (tAsg (tSSet (jJc (tVar 3) tNil)) (jJj 4))
 (tAsg (jQ5 [false,false,false,false,false,false,false,false,false,true] (iSeq (tVar 3)) (jJj 9) jUh (tBM "list" rIndexK (tVar 4) (jJc (tVar 9) tNil))) (jJj 1)))))
 (tRet (tVar 1))))
theorem rdok_l_kinds:∀xs G Q,jQe xs G Q->jX8 {nx:=fun _ G'=>Q .non G',rt:=Q} (jJk N_l_kinds xs) G:=by
 intro xs G Q h_;apply xe1 h_;clear h_;intro W h_;apply ae3 h_;clear h_;intro fine hl kk
 rw[show jJk N_l_kinds [encW W]=[some (.tup (W.map encR)),none,none,none,none,none,none,none,none,none] from rfl]
 have hs:=sz
 wp_walk using 1,jX8,jJ5,jKt,iSeq
 refine jKd (es:=W) (enc:=encR) (fun es=>T.int (es.length:Nat)) (by omega) (fun _ _=>trivial) ?_ ?_
 ·intro i es he G' K K0 s hk
  wp_walk using 1,encR,lJc
  exact hk G' (.refl _)
 intro p0 G1 hp0 h1 s1
 rw[lJc]
 refine⟨by omega,by omega,?_⟩
 rw[show ((W.length:Nat):Int).toNat=W.length by omega]
 let J1:Nat->St3->Gp->Prop:=fun k τ G'=>∃(q:Addr) (M:List Nat) (v2 v3 v4:Option T),τ=[some (.tup (W.map encR)),some (.ref q),v2,v3,v4,none,none,none,none,none]/\G q=none/\G' q=some (.lst (jJl M))/\M.length=W.length/\num M=marks W k/\Sub G G'
 refine⟨J1,?_,?_,?_,?_⟩
 ·exact⟨p0,W.map List.length,none,none,none,rfl,hp0,by rw[h1];simp[jJl,lJj],by simp,rfl,s1⟩
 ·intros;trivial
 ·intro k y τ G3 hy h_;apply xe5 h_;clear h_;intro q M v2 v3 v4 h_;apply ae5 h_;clear h_;intro i1 i2 i3 i4 i5
  obtain⟨hk,rfl⟩:=jUv hy
  wp_walk using 1,jKt,lJc
  refine⟨by omega,by omega,?_⟩
  rw[show ((W.length:Nat):Int).toNat=W.length by omega,jV8]
  refine jKd (es:=List.range W.length) (enc:=fun (r:Nat)=>T.int r) (fun r=>T.tup (rowT (rowOf M r (row W r)))) (by simp;omega) (fun _ _=>trivial) ?_ ?_
  ·intro i r hr G' K K0 s hK
   have hr':r<W.length:=by have:=lJn.mp (lJf hr);exact this
   have hes:W[r]? =some (row W r):=by unfold row;rw[lJa hr'];rfl
   generalize row W r=es at hes hK
   wp_walk using 1,iSeq,jKk (s _ _ i2),getD_at (show r<M.length by omega)
   refine⟨encR es,by rw[atN,lJe,hes];rfl,es.map encE,rfl,?_⟩
   have hel:=fine.row r es hes
   refine jKd (es:=es) (enc:=encE) (fun e=>T.tup [.int (e.2:Nat),.int (M.getD e.1 0:Nat)]) (by omega) (fun _ _=>rfl) ?_ ?_
   ·intro i e hi G'' K' K0' s' hK'
    have hlt:=fine.rng r i e.1 e.2 (jQq hes hi)
    wp_walk using 1,encE,jKk ((s.trans s') _ _ i2),getD_at (show e.1<M.length by omega)
    exact⟨by omega,hK' G'' (.refl _)⟩
   ·intro D G'' hD q1 q2
    refine⟨_,jJm q1,by omega,?_⟩
    have:=hK G'' q2
    rw[rowOf,rowT,lJj] at this
    exact this
  ·intro p3 G4 hp3 h4 s4
   have hrows:((List.range W.length).map fun r=>T.tup (rowT (rowOf M r (row W r))))=(jXk W M).map fun x=>T.tup (rowT x):=by
    unfold jXk;rw[lJj];rfl
   rw[hrows] at h4
   have hrl:=jYs (W:=W) (M:=M)
   wp_walk using 1,tSSet,iSeq
   refine⟨true,(jXk W M).map fun x=>(rowT x,rowK x),?_,⟨(jXk W M).map rowK,by rw[lJc];omega,fun e he=>by obtain⟨x,hx,rfl⟩:=lJg.mp he;exact lJg.mpr ⟨x,hx,rfl⟩⟩,?_,?_,fun p4 ys kys hp4 ris=> ?_⟩
   ·simp only[jXf,h4,asL,lJj];rfl
   ·intro e he
    obtain⟨x,_,rfl⟩:=lJg.mp he
    exact row_skey x
   ·intro e he e' he'
    obtain⟨x,_,rfl⟩:=lJg.mp he
    obtain⟨x',_,rfl⟩:=lJg.mp he'
    exact row_lt x x'
   have hkeys:∀x,x∈jXk W M->rowK x∈kys.map (·.2):=by
    intro x hx
    have:=(ris.mem (.tup (rowT x))).mpr (lJg.mpr ⟨(rowT x,rowK x),lJg.mpr ⟨x,hx,rfl⟩,rfl⟩)
    rw[ris.eq] at this
    obtain⟨e,he,ee⟩:=lJg.mp this
    have e1:e.1=rowT x:=T.tup.inj ee
    have e2:=ris.keys e he
    rw[e1,kUb] at e2
    exact lJg.mpr ⟨e,he,(lJr e2).symm⟩
   have h43:=jJh h4 hp4
   refine⟨_,jJm (by rw[jJu h43];exact h4),?_⟩
   refine jKd (es:=jXk W M) (enc:=fun x=>T.tup (rowT x)) (fun x=>T.int (ix1 (kys.map (·.2)) (rowK x):Nat)) (by omega) (fun G' s=>jJm (s _ _ (by rw[jJu h43];exact h4))) ?_ ?_
   ·intro i x hx G' K K0 s hK
    have hm:=hkeys x (lJf hx)
    wp_walk using 1,rIndexK
    obtain⟨f1,f2⟩:=idx_first hm
    have hG4:G' p4=some (.lst (kys.map fun e=> .tup e.1)):=by rw[<-ris.eq];exact s _ _ jJi
    refine⟨by rw[jK0 hG4];trivial,kys,hG4,ris.keys,rowK x,kUb x,_,f1,f2,hK G' (.refl _)⟩
   ·intro D G5 hD q1 q2
    have hDG:G D=none:=jVf (i5.trans s4) (by
     by_cases e:D=p4
     ·subst e;rw[jJi] at hD;cases hD
     ·rw[jJu e] at hD;exact hD)
    refine⟨D,(jXk W M).map fun x=>ix1 (kys.map (·.2)) (rowK x),_,_,_,rfl,hDG,by rw[q1];simp[jJl,lJj],by rw[lJc,hrl],?_,((i5.trans s4).trans (.new hp4)).trans q2⟩
    rw[<-rows_num fine i3 i4]
    exact jXo fun x y hx hy e=>row_inj (jVp (hkeys x hx) e)
 ·intro τ G3 h_;apply xe5 h_;clear h_;intro q M v2 v3 v4 h_;apply ae5 h_;clear h_;intro i1 i2 i3 i4 i5
  rw[jQh] at i4
  wp_walk using 1,tSeq
  exact kk q G3 M i1 i2 i3 i4 i5
noncomputable def jKs:Sp3:=fun xs G Q=>∃W:Web,xs=[encW W]/\Fine W/\W.length<=60/\∀q G',G q=none->G' q=some (.lst (jJl (mk W)))->Sub G G'->Q (.ref q) G'
noncomputable def N_l_folds:List Str:=["_law_web_here","_law_marks","_law_met","_law_mark"]
noncomputable def jX9:TS3:=
 (tSeq (tAsg (jJy jQe (jJc (tVar 0) tNil)) (jJj 1))
 (tSeq (tAsg (tLst tNil) (jJj 2))
 (tSeq (tFor (iSeq (tVar 1)) (jJj 3) (tIfS (jKw (tOp jUf (tVar 3) (tVar 2))) (jV7 (tBM "list" jQm (tVar 2) (jJc (tVar 3) tNil))) jQn))
 (tRet (jQ5 [false,false,false,true] (iSeq (tVar 1)) (jJj 3) jUh (tBM "list" kQh (tVar 2) (jJc (tVar 3) tNil)))))))
theorem rdok_l_folds:∀xs G Q,jKs xs G Q->jX9 {nx:=fun _ G'=>Q .non G',rt:=Q} (jJk N_l_folds xs) G:=by
 intro xs G Q h_;apply xe1 h_;clear h_;intro W h_;apply ae3 h_;clear h_;intro fine hl kk
 rw[show jJk N_l_folds [encW W]=[some (.tup (W.map encR)),none,none,none] from rfl]
 have hs:=sz
 wp_walk using 1,jX9,jJ5,iSeq
 refine⟨W,rfl,fine,hl,fun q0 G1 M hq0 h1 hM hnum s1=> ?_⟩
 refine⟨by omega,fun p hp=> ?_⟩
 have hqp:=jJh h1 hp
 refine⟨_,jJm (by rw[jJu hqp];exact h1),?_⟩
 have hfl:∀k,(jJo (M.take k)).length<=60:=by
  intro k
  have h1:(jJo (M.take k)).length<=(M.take k).length:=(jXr _).length_le_of_subset fun x hx=>firsts_mem.mp hx
  rw[lK9] at h1
  omega
 let J1:Nat->St3->Gp->Prop:=fun k τ G'=>∃(v3:Option T),τ=[some (.tup (W.map encR)),some (.ref q0),some (.ref p),v3]/\G' p=some (.lst (jJl (jJo (M.take k))))/\Sub G1 G'
 refine⟨J1,?_,?_,?_,?_⟩
 ·exact⟨none,rfl,jJi,.new hp⟩
 ·intro k τ G' hk h_;apply xe1 h_;clear h_;intro v3 h_;apply ae2 h_;clear h_;intro i1 i2
  exact jJm (i2 _ _ h1)
 ·intro k x τ G2 hx0 h_;apply xe1 h_;clear h_;intro v3 h_;apply ae2 h_;clear h_;intro i1 i2
  obtain⟨m,hm,rfl⟩:=jKm hx0
  have hstep:jJo (M.take (k+1))=fst1 (jJo (M.take k)) m:=jVd hm
  have:=hfl k
  wp_walk using 1,jUf,inR_ints i1,jK0 i1,i1
  by_cases hin:m∈jJo (M.take k)
  ·rw[if_neg (by simp[hin])]
   refine xi1 _ rfl ⟨?_,i2⟩
   rw[hstep];unfold fst1;rw[if_pos hin];exact i1
  ·rw[if_pos (by simp[hin])]
   refine⟨by rw[jJl,lJc];omega,xi1 _ rfl ⟨?_,i2.over hp⟩⟩
   rw[hstep,jJi];unfold fst1;rw[if_neg hin]
   simp[jJl]
 ·intro τ G2 h_;apply xe1 h_;clear h_;intro v3 h_;apply ae2 h_;clear h_;intro i1 i2
  rw[show (jJl M).length=M.length by simp[jJl],lKt] at i1
  wp_walk using 1,iSeq
  refine⟨_,jJm (i2 _ _ h1),?_⟩
  refine jKd (es:=M) (enc:=fun (m:Nat)=>T.int m) (fun m=>T.int (ix1 (jJo M) m:Nat)) (by omega) (fun G' s=>jJm (s _ _ (i2 _ _ h1))) ?_ ?_
  ·intro i m hm G' K K0 s hK
   have hmem:m∈jJo M:=firsts_mem.mpr (lJf hm)
   wp_walk using 1,kQh
   have hG':=s _ _ i1
   obtain⟨f1,f2⟩:=idx_first hmem
   refine⟨by rw[jK0 hG'];trivial,_,hG',rfl,jXq,.int (m:Nat),ix1 (jJo M) m,by simp[jJl,f1],by simp[eqT],fun j t hj ht=> ?_,hK G' (.refl _)⟩
   obtain⟨y,hy,rfl⟩:=jKm ht
   have ne:y≠m:=fun z=>f2 j hj (by rw[hy,z])
   have ne':¬ (y:Int)=m:=by omega
   simp[eqT,ne']
  ·intro D G3 hD q1 q2
   have hDG:G D=none:=jVf (s1.trans i2) hD
   refine kk D G3 hDG ?_ ((s1.trans i2).trans q2)
   rw[q1,show mk W=num M from hnum.symm]
   unfold num ix1
   simp[jJl,lJj]
theorem jQ8 {W:Web} {r:Nat} (h:r<W.length):(mk W)[r]? =some (nuF (mk W) r)/\nuF (mk W) r<nk W/\(mk W).getD r 0=nuF (mk W) r:=by
 obtain⟨v,h1,h2⟩:=kQa h
 have e:nuF (mk W) r=v:=jQb h1
 rw[e]
 exact⟨h1,h2,jVc h1⟩
theorem row_en {W:Web} {r:Nat} (i:Nat):(row W r)[i]? =en W r i:=by
 unfold row en
 cases W[r]? <;>simp
theorem fw_row {W:Web} (f:Fine W) {r:Nat} (h:r<W.length):row (fw W) (nuF (mk W) r)=renE (mk W) (row W r):=by
 obtain⟨h1,h2,_⟩:=jQ8 h
 obtain⟨q1,q2,_⟩:=jYh h2
 apply lJx
 intro i
 rw[row_en,en_fw h2]
 unfold renE
 rw[lJe,row_en]
 have same:(mk W)[r]? =(mk W)[fr W (nuF (mk W) r)]? :=by rw[h1,q1]
 cases e:en W r i with
 | none=>
  cases e':en W (fr W (nuF (mk W) r)) i with
  | none=>rfl
  | some p=>
   obtain⟨s',z,_⟩:=kU6 f q2 h same.symm (s:=p.1) (j:=p.2) e'
   rw[e] at z;cases z
 | some p=>
  obtain⟨s',z1,z2⟩:=kU6 f h q2 same (s:=p.1) (j:=p.2) e
  rw[z1]
  show some (nuF (mk W) s',p.2)=some (nuF (mk W) p.1,p.2)
  have l1:=f.rng _ _ _ _ e
  have l2:=f.rng _ _ _ _ z1
  rw[(jQ8 l1).1,(jQ8 l2).1] at z2
  rw[lJr z2]
theorem fine_fw {W:Web} (f:Fine W):Fine (fw W):=by
 have hk:nk W<=W.length:=by
  unfold nk
  have:=jUs (ls:=mk W)
  rw[jUx] at this
  exact this
 refine⟨by rw[jKy];have:=f.len;omega,fun r es h=> ?_,fun r i s j h=> ?_⟩
 ·have hr:r<nk W:=by rw[<-jKy];exact (lJb.mp h).1
  obtain⟨_,q2,_⟩:=jYh hr
  have e1:(fw W)[r]? =some (renE (mk W) (row W (fr W r))):=by unfold fw;rw[lJe,lJw hr];rfl
  rw[e1] at h;cases h
  have e2:W[fr W r]? =some W[fr W r]:=lJa q2
  rw[jQl e2]
  unfold renE
  rw[lJc]
  exact f.row _ _ e2
 ·have hr:r<nk W:=by
   obtain⟨es,q1,_⟩:=jQ6 h
   rw[<-jKy];exact (lJb.mp q1).1
  rw[en_fw hr] at h
  obtain⟨e,q1,q2⟩:=lKi.mp h
  cases q2
  rw[jKy]
  exact (jQ8 (f.rng _ _ _ _ q1)).2.1
noncomputable def lift (W:Web) (k:Nat):List Nat:=(List.range W.length).map fun r=>(marks (fw W) k).getD (nuF (mk W) r) 0
theorem jXh {W:Web} {k r:Nat} (h:r<W.length):(lift W k)[r]? =some ((marks (fw W) k).getD (nuF (mk W) r) 0):=by
 unfold lift;rw[lJe,lJw h];rfl
theorem jXg {W:Web} {k:Nat}:(lift W k).length=W.length:=by unfold lift;rw[lJc,lJ1]
theorem kQp {W:Web} {k a:Nat} (h:a<nk W):(marks (fw W) k)[a]? =some ((marks (fw W) k).getD a 0):=by
 rw[lQn,lJa (by rw[jJ0,jKy];exact h)];rfl
theorem lift_num {W:Web} (f:Fine W):∀k,num (lift W k)=marks W k
 | 0=>by
  show _=num (W.map List.length)
  refine num_pat (by rw[jXg,lJc]) fun i j a b c d ha hb hc hd=> ?_
  have hi:i<W.length:=by rw[<-jXg (W:=W) (k:=0)];exact (lJb.mp ha).1
  have hj:j<W.length:=by rw[<-jXg (W:=W) (k:=0)];exact (lJb.mp hb).1
  rw[jXh hi] at ha;rw[jXh hj] at hb
  cases ha;cases hb
  have len:∀r,r<W.length->((fw W).map List.length)[nuF (mk W) r]? =some (row W r).length:=by
   intro r hr
   have h2:nuF (mk W) r<(fw W).length:=by rw[jKy];exact (jQ8 hr).2.1
   have e:=fw_row f hr
   rw[lJe,lJa h2]
   have e3:row (fw W) (nuF (mk W) r)=(fw W)[nuF (mk W) r]:=jQl (lJa h2)
   rw[e3] at e
   show some ((fw W)[nuF (mk W) r]).length=_
   rw[e];unfold renE;rw[lJc]
  have rl:∀r,r<W.length->(W.map List.length)[r]? =some (row W r).length:=by
   intro r hr
   rw[lJe,lJa hr]
   show some (W[r]).length=_
   rw[jQl (lJa hr)]
  rw[rl i hi] at hc;rw[rl j hj] at hd
  cases hc;cases hd
  exact kJo (ls:=marks (fw W) 0) (ms:=(fw W).map List.length) (jKv 0) (kQp (jQ8 hi).2.1) (kQp (jQ8 hj).2.1) (len i hi) (len j hj)
 | k+1=>by
  rw[<-rows_num f jXg (lift_num f k)]
  refine num_pat (by rw[jXg,jYs]) fun i j a b c d ha hb hc hd=> ?_
  have hi:i<W.length:=by rw[<-jXg (W:=W) (k:=k+1)];exact (lJb.mp ha).1
  have hj:j<W.length:=by rw[<-jXg (W:=W) (k:=k+1)];exact (lJb.mp hb).1
  rw[jXh hi] at ha;rw[jXh hj] at hb
  cases ha;cases hb
  have hei:W[i]? =some W[i]:=lJa hi
  have hej:W[j]? =some W[j]:=lJa hj
  rw[kUa hei] at hc;rw[kUa hej] at hd
  cases hc;cases hd
  have tp:∀r (hr:r<W.length),(tups (fw W) (marks (fw W) k))[nuF (mk W) r]? =some (W[r].map fun e=>(e.2,(lift W k).getD e.1 0)):=by
   intro r hr
   have h2:nuF (mk W) r<(fw W).length:=by rw[jKy];exact (jQ8 hr).2.1
   have e:=fw_row f hr
   have e3:row (fw W) (nuF (mk W) r)=(fw W)[nuF (mk W) r]:=jQl (lJa h2)
   rw[e3,jQl (lJa hr)] at e
   rw[jK7 (lJa h2),e]
   unfold renE
   rw[lJj]
   congr 1
   refine lKl fun p hp=> ?_
   obtain⟨x,hx⟩:=lJm hp
   have hlt:=f.rng r x p.1 p.2 (jQq (lJa hr) hx)
   show (p.2,(marks (fw W) k).getD (nuF (mk W) p.1) 0)=(p.2,(lift W k).getD p.1 0)
   rw[jVc (jXh hlt)]
  have key:=kJo (ls:=marks (fw W) (k+1)) (ms:=tups (fw W) (marks (fw W) k)) (jKv (k+1)) (kQp (jQ8 hi).2.1) (kQp (jQ8 hj).2.1) (tp i hi) (tp j hj)
  rw[key]
  constructor
  ·intro z
   have h2i:nuF (mk W) i<(fw W).length:=by rw[jKy];exact (jQ8 hi).2.1
   have h2j:nuF (mk W) j<(fw W).length:=by rw[jKy];exact (jQ8 hj).2.1
   have ti:=tp i hi
   have tj:=tp j hj
   rw[jK7 (lJa h2i)] at ti
   rw[jK7 (lJa h2j)] at tj
   have fin:=finer (fine_fw f) k _ _ _ _ (lJa h2i) (lJa h2j) ((lJr ti).trans (z.trans (lJr tj).symm))
   rw[kQp (jQ8 hi).2.1,kQp (jQ8 hj).2.1] at fin
   unfold rowOf
   rw[jVc (jXh hi),jVc (jXh hj),lJr fin,z]
  ·intro z
   exact (Prod.mk.inj z).2
theorem num_nodup {ls:List Nat} (h:ls.Nodup):num ls=List.range ls.length:=by
 have key:∀k,k<=ls.length->jJo (ls.take k)=ls.take k:=by
  intro k
  induction k with
  | zero=>intro _;rfl
  | succ k ih=>
   intro hk
   have e:ls[k]? =some ls[k]:=lJa (by omega)
   have hn:ls[k]∉ls.take k:=by
    intro hm
    obtain⟨i,hi,ei⟩:=lK6 hm
    rw[lK9] at hi
    rw[List.getElem_take] at ei
    have:=(List.getElem_inj (h₀:=by omega) (h₁:=by omega) h).mp ei
    omega
   rw[jVd e,ih (by omega),lKz,e]
   unfold fst1
   rw[if_neg hn];rfl
 have hf:jJo ls=ls:=by have:=key ls.length (lJd _);rwa [lKt] at this
 apply lJx
 intro i
 by_cases hi:i<ls.length
 ·rw[jQr (lJa hi),lJw hi,hf]
  congr 1
  have hm:ls[i]∈ls:=lQv hi
  have h1:=lKd hm
  have e1:ls[ls.idxOf ls[i]]? =some ls[i]:=by rw[lJa h1,lKu]
  exact (lKm h1 h).mp (e1.trans (lJa hi).symm)
 ·rw[lJk (by rw[kJ7];omega),lJk (by rw[lJ1];omega)]
theorem marks_range {V:Web} {k:Nat} (h:(marks V k).Nodup):marks V k=List.range V.length:=by
 have:=num_nodup h
 rw[jKv,jJ0] at this
 exact this
theorem mk_fw {W:Web} (f:Fine W):mk (fw W)=List.range (nk W):=by
 have hk:nk W<=W.length:=by
  unfold nk
  have:=jUs (ls:=mk W)
  rw[jUx] at this
  exact this
 rw[<-mk_late (fine_fw f) (n:=W.length) (by rw[jKy];exact hk)]
 rw[marks_range,jKy]
 refine List.pairwise_iff_getElem.mpr fun a b ha hb hab e=> ?_
 rw[jJ0,jKy] at ha hb
 obtain⟨a1,a2,_⟩:=jYh ha
 obtain⟨b1,b2,_⟩:=jYh hb
 have na:nuF (mk W) (fr W a)=a:=jQb a1
 have nb:nuF (mk W) (fr W b)=b:=jQb b1
 have la:=jXh (k:=W.length) a2
 have lb:=jXh (k:=W.length) b2
 have hn:=lift_num f W.length
 have hm':num (lift W W.length)=num (mk W):=by rw[show num (mk W)=mk W from jKv _];exact hn
 have s:=(kJo hm' la lb a1 b1).mp (by
  rw[na,nb]
  rw[jVc (lJa (by rw[jJ0,jKy];exact ha)),jVc (lJa (by rw[jJ0,jKy];exact hb))]
  exact e)
 omega
noncomputable def jKh:Sp3:=fun xs G Q=>∃W:Web,xs=[encW W]/\Fine W/\∀G',Sub G G'->Q (.tup (jJl (mk W))) G'
noncomputable def kQ0:List Str:=["web"]
noncomputable def jXd:TS3:=
 (tRet (tCB jJ9 (jJc (jJy jJz (jJc (tVar 0) (jJc (tCB rLen (jJc (tVar 0) tNil)) tNil))) tNil)))
theorem kUg:∀xs G Q,jKh xs G Q->jXd {nx:=fun _ G'=>Q .non G',rt:=Q} (jJk kQ0 xs) G:=by
 intro xs G Q h_;apply xe1 h_;clear h_;intro W h_;apply ae2 h_;clear h_;intro fine kk
 rw[show jJk kQ0 [encW W]=[some (.tup (W.map encR))] from rfl]
 have hl:=fine.len
 wp_walk using 1,jXd,lJc
 exact⟨W,W.length,rfl,fine,hl,fun q G1 hq hG1 s1=>⟨_,jJm hG1,kk G1 s1⟩⟩
noncomputable def jQy:Sp3:=fun xs G Q=>∃W:Web,xs=[encW W]/\Fine W/\∀G',Sub G G'->Q (encW (fw W)) G'
noncomputable def N_folded:List Str:=["web","numbers","kind"]
noncomputable def jY3:TS3:=
 (tSeq (tAsg (jJy jKh (jJc (tVar 0) tNil)) (jJj 1))
 (tRet (tCB jJ9 (jJc (jQ5 [false,false,true] (iSeq (jJy jUu (jJc (tVar 0) tNil))) (jJj 2) jUh (jJy jKz (jJc (tOp rIxF (tVar 0) (tOp rIxF (tVar 2) (tC (.int 0)))) (jJc (tVar 1) tNil)))) tNil))))
theorem rdok_folded:∀xs G Q,jQy xs G Q->jY3 {nx:=fun _ G'=>Q .non G',rt:=Q} (jJk N_folded xs) G:=by
 intro xs G Q h_;apply xe1 h_;clear h_;intro W h_;apply ae2 h_;clear h_;intro fine kk
 rw[show jJk N_folded [encW W]=[some (.tup (W.map encR)),none,none] from rfl]
 have hl:=fine.len
 have hs:=sz
 wp_walk using 1,jY3,iSeq
 refine⟨W,rfl,fine,fun G1 s1=> ?_⟩
 wp_walk using 1,tSeq
 refine⟨W,rfl,fine,fun q rs G2 hq hrs hnd R s2=>⟨_,jJm R.1,?_⟩⟩
 have hrl:rs.length=nk W:=by rw[R.2.1];show (LsN (LL (mk W))).length=_;unfold LsN;rw[lJc,LL_mk,lJc,lJ1]
 have hnk:nk W<=W.length:=by
  have:=jUs (ls:=mk W)
  rw[jUx] at this;exact this
 have hz:(rs.zipIdx.map fun p=>T.ref p.1)=rs.map T.ref:=by
  rw[show (fun p:Addr×Nat=>T.ref p.1)=T.ref∘Prod.fst from rfl,<-lJj,List.zipIdx_map_fst]
 rw[<-hz]
 refine jKd (fun p=>encR (renE (mk W) (row W (fr W p.2)))) (by rw[List.length_zipIdx];omega) (fun G' s=> ?_) ?_ ?_
 ·rw[hz]
  exact jJm (s _ _ R.1)
 ·intro i p hp G3 K K0 s3 hk
  rw[List.getElem?_zipIdx] at hp
  cases hr:rs[i]? with
  | none=>rw[hr] at hp;cases hp
  | some r=>
   rw[hr] at hp;cases hp
   simp only[Nat.zero_add] at hk
   have hi:i<nk W:=by rw[<-hrl];exact (lJb.mp hr).1
   obtain⟨ts,h1,h2⟩:=R.2.2 i r hr
   have h1:(LsN (LL (mk W)))[i]? =some ts:=h1
   unfold LsN at h1
   rw[LL_mk,lJj,lJe,lJw hi] at h1
   cases h1
   have h2:G2 r=some (.lst (jJl (grp (mk W) W.length i))):=h2
   obtain⟨f1,f2,_⟩:=jYh hi
   have eW:W[fr W i]? =some W[fr W i]:=lJa f2
   rw[jQl eW] at hk
   have h0:L2.atI (jJl (grp (mk W) W.length i)) 0=some (.int (fr W i:Nat)):=jXv (x:=0) (grp_head hi)
   wp_walk using 1,jKk (s3 _ _ h2),h0,jXs eW
   refine⟨_,mk W,_,rfl,.inl rfl,fun e he=> ?_,fine.row _ _ eW,fun G4 s4=>hk G4 s4⟩
   obtain⟨j,hj⟩:=lJm he
   rw[jUx];exact fine.rng _ j e.1 e.2 (jQq eW hj)
 ·intro D G3 hD h1 s3
  refine⟨_,jJm h1,?_⟩
  have e:(rs.zipIdx.map fun p=>encR (renE (mk W) (row W (fr W p.2))))=(fw W).map encR:=by
   unfold fw
   rw[lJj]
   apply lJx
   intro i
   rw[lJe,lJe,List.getElem?_zipIdx]
   by_cases hi:i<nk W
   ·have hr:rs[i]? =some (rs[i]'(by rw[hrl];exact hi)):=lJa _
    rw[hr,lJw hi];simp
   ·rw[lJk (by omega),lJk (by rw[lJ1];omega)];rfl
  rw[e]
  exact kk G3 ((s1.trans s2).trans s3)
noncomputable def PlN:Nat->T->Prop
 | 0,t=>∃i,t= .int i
 | n+1,t=>(∃i,t= .int i)\/∃ts,t= .tup ts/\ts.length<=2000/\∀u,u∈ts->PlN n u
noncomputable def jZ8 (n:Nat):Sp3:=fun xs G Q=>∃t,xs=[t,t]/\PlN n t/\∀G',Sub G G'->Q (.bl true) G'
section
variable (jVs:Sp3)
noncomputable def kJy:List Str:=["_law_found","_law_due","_law_one","_law_other"]
noncomputable def jVy:TS3:=
 (tSeq (tIfS (jKw (tCB rIsi (jJc (tVar 1) (jJc (tC (.ty "list")) tNil)))) (tSeq (tIfS (tOr (tNot (jKw (tCB rIsi (jJc (tVar 0) (jJc (tC (.ty "list")) tNil))))) (jKw (tOp rNeA (tCB rLen (jJc (tVar 0) tNil)) (tCB rLen (jJc (tVar 1) tNil))))) (tRet (tC (.bl false))) jQn)
 (tRet (tCB rAll (jJc (jQ5 [false,false,true,true] (iZip (jJc (tVar 0) (jJc (tVar 1) tNil))) (gTup 2 (jKg (jJj 2) (jKg (jJj 3) gNil))) jUh (jJy jVs (jJc (tVar 2) (jJc (tVar 3) tNil)))) tNil)))) jQn)
 (tSeq (tIfS (jKw (tCB rIsi (jJc (tVar 1) (jJc (tC (.ty "tuple")) tNil)))) (tSeq (tIfS (tOr (tNot (jKw (tCB rIsi (jJc (tVar 0) (jJc (tC (.ty "tuple")) tNil))))) (jKw (tOp rNeA (tCB rLen (jJc (tVar 0) tNil)) (tCB rLen (jJc (tVar 1) tNil))))) (tRet (tC (.bl false))) jQn)
 (tRet (tCB rAll (jJc (jQ5 [false,false,true,true] (iZip (jJc (tVar 0) (jJc (tVar 1) tNil))) (gTup 2 (jKg (jJj 2) (jKg (jJj 3) gNil))) jUh (jJy jVs (jJc (tVar 2) (jJc (tVar 3) tNil)))) tNil)))) jQn)
 (tSeq (tIfS (jKw (tOp rIsN (tVar 1) (tC .non))) (tRet (tOp rIsN (tVar 0) (tC .non))) jQn)
 (tSeq (tIfS (jKw (tCB rIsi (jJc (tVar 1) (jJc (tC (.ty "str")) tNil)))) (tRet (tAndV (tCB rIsi (jJc (tVar 0) (jJc (tC (.ty "str")) tNil))) (tOp rEqA (tVar 0) (tVar 1)))) jQn)
 (tRet (tAndV (tCB rIsi (jJc (tVar 0) (jJc (tC (.ty "int")) tNil))) (tAndV (tNotV (tCB rIsi (jJc (tVar 0) (jJc (tC (.ty "bool")) tNil)))) (tOp rEqA (tVar 0) (tVar 1)))))))))
end
theorem isi_int {G:Gp} {i:Int}:isiT G (.int i) (.ty "list")=some false/\isiT G (.int i) (.ty "tuple")=some false/\isiT G (.int i) (.ty "str")=some false/\isiT G (.int i) (.ty "int")=some true/\isiT G (.int i) (.ty "bool")=some false:=⟨rfl,rfl,rfl,rfl,rfl⟩
theorem isi_tup {G:Gp} {ts:List T}:isiT G (.tup ts) (.ty "list")=some false/\isiT G (.tup ts) (.ty "tuple")=some true:=⟨rfl,rfl⟩
theorem eqG_int {G:Gp} {a:Int}:eqG G (.int a) (.int a)=some true:=by
 rw[show eqG G (.int a) (.int a)=some (eqT (.int a) (.int a)) from rfl]
 simp[eqT]
theorem jZ0 (sp:Sp3):∀xs G Q,jZ8 0 xs G Q->jVy sp {nx:=fun _ G'=>Q .non G',rt:=Q} (jJk kJy xs) G:=by
 intro xs G Q h_;apply xe1 h_;clear h_;intro t h_;apply ae2 h_;clear h_;intro q0_ kk
 obtain⟨i,rfl⟩:=q0_
 rw[show jJk kJy [.int i,.int i]=[some (.int i),some (.int i),none,none] from rfl]
 have hs:=sz
 wp_walk using 1,jVy,rIsi,rEqA,eqG_int,isi_int
 exact kk G (.refl _)
theorem zip_self {ts:List T}:zipT ts ts=ts.map fun t=>T.tup [t,t]:=by
 unfold zipT
 induction ts with
 | nil=>rfl
 | cons a as ih=>rw[lQk,lJh,ih];rfl
theorem jYl (n:Nat):∀xs G Q,jZ8 (n+1) xs G Q->jVy (jZ8 n) {nx:=fun _ G'=>Q .non G',rt:=Q} (jJk kJy xs) G:=by
 intro xs G Q h_;apply xe1 h_;clear h_;intro t h_;apply ae2 h_;clear h_;intro ht kk
 rcases ht with h | ⟨ts,rfl,hl,hts⟩
 ·exact jZ0 _ _ _ _ ⟨t,rfl,h,kk⟩
 ·rw[show jJk kJy [.tup ts,.tup ts]=[some (.tup ts),some (.tup ts),none,none] from rfl]
  have hs:=sz
  wp_walk using 1,jVy,rIsi,rEqA,rNeA,iZip,isi_tup,eqG_int
  rw[zip_self]
  refine jKd (fun _=>T.bl true) (by omega) (fun _ _=>trivial) ?_ ?_
  ·intro i t ht G' K K0 s hk
   wp_walk using 1,tSeq
   exact⟨t,rfl,hts t (lJf ht),fun G4 s4=>hk G4 s4⟩
  ·intro D G' hD h1 h2
   refine⟨D,_,_,rfl,h1,jZi (f:=fun _=>true),?_⟩
   rw[lKy.mpr (fun _ _=>rfl)]
   exact kk G' h2
theorem pl_int {n:Nat} {i:Int}:PlN n (.int i):=by
 cases n with
 | zero=>exact⟨i,rfl⟩
 | succ n=>exact .inl ⟨i,rfl⟩
theorem pl_web {W:Web} (f:Fine W):PlN 3 (encW W):=by
 refine .inr ⟨_,rfl,by have:=f.len;rw[lJc];omega,fun u hu=> ?_⟩
 obtain⟨es,hes,rfl⟩:=lJg.mp hu
 obtain⟨r,hr⟩:=lJm hes
 refine .inr ⟨_,rfl,by have:=f.row r es hr;rw[lJc];omega,fun u hu=> ?_⟩
 obtain⟨e,_,rfl⟩:=lJg.mp hu
 refine .inr ⟨_,rfl,by simp,fun u hu=> ?_⟩
 simp only[lJu,lJi,or_false] at hu
 rcases hu with rfl | rfl<;>exact pl_int
noncomputable abbrev jVs:Sp3:=jZ8 3
structure OkD (d:Nat) (x:T):Prop where
 tr:tree x=true
 lay:(td x).canLay0=true
 dep:(td x).depth<=d
 eq:eqT x x=true
theorem okD_int {i:Int}:OkD 0 (.int i):=⟨rfl,rfl,Nat.le_of_eq (by simp[td,PyData.depth]),by simp[eqT]⟩
theorem okD_all {d:Nat}:∀xs:List T,(∀x,x∈xs->OkD d x)->jUi xs=true/\PyData.canLayAll0 (tds xs)=true/\PyData.depthAll (tds xs)<=d/\eqTs xs xs=true
 | [],_=>⟨rfl,by simp[tds,PyData.canLayAll0],by simp[tds,PyData.depthAll],rfl⟩
 | x::xs,h=>by
  obtain⟨a1,a2,a3,a4⟩:=okD_all xs fun y hy=>h y (lJs _ hy)
  obtain⟨b1,b2,b3,b4⟩:=h x (lJq ..)
  refine⟨?_,?_,?_,?_⟩
  ·show (tree x&&jUi xs)=true;rw[a1,b1];rfl
  ·rw[tds,PyData.canLayAll0,a2,b2];rfl
  ·rw[tds,PyData.depthAll];omega
  ·show (eqT x x&&eqTs xs xs)=true;rw[a4,b4];rfl
theorem okD_tup {d:Nat} {xs:List T} (h:∀x,x∈xs->OkD d x):OkD (d+1) (.tup xs):=by
 obtain⟨a1,a2,a3,a4⟩:=okD_all xs h
 exact⟨a1,by rw[td,PyData.canLay0];exact a2,by rw[td,PyData.depth];omega,a4⟩
theorem okD_web {W:Web}:OkD 3 (encW W):=by
 refine okD_tup fun x hx=> ?_
 obtain⟨es,_,rfl⟩:=lJg.mp hx
 refine okD_tup fun x hx=> ?_
 obtain⟨e,_,rfl⟩:=lJg.mp hx
 refine okD_tup fun x hx=> ?_
 simp only[lJu,lJi,or_false] at hx
 rcases hx with rfl | rfl<;>exact okD_int
theorem eqG_web {G:Gp} {W:Web}:eqG G (encW W) (encW W)=some true:=by
 have h:=okD_web (W:=W)
 have e:eqOk (encW W)=true:=by
  unfold eqOk
  rw[h.tr,h.lay,decide_eq_true (show (td (encW W)).depth<=50 by have:=h.dep;omega)];rfl
 show (if eqOk (encW W)=true/\eqOk (encW W)=true then some (eqT (encW W) (encW W)) else none)=_
 rw[if_pos ⟨e,e⟩,h.eq]
theorem mk_atI {W:Web} {r:Nat} (h:r<W.length):L2.atI (jJl (mk W)) (r:Int)=some (.int (nuF (mk W) r:Nat)):=by
 rw[atN];simp[jJl,(jQ8 h).1]
theorem mk_idx {W:Web} {n:Nat} (h:n<nk W):fr W n<W.length/\(jJl (mk W))[fr W n]? =some (.int (n:Nat))/\∀(j:Nat) (t:T),j<fr W n->(jJl (mk W))[j]? =some t->eqT t (.int (n:Nat))=false:=by
 obtain⟨q1,q2,q3⟩:=jYh h
 refine⟨q2,by simp[jJl,q1],fun j t hj ht=> ?_⟩
 obtain⟨y,hy,rfl⟩:=jKm ht
 have ne:y≠n:=fun z=>q3 j hj (by rw[hy,z])
 have ne':¬ (y:Int)=n:=by omega
 simp[eqT,ne']
theorem mk_max {W:Web} (h:1<=W.length):∃i is,jJl (mk W)=(i::is).map T.int/\jXe i is+1=(nk W:Nat):=by
 obtain⟨m,ms,e⟩:∃m ms,mk W=m::ms:=by
  cases q:mk W with
  | nil=>have:=jUx (W:=W);rw[q] at this;simp at this;omega
  | cons m ms=>exact⟨m,ms,rfl⟩
 refine⟨(m:Nat),ms.map fun (x:Nat)=>(x:Int),by rw[e];simp[jJl],?_⟩
 have hk:=nk_pos h
 have le:jXe (m:Int) (ms.map fun (x:Nat)=>(x:Int))<(nk W:Nat):=by
  have all:∀x,x∈mk W->x<nk W:=by
   intro x hx
   obtain⟨r,hr⟩:=lJm hx
   have hrl:r<W.length:=by rw[<-jUx (W:=W)];exact (lJb.mp hr).1
   obtain⟨v,h1,h2⟩:=kQa hrl
   rw[hr] at h1;cases h1
   exact h2
  rcases mostB_mem (ms.map fun (x:Nat)=>(x:Int)) (m:Int) with z | z
  ·rw[z];have:=all m (by rw[e];exact lJq ..);omega
  ·obtain⟨x,hx,ex⟩:=lJg.mp z
   have:=all x (by rw[e];exact lJs _ hx)
   rw[<-ex];omega
 have ge:((nk W-1:Nat):Int)<=jXe (m:Int) (ms.map fun (x:Nat)=>(x:Int)):=by
  obtain⟨q1,_,_⟩:=jYh (W:=W) (n:=nk W-1) (by omega)
  have hm:=lJf q1
  obtain⟨b1,b2⟩:=mostB_le (ms.map fun (x:Nat)=>(x:Int)) (m:Int)
  rw[e] at hm
  rcases (lJi.mp hm) with z | z
  ·have:((nk W-1:Nat):Int)=(m:Nat):=by omega
   omega
  ·exact b2 _ (lJg.mpr ⟨_,z,rfl⟩)
 omega
noncomputable def jQk:Sp3:=fun xs G Q=>∃W:Web,xs=[encW W]/\Fine W/\1<=W.length/\W.length<=60/\∀G',Sub G G'->Q (encW (fw W)) G'
noncomputable def N_l_fold:List Str:=["_law_web_here","_law_folds_here","_law_made","_law_number","_law_other","_law_door"]
noncomputable def jY1:TS3:=
 (tSeq (tAsg (jJy jKs (jJc (tVar 0) tNil)) (jJj 1))
 (tSeq (tAsg (tLst tNil) (jJj 2))
 (tSeq (tFor (jKt (jJc (tOp jK6 (tCB rMaxL (jJc (tVar 1) tNil)) (tC (.int 1))) tNil)) (jJj 3) (jV7 (tBM "list" jQm (tVar 2) (jJc (tCB jJ9 (jJc (jQ5 [false,false,false,false,true,true] (iSeq (tOp rIxF (tVar 0) (tBM "list" kQh (tVar 1) (jJc (tVar 3) tNil)))) (gTup 2 (jKg (jJj 4) (jKg (jJj 5) gNil))) jUh (tTup (jJc (tOp rIxF (tVar 1) (tVar 4)) (jJc (tVar 5) tNil)))) tNil)) tNil))))
 (tRet (tCB jJ9 (jJc (tVar 2) tNil))))))
theorem rdok_l_fold:∀xs G Q,jQk xs G Q->jY1 {nx:=fun _ G'=>Q .non G',rt:=Q} (jJk N_l_fold xs) G:=by
 intro xs G Q h_;apply xe1 h_;clear h_;intro W h_;apply ae4 h_;clear h_;intro fine hW1 hl kk
 rw[show jJk N_l_fold [encW W]=[some (.tup (W.map encR)),none,none,none,none,none] from rfl]
 have hs:=sz
 wp_walk using 1,jY1,jJ5,jKt,rMaxL
 refine⟨W,rfl,fine,hl,fun q G1 hq h1 s1=> ?_⟩
 obtain⟨i,is,hmx,hmx1⟩:=mk_max hW1
 have hnk:nk W<=W.length:=by
  unfold nk
  have:=jUs (ls:=mk W)
  rw[jUx] at this
  exact this
 refine⟨by omega,fun p hp=> ?_⟩
 have hqp:=jJh h1 hp
 refine⟨q,rfl,i,is,by rw[jJu hqp,h1,hmx],by omega,by omega,?_⟩
 rw[hmx1,show (((nk W:Nat):Int)).toNat=nk W by omega]
 let J1:Nat->St3->Gp->Prop:=fun k τ G'=>∃(v3:Option T),τ=[some (.tup (W.map encR)),some (.ref q),some (.ref p),v3,none,none]/\G' p=some (.lst (((fw W).take k).map encR))/\Sub G1 G'
 refine⟨J1,?_,?_,?_,?_⟩
 ·exact xi1 _ rfl ⟨jJi,.new hp⟩
 ·intros;trivial
 ·intro k x τ G2 hx h_;apply xe1 h_;clear h_;intro v3 h_;apply ae2 h_;clear h_;intro i1 i2
  obtain⟨hk,rfl⟩:=jUv hx
  obtain⟨f1,f2,f3⟩:=mk_idx hk
  have h2:=i2 _ _ h1
  have hrow:W[fr W k]? =some (row W (fr W k)):=by unfold row;rw[lJa f1];rfl
  have hfw:(fw W)[k]? =some (renE (mk W) (row W (fr W k))):=by unfold fw;rw[lJe,lJw hk];rfl
  wp_walk using 1,iSeq,kQh,jK0 h2,jK0 i1,i1,h2
  refine⟨rfl,jXq,.int (k:Nat),fr W k,f2,by simp[eqT],f3,encR (row W (fr W k)),by rw[atN,lJe,hrow];rfl,(row W (fr W k)).map encE,rfl,?_⟩
  have hel:=fine.row _ _ hrow
  refine jKd (es:=row W (fr W k)) (enc:=encE) (fun e=>encE (nuF (mk W) e.1,e.2)) (by omega) (fun _ _=>rfl) ?_ ?_
  ·intro i e hi G' K K0 s hK
   have hlt:=fine.rng _ i e.1 e.2 (jQq hrow hi)
   wp_walk using 1,encE,jKk (s _ _ h2),mk_atI hlt
   rw[encE] at hK
   exact⟨by omega,hK G' (.refl _)⟩
  ·intro D G3 hD q1 q2
   have h3:=q2 _ _ i1
   have htk:(fw W).take (k+1)=(fw W).take k++[renE (mk W) (row W (fr W k))]:=by rw[lKz,hfw];rfl
   refine⟨_,jJm q1,_,h3,by rw[lJc,lK9,jKy];omega,xi1 _ rfl ⟨?_,(i2.trans q2).over hp⟩⟩
   rw[jJi,htk,lKg]
   simp[encR,renE,lJj]
 ·intro τ G2 h_;apply xe1 h_;clear h_;intro v3 h_;apply ae2 h_;clear h_;intro i1 i2
  rw[jQh,<-jKy,lKt] at i1
  wp_walk using 1,tSeq
  refine⟨_,jJm i1,?_⟩
  exact kk G2 (s1.trans i2)
theorem renE_renE {a b c d:List Nat} {es:List (Nat×Nat)} (h:∀e,e∈es->nuF a (nuF b e.1)=nuF c (nuF d e.1)):renE a (renE b es)=renE c (renE d es):=by
 unfold renE
 (rw[lJj,lJj])
 exact lKl fun e he=>Prod.ext (h e he) rfl
theorem fw_ren {W V:Web} {nu:List Nat} (f:Fine W) (fv:Fine V) (t:Turn W.length nu) (h:Ren W nu V):
  ∃mu,Turn (fw W).length mu/\Ren (fw W) mu (fw V)/\∀x,x<W.length->nuF (mk V) (nuF nu x)=nuF mu (nuF (mk W) x):=by
 obtain⟨P,hP⟩:=mv_ex (ls:=mk W) (by rw[jUx];exact t)
 have tm:Turn (mk W).length nu:=by rw[jUx];exact t
 have e:mk V=num P:=by
  have:=marks_ren f t h W.length P hP
  unfold mk;rw[h.len];exact this
 have hmem:∀k,k<nk W->k∈jJo P:=fun k hk=>firsts_mem.mpr ((hP.mem tm).mpr (lJf (jYh hk).1))
 have hlt:∀k,k∈jJo P->k<nk W:=fun k hk=>by
  obtain⟨r,hr⟩:=lJm ((hP.mem tm).mp (firsts_mem.mp hk))
  have hrl:r<W.length:=by rw[<-jUx (W:=W)];exact (lJb.mp hr).1
  obtain⟨v,h1,h2⟩:=kQa hrl
  rw[hr] at h1;cases h1
  exact h2
 have hlen:(jJo P).length=nk W:=by
  have l1:(jJo P).length<=(List.range (nk W)).length:=(jXr P).length_le_of_subset fun x hx=>lJn.mpr (hlt x hx)
  have l2:(List.range (nk W)).length<=(jJo P).length:=lQf.length_le_of_subset fun x hx=>hmem x (lJn.mp hx)
  rw[lJ1] at l1 l2
  omega
 have hnk:nk V=nk W:=by
  unfold nk
  rw[e]
  have c:=cnt_num (m:=P)
  have c2:=mk_cnt (W:=V)
  rw[e] at c2
  have c3:Cnt (num P) V.length (jJo P).length:=by
   have:(num P).length=V.length:=by rw[<-e,jUx]
   rw[<-this];exact c
  have:=c2.unique c3
  unfold nk at this
  rw[e] at this
  rw[this];exact hlen
 let mu:=(List.range (nk W)).map fun k=>(jJo P).idxOf k
 have mu_at:∀k,k<nk W->nuF mu k=(jJo P).idxOf k:=fun k hk=>jQb (by show ((List.range (nk W)).map _)[k]? =_;rw[lJe,lJw hk];rfl)
 have key:∀x,x<W.length->nuF (mk V) (nuF nu x)=nuF mu (nuF (mk W) x):=fun x hx=>by
  obtain⟨g1,g2,_⟩:=jQ8 hx
  rw[mu_at _ g2]
  refine jQb ?_
  rw[e]
  exact jQr (hP.at' _ _ g1)
 have tmu:Turn (nk W) mu:=by
  refine⟨?_,?_,?_⟩
  ·show ((List.range (nk W)).map _).length=_;rw[lJc,lJ1]
  ·have nd:(List.range (nk W)).Nodup:=lQf
   exact List.pairwise_map.mpr (nd.imp_of_mem fun {a b} ha _ hab z=>hab (jVp (hmem a (lJn.mp ha)) z))
  ·intro y hy
   obtain⟨k,hk,rfl⟩:=lJg.mp hy
   rw[<-hlen]
   exact lKd (hmem k (lJn.mp hk))
 refine⟨mu,by rw[jKy];exact tmu,⟨by rw[jKy,jKy,hnk],fun K es hK=> ?_⟩,key⟩
 have hKl:K<nk W:=by rw[<-jKy];exact (lJb.mp hK).1
 obtain⟨q1,q2,_⟩:=jYh hKl
 have qn:nuF (mk W) (fr W K)=K:=jQb q1
 have r1:=fw_row f q2
 rw[qn,jQl hK] at r1
 have ql:nuF nu (fr W K)<V.length:=by rw[h.len];exact kQj t q2
 have r2:=fw_row fv ql
 rw[key _ q2,qn,ren_row h t] at r2
 have hl:nuF mu K<(fw V).length:=by rw[jKy,hnk];exact kQj tmu hKl
 rw[jQl (lJa hl)] at r2
 rw[lJa hl,r2,r1]
 congr 1
 refine renE_renE fun e he=>key _ ?_
 obtain⟨i,hi⟩:=lJm he
 rw[row_en] at hi
 exact f.rng _ i e.1 e.2 hi
theorem learnt_ren {W V:Web} {nu:List Nat} (a:AnyWeb W) (t:Turn W.length nu) (h:Ren W nu V) {r:Nat} (hr:r<W.length):tf (fw V) (nuF (mk V) (nuF nu r))=tf (fw W) (nuF (mk W) r):=by
 obtain⟨mu,h1,h2,h3⟩:=fw_ren a.fine (ren_any t h a).fine t h
 rw[h3 r hr,tf_ren h2 h1]
theorem kQk {F:Web} (f:Fine F) {g:Nat->Nat} (hg:∀x,x<F.length->g x<F.length) (hrow:∀x,x<F.length->row F (g x)=(row F x).map fun e=>(g e.1,e.2)):∀(k x:Nat),x<F.length->(marks F k)[g x]? =(marks F k)[x]?
 | 0,x,hx=>by
  have a1:(F.map List.length)[g x]? =some (row F (g x)).length:=by rw[lJe,lJa (hg x hx),jQl (lJa (hg x hx))];rfl
  have a2:(F.map List.length)[x]? =some (row F x).length:=by rw[lJe,lJa hx,jQl (lJa hx)];rfl
  show (num (F.map List.length))[g x]? =(num (F.map List.length))[x]?
  rw[jQr a1,jQr a2,hrow x hx,lJc]
 | k+1,x,hx=>by
  have a1:=jK7 (m:=marks F k) (lJa (hg x hx))
  have a2:=jK7 (m:=marks F k) (lJa hx)
  have e1:=hrow x hx
  rw[jQl (lJa (hg x hx)),jQl (lJa hx)] at e1
  show (num (tups F (marks F k)))[g x]? =(num (tups F (marks F k)))[x]?
  rw[jQr a1,jQr a2,e1,lJj]
  congr 2
  refine lKl fun e he=> ?_
  obtain⟨i,hi⟩:=lJm he
  have hl:=f.rng x i e.1 e.2 (jQq (lJa hx) hi)
  have ih:=kQk f hg hrow k e.1 hl
  show (e.2,(marks F k).getD (g e.1) 0)=(e.2,(marks F k).getD e.1 0)
  rw[lQn,lQn,ih]
theorem learnt_inj {W:Web} (w:AnyWeb W) {a b:Nat} (ha:a<nk W) (hb:b<nk W) (h:tf (fw W) a=tf (fw W) b):a=b:=by
 have F:=any_fw w
 have fF:=F.fine
 have la:a<(fw W).length:=by rw[jKy];exact ha
 have lb:b<(fw W).length:=by rw[jKy];exact hb
 have oa:=F.order la
 have ob:=F.order lb
 have m:=mk_fw w.fine
 generalize fw W=V at *
 have gl:∀x,x<V.length->(bfs V b)[(bfs V a).idxOf x]? =some ((bfs V b).getD ((bfs V a).idxOf x) 0):=fun x hx=>by
  have:=(oa.idx hx).2
  rw[lQn,lJa (by rw[ob.len];exact this)];rfl
 let g:Nat->Nat:=fun x=>(bfs V b).getD ((bfs V a).idxOf x) 0
 have hg:∀x,x<V.length->g x<V.length:=fun x hx=>ob.lt _ (lJf (gl x hx))
 have hrow:∀x,x<V.length->row V (g x)=(row V x).map fun e=>(g e.1,e.2):=fun x hx=>by
  have e:=congrArg (fun l=>l[(bfs V a).idxOf x]?) h
  simp only[tf,lJe,(oa.idx hx).1,gl x hx,lJ9,lQm] at e
  have e:(row V x).map (fun e=>((bfs V a).idxOf e.1,e.2))=(row V (g x)).map fun e=>((bfs V b).idxOf e.1,e.2):=e
  apply lJx
  intro i
  have ei:=congrArg (fun l=>l[i]?) e
  simp only[lJe] at ei ⊢
  cases q1:(row V x)[i]? with
  | none=>
   rw[q1] at ei
   cases q2:(row V (g x))[i]? with
   | none=>rfl
   | some q=>rw[q2] at ei;cases ei
  | some p=>
   rw[q1] at ei
   cases q2:(row V (g x))[i]? with
   | none=>rw[q2] at ei;cases ei
   | some q=>
    rw[q2] at ei
    simp only[lJ9,lQm,Prod.mk.injEq] at ei ⊢
    rw[row_en] at q1 q2
    have hq:=fF.rng _ _ _ _ q2
    refine Prod.ext ?_ ei.2.symm
    show q.1=g p.1
    show q.1=(bfs V b).getD ((bfs V a).idxOf p.1) 0
    rw[ei.1,lQn,(ob.idx hq).1];rfl
 have z:=kQk fF hg hrow V.length a la
 obtain⟨E1,e1⟩:=(bfs_ok fF la).1
 obtain⟨E2,e2⟩:=(bfs_ok fF lb).1
 have ga:g a=b:=by
  show (bfs V b).getD ((bfs V a).idxOf a) 0=b
  rw[e1,e2,List.idxOf_cons_self];rfl
 have hm:(mk V)[g a]? =(mk V)[a]? :=z
 rw[ga,m,lJw ha,lJw hb] at hm
 exact (lJr hm).symm
theorem kUy {α:Type} {enc:α->T} {d:α->α->Bool} (h:∀x y,eqT (enc x) (enc y)=true↔x=y):∀xs ys:List α,eqTs (xs.map enc) (ys.map enc)=true↔xs=ys
 | [],[]=>by simp[eqTs]
 | [],y::ys=>by simp[eqTs]
 | x::xs,[]=>by simp[eqTs]
 | x::xs,y::ys=>by
  show (eqT (enc x) (enc y)&&eqTs (xs.map enc) (ys.map enc))=true↔_
  rw[lKe,h,kUy (d:=d) h xs ys,lK2]
theorem eqT_webs {A B:Web}:eqT (encW A) (encW B)=true↔A=B:=by
 refine kUy (d:=fun _ _=>true) (enc:=encR) (fun x y=> ?_) A B
 refine kUy (d:=fun _ _=>true) (enc:=encE) (fun e f=> ?_) x y
 obtain⟨a,b⟩:=e
 obtain⟨c,d⟩:=f
 show eqTs [.int a,.int b] [.int c,.int d]=true↔_
 simp[eqTs,eqT]
 omega
theorem eqG_webs {G:Gp} {A B:Web}:eqG G (encW A) (encW B)=some (decide (A=B)):=by
 have ok:∀A:Web,eqOk (encW A)=true:=fun A=>by
  have h:=okD_web (W:=A)
  unfold eqOk
  rw[h.tr,h.lay,decide_eq_true (show (td (encW A)).depth<=50 by have:=h.dep;omega)];rfl
 show (if eqOk (encW A)=true/\eqOk (encW B)=true then some (eqT (encW A) (encW B)) else none)=_
 rw[if_pos ⟨ok A,ok B⟩]
 congr 1
 by_cases c:A=B
 ·rw[decide_eq_true c];exact eqT_webs.mpr c
 ·rw[decide_eq_false c]
  exact Bool.eq_false_iff.mpr fun z=>c (eqT_webs.mp z)
noncomputable def jJr:Sp3:=fun xs G Q=>∃(W:Web) (r v:Nat),xs=[encW W,.int r]/\AnyWeb W/\(mk W)[r]? =some v/\∀G',Sub G G'->Q (encW (tf (fw W) v)) G'
noncomputable def jXx:List Str:=["web","room"]
noncomputable def jQ4:TS3:=
 (tRet (jJy jKo (jJc (jJy jQy (jJc (tVar 0) tNil)) (jJc (tOp rIxF (jJy jKh (jJc (tVar 0) tNil)) (tVar 1)) tNil))))
theorem jYv:∀xs G Q,jJr xs G Q->jQ4 {nx:=fun _ G'=>Q .non G',rt:=Q} (jJk jXx xs) G:=by
 intro xs G Q h_;apply xe3 h_;clear h_;intro W r v h_;apply ae3 h_;clear h_;intro any hv kk
 rw[show jJk jXx [encW W,.int r]=[some (.tup (W.map encR)),some (.int r)] from rfl]
 wp_walk using 1,jQ4
 refine⟨W,rfl,any.fine,fun G1 s1=>⟨W,rfl,any.fine,fun G2 s2=> ?_⟩⟩
 have hr:r<W.length:=by rw[<-jUx];exact (lJb.mp hv).1
 obtain⟨v',hv',hk⟩:=kQa hr
 rw[hv] at hv';cases hv'
 refine⟨_,jXv hv,fw W,v,rfl,any_fw any,by rw[jKy];exact hk,fun G3 s3=>kk G3 ((s1.trans s2).trans s3)⟩
theorem eqG_bl {G:Gp} {a:Bool}:eqG G (.bl a) (.bl a)=some true:=by
 cases a<;>rfl
noncomputable def tl (W:Web) (k:Nat):List T:=(List.range k).map fun r=>encW (tf (fw W) (nuF (mk W) r))
theorem tl_succ {W:Web} {k:Nat}:tl W (k+1)=tl W k++[encW (tf (fw W) (nuF (mk W) k))]:=by
 unfold tl;rw[lKk,lKg];rfl
theorem tl_at {W:Web} {k r:Nat} (h:r<k):L2.atI (tl W k) (r:Int)=some (encW (tf (fw W) (nuF (mk W) r))):=by
 rw[atN,tl,lJe,lJw h];rfl
noncomputable def jQd:Sp3:=fun xs G Q=>∃(b:Addr) (n:Nat),xs=[.ref b]/\BoxAt G b n/\n+3000<2^40/\∀G',Keep b G G'->Q (.bl true) G'
noncomputable def N_l_right:List Str:=["_law_box_here","_law_web_here","_law_folds_here","_law_small","_law_other","_law_numbers","_law_told","_law_room","_law_one","_law_same_here"]
noncomputable def jX7:TS3:=
 (tSeq (tAsg (jJy jKf (jJc (tVar 0) tNil)) (jJj 1))
 (tSeq (tIfS (jKw (tOp rEqA (jJy jJs (jJc (tVar 0) (jJc (tC (.int 6)) tNil))) (tC (.int 0)))) (tAsg (jJy jQi (jJc (tOp jK6 (tC (.int 2)) (jJy jJs (jJc (tVar 0) (jJc (tC (.int 23)) tNil)))) tNil)) (jJj 1)) jQn)
 (tSeq (tAsg (jJy jKs (jJc (tVar 1) tNil)) (jJj 2))
 (tSeq (tAsg (jJy jQk (jJc (tVar 1) tNil)) (jJj 3))
 (tSeq (tAsg (jJy jKe (jJc (tVar 0) (jJc (tVar 1) tNil))) (gTup 2 (jKg (jJj 4) (jKg (jJj 5) gNil))))
 (tSeq (tAsg (tLst tNil) (jJj 6))
 (tSeq (tFor (jKt (jJc (tCB rLen (jJc (tVar 1) tNil)) tNil)) (jJj 7) (tSeq (jV7 (tBM "list" jQm (tVar 6) (jJc (jJy jJr (jJc (tVar 1) (jJc (tVar 7) tNil))) tNil)))
 (tSeq (tIfS (tNot (jKw (jJy jVs (jJc (tOp rIxF (tVar 6) (tVar 7)) (jJc (jJy jQj (jJc (tVar 3) (jJc (tOp rIxF (tVar 2) (tVar 7)) tNil))) tNil))))) (tRet (tC (.bl false))) jQn)
 (tSeq (tIfS (tAnd (jKw (tOp rLt (tVar 7) (tC (.int 7)))) (jKw (tOp rNeA (jJy jJr (jJc (tVar 4) (jJc (tOp rIxF (tVar 5) (tVar 7)) tNil))) (tOp rIxF (tVar 6) (tVar 7))))) (tRet (tC (.bl false))) jQn)
 (tIfS (tAnd (jKw (tOp rLt (tVar 7) (tC (.int 3)))) (jKw (tOp rNeA (jJy jJr (jJc (tVar 1) (jJc (tVar 7) tNil))) (tOp rIxF (tVar 6) (tVar 7))))) (tRet (tC (.bl false))) jQn)))))
 (tSeq (tFor (jKt (jJc (tCB rLen (jJc (tVar 1) tNil)) tNil)) (jJj 8) (tFor (jKt (jJc (tVar 8) tNil)) (jJj 7) (tSeq (tAsg (tOp rEqA (tOp rIxF (tVar 6) (tVar 8)) (tOp rIxF (tVar 6) (tVar 7))) (jJj 9))
 (tIfS (jKw (tOp rNeA (tVar 9) (tOp rEqA (tOp rIxF (tVar 2) (tVar 8)) (tOp rIxF (tVar 2) (tVar 7))))) (tRet (tC (.bl false))) jQn))))
 (tRet (tC (.bl true)))))))))))
noncomputable def kJ3:TS3:=(tSeq (tAsg (jJy jKs (jJc (tVar 1) tNil)) (jJj 2))
 (tSeq (tAsg (jJy jQk (jJc (tVar 1) tNil)) (jJj 3))
 (tSeq (tAsg (jJy jKe (jJc (tVar 0) (jJc (tVar 1) tNil))) (gTup 2 (jKg (jJj 4) (jKg (jJj 5) gNil))))
 (tSeq (tAsg (tLst tNil) (jJj 6))
 (tSeq (tFor (jKt (jJc (tCB rLen (jJc (tVar 1) tNil)) tNil)) (jJj 7) (tSeq (jV7 (tBM "list" jQm (tVar 6) (jJc (jJy jJr (jJc (tVar 1) (jJc (tVar 7) tNil))) tNil)))
 (tSeq (tIfS (tNot (jKw (jJy jVs (jJc (tOp rIxF (tVar 6) (tVar 7)) (jJc (jJy jQj (jJc (tVar 3) (jJc (tOp rIxF (tVar 2) (tVar 7)) tNil))) tNil))))) (tRet (tC (.bl false))) jQn)
 (tSeq (tIfS (tAnd (jKw (tOp rLt (tVar 7) (tC (.int 7)))) (jKw (tOp rNeA (jJy jJr (jJc (tVar 4) (jJc (tOp rIxF (tVar 5) (tVar 7)) tNil))) (tOp rIxF (tVar 6) (tVar 7))))) (tRet (tC (.bl false))) jQn)
 (tIfS (tAnd (jKw (tOp rLt (tVar 7) (tC (.int 3)))) (jKw (tOp rNeA (jJy jJr (jJc (tVar 1) (jJc (tVar 7) tNil))) (tOp rIxF (tVar 6) (tVar 7))))) (tRet (tC (.bl false))) jQn)))))
 (tSeq (tFor (jKt (jJc (tCB rLen (jJc (tVar 1) tNil)) tNil)) (jJj 8) (tFor (jKt (jJc (tVar 8) tNil)) (jJj 7) (tSeq (tAsg (tOp rEqA (tOp rIxF (tVar 6) (tVar 8)) (tOp rIxF (tVar 6) (tVar 7))) (jJj 9))
 (tIfS (jKw (tOp rNeA (tVar 9) (tOp rEqA (tOp rIxF (tVar 2) (tVar 8)) (tOp rIxF (tVar 2) (tVar 7))))) (tRet (tC (.bl false))) jQn))))
 (tRet (tC (.bl true)))))))))
theorem rd_right_eq:jX7=tSeq (tAsg (jJy jKf (jJc (tVar 0) tNil)) (jJj 1)) (tSeq (tIfS (jKw (tOp rEqA (jJy jJs (jJc (tVar 0) (jJc (tC (.int 6)) tNil))) (tC (.int 0)))) (tAsg (jJy jQi (jJc (tOp jK6 (tC (.int 2)) (jJy jJs (jJc (tVar 0) (jJc (tC (.int 23)) tNil)))) tNil)) (jJj 1)) jQn) kJ3):=rfl
theorem kJ1 {Q:VK3} {b:Addr} {n:Nat} {W:Web} {G:Gp} (any:AnyWeb W) (hb:BoxAt G b n) (hn:n+1000<2^40) (kk:∀G',Keep b G G'->Q (.bl true) G'):
  kJ3 {nx:=fun _ G'=>Q .non G',rt:=Q} [some (.ref b),some (encW W),none,none,none,none,none,none,none,none] G:=by
 have hs:=sz
 have fine:=any.fine
 have hl:=any.len
 have anyF:=any_fw any
 wp_walk using 1,kJ3,jJ5,jKt
 refine⟨W,rfl,fine,by omega,fun q G1 hq h1 s1=> ?_⟩
 refine⟨W,rfl,fine,any.pos,by omega,fun G2 s2=> ?_⟩
 refine⟨b,W,n,rfl,(hb.sub s1).sub s2,hn,any,fun nu V G3 t rn b3 k3=> ?_⟩
 refine⟨_,rfl,rfl,_,_,rfl,_,_,rfl,rfl,by omega,fun p hp=> ?_⟩
 refine⟨W.map encR,rfl,by rw[lJc];omega,by rw[lJc];omega,?_⟩
 rw[lJc,show (((W.length:Nat):Int)).toNat=W.length by omega]
 have hqb:q≠b:=fun z=>by
  obtain⟨x,y,z',hx,_⟩:=hb
  rw[z,hx] at hq;cases hq
 have h3:=k3 _ _ hqb (s2 _ _ h1)
 have hqp:=jJh h3 hp
 have hbp:b≠p:=by
  obtain⟨x,y,z',hx,_⟩:=b3
  exact jJh hx hp
 have hpG:G p=none:=by
  refine Keep.none (b:=b) (((Keep.sub s1).trans (.sub s2)).trans k3) (Ne.symm hbp) hp
 have k3':Keep b G (gup G3 p (GO.lst [])):=(((Keep.sub s1).trans (.sub s2)).trans k3).trans (.new hp)
 let J1:Nat->St3->Gp->Prop:=fun k τ G'=>∃(v7:Option T),τ=[some (.ref b),some (encW W),some (.ref q),some (encW (fw W)),some (encW V),some (.tup (jJl nu)),some (.ref p),v7,none,none]/\G' p=some (.lst (tl W k))/\G' q=some (.lst (jJl (mk W)))/\Keep b G G'
 refine⟨J1,?_,?_,?_,?_⟩
 ·exact xi1 _ rfl ⟨jJi,by rw[jJu hqp];exact h3,k3'⟩
 ·intros;trivial
 ·intro r x τ G4 hx h_;apply xe1 h_;clear h_;intro v7 h_;apply ae3 h_;clear h_;intro i1 i2 i3
  obtain⟨hr,rfl⟩:=jUv hx
  obtain⟨g1,g2,_⟩:=jQ8 hr
  wp_walk using 1,jK0 i1
  refine⟨W,r,_,rfl,any,g1,fun G5 s5=>⟨_,s5 _ _ i1,by rw[tl,lJc,lJ1];omega,?_⟩⟩
  have h5:gup G5 p (GO.lst (tl W r++[encW (tf (fw W) (nuF (mk W) r))])) p=some (.lst (tl W (r+1))):=by rw[jJi,tl_succ]
  have h5q:gup G5 p (GO.lst (tl W r++[encW (tf (fw W) (nuF (mk W) r))])) q=some (.lst (jJl (mk W))):=by rw[jJu hqp];exact s5 _ _ i2
  have k5:Keep b G (gup G5 p (GO.lst (tl W r++[encW (tf (fw W) (nuF (mk W) r))]))):=(i3.trans (.sub s5)).over hpG
  generalize gup G5 p (GO.lst (tl W r++[encW (tf (fw W) (nuF (mk W) r))]))=G6 at h5 h5q k5 ⊢
  wp_walk using 1,jKk h5,jKk h5q,mk_atI hr
  have at5:L2.atI (tl W r++[encW (tf (fw W) (nuF (mk W) r))]) (r:Int)=some (encW (tf (fw W) (nuF (mk W) r))):=by rw[<-tl_succ];exact tl_at (lQw r)
  have hkF:nuF (mk W) r<(fw W).length:=by rw[jKy];exact g2
  refine⟨_,at5,fw W,_,rfl,anyF,hkF,fun G7 s7=>⟨_,rfl,pl_web (any_tf anyF hkF).fine,fun G8 s8=>⟨true,rfl,?_⟩⟩⟩
  rw[if_neg (by decide)]
  have asked:∀(U:Web) (y:Nat) (c:Int) (G1:Gp) (Φ:Gp->Prop),AnyWeb U->y<U.length->tf (fw U) (nuF (mk U) y)=tf (fw W) (nuF (mk W) r)->Sub G6 G1->(∀G',Sub G6 G'->Φ G')->jJr [encW U,.int y] G1 fun x G1=>∃t,ixR G1 (.ref p) (.int (r:Nat))=some t/\rNeA x t G1 fun x G1=>∃c,x= .bl c/\if c=true then Q (.bl false) G1 else Φ G1:=by
   intro U y c G9 Φ aU hy e s9 fin
   refine⟨U,y,_,rfl,aU,(jQ8 hy).1,fun G10 s10=> ?_⟩
   have s':=s9.trans s10
   refine⟨_,by rw[jKk (s' _ _ h5)];exact tl_at (lQw r),?_⟩
   rw[e]
   wp_walk using 1,rNeA,eqG_web
   exact fin G10 s'
  have s8':=s7.trans s8
  have fin:∀G',Sub G6 G'->J1 (r+1) [some (T.ref b),some (encW W),some (T.ref q),some (encW (fw W)),some (encW V),some (T.tup (jJl nu)),some (T.ref p),some (T.int (r:Nat)),none,none] G':=fun G' s=>xi1 _ rfl ⟨s _ _ h5,s _ _ h5q,k5.trans (.sub s)⟩
  obtain⟨y,hy,_⟩:=t.at hr
  have hyl:y<V.length:=by rw[rn.len,<-jQb hy];exact kQj t hr
  have ey:=learnt_ren any t rn hr
  rw[jQb hy] at ey
  by_cases c7:r<7
  ·rw[if_pos (by omega)]
   refine⟨_,jXv hy,?_⟩
   refine asked V y 0 G8 _ (ren_any t rn any) hyl ey s8' fun G9 s9=> ?_
   by_cases c3:r<3
   ·rw[if_pos (by omega)]
    exact asked W r 0 G9 _ any hr rfl s9 fun G10 s10=>fin G10 s10
   ·rw[if_neg (by omega)]
    exact fin G9 s9
  ·rw[if_neg (by omega),if_neg (by omega)]
   exact fin G8 s8'
 ·intro τ G4 h_;apply xe1 h_;clear h_;intro v7 h_;apply ae3 h_;clear h_;intro i1 i2 i3
  wp_walk using 1,jJ5,jKt
  refine⟨W.map encR,rfl,by rw[lJc];omega,by rw[lJc];omega,?_⟩
  rw[lJc,show (((W.length:Nat):Int)).toNat=W.length by omega]
  rw[jQh] at i1
  let J2:Nat->St3->Gp->Prop:=fun k τ G'=>∃(v7 v8 v9:Option T),τ=[some (.ref b),some (encW W),some (.ref q),some (encW (fw W)),some (encW V),some (.tup (jJl nu)),some (.ref p),v7,v8,v9]/\G'=G4
  refine⟨J2,?_,?_,?_,?_⟩
  ·exact xi3 _ _ _ rfl rfl
  ·intros;trivial
  ·intro a x τ G5 hx h_;apply xe3 h_;clear h_;intro v7 v8 v9 e0_
   subst e0_
   obtain⟨ha,rfl⟩:=jUv hx
   wp_walk using 1,jJ5,jKt
   refine⟨by omega,by omega,?_⟩
   rw[show (((a:Nat):Int)).toNat=a by omega]
   let J3:Nat->St3->Gp->Prop:=fun k τ G'=>∃(v7 v9:Option T),τ=[some (.ref b),some (encW W),some (.ref q),some (encW (fw W)),some (encW V),some (.tup (jJl nu)),some (.ref p),v7,some (.int (a:Nat)),v9]/\G'=G5
   refine⟨J3,?_,?_,?_,?_⟩
   ·exact xi2 _ _ rfl rfl
   ·intros;trivial
   ·intro r x τ G6 hx h_;apply xe2 h_;clear h_;intro v7 v9 e0_
    subst e0_
    obtain⟨hr,rfl⟩:=jUv hx
    have hrW:r<W.length:=by omega
    have same:decide (tf (fw W) (nuF (mk W) a)=tf (fw W) (nuF (mk W) r))=decide (nuF (mk W) a=nuF (mk W) r):=by
     by_cases z:nuF (mk W) a=nuF (mk W) r
     ·rw[z,decide_eq_true rfl,decide_eq_true rfl]
     ·rw[decide_eq_false z,decide_eq_false fun w=>z (learnt_inj any (jQ8 ha).2.1 (jQ8 hrW).2.1 w)]
    wp_walk using 1,jKk i1,jKk i2,mk_atI ha,mk_atI hrW,tl_at ha,tl_at hrW,rEqA,rNeA,eqG_webs,jZy,same,eqG_bl
    exact xi2 _ _ rfl rfl
   ·intro τ G6 h_;apply xe2 h_;clear h_;intro v7 v9 e0_
    subst e0_
    exact xi3 _ _ _ rfl rfl
  ·intro τ G5 h_;apply xe3 h_;clear h_;intro v7 v8 v9 e0_
   subst e0_
   wp_walk using 1,tSeq
   exact kk G5 i3
theorem rdok_l_right:∀xs G Q,jQd xs G Q->jX7 {nx:=fun _ G'=>Q .non G',rt:=Q} (jJk N_l_right xs) G:=by
 intro xs G Q h_;apply xe2 h_;clear h_;intro b n h_;apply ae3 h_;clear h_;intro hb hn kk
 rw[show jJk N_l_right [.ref b]=[some (.ref b),none,none,none,none,none,none,none,none,none] from rfl]
 have hs:=sz
 rw[rd_right_eq]
 wp_walk using 1,rEqA
 refine⟨b,n,rfl,hb,by omega,fun W G1 any b1 k1=> ?_⟩
 refine⟨b,6,_,rfl,b1,by omega,by decide,by decide,fun c G2 c0 c1 b2 k2=> ?_⟩
 obtain⟨c,rfl⟩:=lKf c0
 refine⟨_,jZy (c:=0),?_⟩
 by_cases h0:c=0
 ·(rw[if_pos (by simpa using h0)])
  refine⟨b,23,_,rfl,b2,by omega,by decide,by decide,fun e G3 e0 e1 b3 k3=> ?_⟩
  obtain⟨e,rfl⟩:=lKf e0
  wp_walk using 1,tSeq
  refine⟨2+e,by show [T.int _]=[T.int _];congr 2,by omega,by omega,fun G4 s4=> ?_⟩
  refine kJ1 ((line_ok (by omega)).any (by omega) (by omega) (by omega)) (b3.sub s4) (by omega) fun G5 k5=> ?_
  exact kk G5 ((((k1.trans k2).trans k3).trans (.sub s4)).trans k5)
 ·rw[if_neg (by simpa using h0)]
  exact kJ1 any b2 (by omega) fun G5 k5=>kk G5 ((k1.trans k2).trans k5)
noncomputable def sp_law:Sp3:=fun xs G Q=>∃ns:List Int,xs=[.scr (jZx ns)]/\ns.length<=63/\∀G',Q (.bl true) G'
noncomputable def N_law:List Str:=["_law_script","_law_k"]
noncomputable def rd_law:TS3:=
 (tRet (tCB rAll (jJc (jQ5 [false,true] (jKt (jJc (tOp jK6 (tC (.int 1)) (tCB rMin2 (jJc (tC (.int 4)) (jJc (tCB rLen (jJc (tVar 0) tNil)) tNil)))) tNil)) (jJj 1) jUh (jJy jQd (jJc (jJy jUt (jJc (tVar 0) (jJc (tVar 1) tNil))) tNil))) tNil)))
theorem rdok_law:∀xs G Q,sp_law xs G Q->rd_law {nx:=fun _ G'=>Q .non G',rt:=Q} (jJk N_law xs) G:=by
 intro xs G Q h_;apply xe1 h_;clear h_;intro ns h_;apply ae2 h_;clear h_;intro hl kk
 rw[show jJk N_law [.scr (jZx ns)]=[some (.scr (jZx ns)),none] from rfl]
 have hs:=sz
 wp_walk using 1,rd_law,rMin2,jKt
 obtain⟨c,hc,hc7⟩:∃c:Nat,(1+if (((jZx ns).length:Nat):Int)<4 then (((jZx ns).length:Nat):Int) else 4)=(c:Nat)/\c<=5:=by
  split
  ·exact⟨1+(jZx ns).length,by omega,by omega⟩
  ·exact⟨5,rfl,by omega⟩
 refine⟨jZx ns,rfl,?_⟩
 rw[hc]
 refine⟨by omega,by omega,?_⟩
 rw[show ((c:Nat):Int).toNat=c by omega,jV8]
 refine jKd (es:=List.range c) (enc:=fun r:Nat=>T.int r) (fun _=>T.bl true) (by simp;omega) (fun _ _=>trivial) ?_ ?_
 ·intro i r hr G1 K K0 s1 hK
  obtain⟨q1,q2⟩:=lJb.mp hr
  simp at q1 q2;subst q2
  wp_walk using 1,tSeq
  refine⟨ns,i,rfl,hl,by omega,by omega,fun p G2 hp hb s2=>⟨p,0,rfl,hb,by omega,fun G3 k3=>hK G3 fun a o ha=> ?_⟩⟩
  exact k3 a o (fun z=>by rw[z,hp] at ha;cases ha) (s2 _ _ ha)
 ·intro D G1 hD h1 s1
  refine⟨D,_,_,rfl,h1,jZi (f:=fun _=>true),?_⟩
  rw[lKy.mpr (fun _ _=>rfl)]
  exact kk G1
end W
namespace W
open PySem PySem.Spec PyProof.Rows L2 L3
noncomputable def top (i:Nat):Stmt:=PySem.Challenge.pw_stonewalker_k23_what_can_be_learnt.main.body.getD i (.Pass ⟨0,0,0,0⟩)
structure Txt (mg:Str->Option Value):Prop where
 n_abs:mg "abs"=none
 n_all:mg "all"=none
 n_bool:mg "bool"=none
 n_divmod:mg "divmod"=none
 n_enumerate:mg "enumerate"=none
 n_int:mg "int"=none
 n_isinstance:mg "isinstance"=none
 n_len:mg "len"=none
 n_list:mg "list"=none
 n_max:mg "max"=none
 n_min:mg "min"=none
 n_range:mg "range"=none
 n_set:mg "set"=none
 n_sorted:mg "sorted"=none
 n_str:mg "str"=none
 n_tuple:mg "tuple"=none
 n_zip:mg "zip"=none
noncomputable abbrev jU4:Stmt:=top 1
theorem sc_numbered:FnScope ["looks","numbers","look"] ["looks"] (jJf jU4):=⟨rfl,rfl,rfl,by decide +kernel,rfl,by decide +kernel,by decide +kernel⟩
theorem ok_numbered {P:Program} {w:World} {K:PySem.W.Frag} {mg:Str->Option Value} {base:Heap} {f:Addr} {fd:FuncData} (T:Txt mg) (F:Fun K "numbered" "numbered" jU4 f fd) 
  (h:∀xs G Q,jKu xs G Q->jXa {nx:=fun _ G'=>Q .non G',rt:=Q} (jJk ["looks","numbers","look"] xs) G):Fn3 P w K mg base 1 f fd ["looks"] jKu:=by
 refine fn3 F sc_numbered fun cdv A outer s H E hr=>⟨jXa,?_,h⟩
 have hu:=jQ0 hr
 have nd:=sc_numbered.nd
 exact (jJe (jKi (i:=1) nd e_dct)
   (jJe (jQz PassesOwn.never rfl (jUr (jJb 0)) (jJp (i:=2) nd) (jJn (s_if (jUk (jY7 hu) (jJb 2) (jJb 1) (jJ2 _)) (jJn (jYg (jJt c_lenD (by rfl) T.n_len PySem.boot_len (jJa (jJb 1) jJd)) (jYp (jJb 1) (jJb 2) (s_F hu)))) jK8)))
   (jJn (jKl (jQs (mask:=[false,false,true]) rfl ⟨rfl,rfl,rfl,rfl,rfl,rfl,rfl⟩ (jUr (jJb 0)) jJ3 (fun C fp s H=>(jJp (i:=2) nd)) (fun C fp s H=>jQc) (fun C fp s H=>(e_ix (ix_F hu) (jJb 1) (jJb 2) (fun _ _=>rfl))))))))
noncomputable abbrev jQf:Stmt:=top 2
theorem sc_kind_numbers:FnScope ["web","steps","marks","step","finer","ends","end"] ["web","steps"] (jJf jQf):=⟨rfl,rfl,rfl,by decide +kernel,rfl,by decide +kernel,by decide +kernel⟩
theorem kJ5 {P:Program} {w:World} {K:PySem.W.Frag} {mg:Str->Option Value} {base:Heap} {f:Addr} {fd:FuncData} (T:Txt mg) (F:Fun K "kind_numbers" "kind_numbers" jQf f fd) (C_numbered:Cal P w K mg base 1 "numbered" ["looks"] jKu)
  (h:∀xs G Q,jJz xs G Q->jUe {nx:=fun _ G'=>Q .non G',rt:=Q} (jJk ["web","steps","marks","step","finer","ends","end"] xs) G):Fn3 P w K mg base 2 f fd ["web","steps"] jJz:=by
 refine fn3 F sc_kind_numbers fun cdv A outer s H E hr=>⟨jUe,?_,h⟩
 have hu:=jQ0 hr
 have nd:=sc_kind_numbers.nd
 exact (jJe (jKi (i:=2) nd (jJ7 C_numbered (hr.mono (by decide)) (jJa (jQs (mask:=[false,false,false,false,false,true,false]) rfl ⟨rfl,rfl,rfl,rfl,rfl,rfl,rfl⟩ (jUr (jJb 0)) jJ3 (fun C fp s H=>(jJp (i:=5) nd)) (fun C fp s H=>jQc) (fun C fp s H=>(jJt jQw (by rfl) T.n_len PySem.boot_len (jJa (jJb 5) jJd)))) jJd)))
   (jJe (jQz PassesOwn.never rfl (jKc rfl T.n_range (jJa (jJb 1) jJd)) (jJp (i:=3) nd) (jJe (jKi (i:=4) nd (jJ7 C_numbered (hr.mono (by decide)) (jJa (jQs (mask:=[false,false,false,false,false,true,false]) rfl ⟨rfl,rfl,rfl,rfl,rfl,rfl,rfl⟩ (jUr (jJb 0)) jJ3 (fun C fp s H=>(jJp (i:=5) nd)) (fun C fp s H=>jQc) (fun C fp s H=>(jJ6 jK3 (by rfl) T.n_tuple rfl (jJa (jQs (mask:=[false,false,false,false,false,false,true]) rfl ⟨rfl,rfl,rfl,rfl,rfl,rfl,rfl⟩ (jUr (jJb 5)) jJ3 (fun C fp s H=>(jJp (i:=6) nd)) (fun C fp s H=>jQc) (fun C fp s H=>(jUb (jJa (e_ix (ix_F hu) (jJb 6) jJq (fun _ _=>rfl)) (jJa (e_ix (ix_F hu) (jJb 2) (e_ix (ix_F hu) (jJb 6) jJq (fun _ _=>rfl)) (fun _ _=>rfl)) jJd))))) jJd)))) jJd)))
   (jJe (s_if (jUk (kJc hr.units) (jJb 4) (jJb 2) (jJ2 _)) (jJn (jKl (jJb 2))) jK8)
   (jJn (jKi (i:=2) nd (jJb 4))))))
   (jJn (jKl (jJb 2)))))
noncomputable abbrev jU6:Stmt:=top 3
theorem sc_kinds_by:FnScope ["web","steps","told","room","number"] ["web","steps"] (jJf jU6):=⟨rfl,rfl,rfl,by decide +kernel,rfl,by decide +kernel,by decide +kernel⟩
theorem ok_kinds_by {P:Program} {w:World} {K:PySem.W.Frag} {mg:Str->Option Value} {base:Heap} {f:Addr} {fd:FuncData} (T:Txt mg) (F:Fun K "kinds_by" "kinds_by" jU6 f fd) (C_kind_numbers:Cal P w K mg base 2 "kind_numbers" ["web","steps"] jJz)
  (h:∀xs G Q,jK2 xs G Q->jXc {nx:=fun _ G'=>Q .non G',rt:=Q} (jJk ["web","steps","told","room","number"] xs) G):Fn3 P w K mg base 3 f fd ["web","steps"] jK2:=by
 refine fn3 F sc_kinds_by fun cdv A outer s H E hr=>⟨jXc,?_,h⟩
 have hu:=jQ0 hr
 have nd:=sc_kinds_by.nd
 exact (jJe (jKi (i:=2) nd (jVe jJd))
   (jJe (jQz PassesOwn.never rfl (i_enum rfl T.n_enumerate rfl (jJa (jJ7 C_kind_numbers (hr.mono (by decide)) (jJa (jJb 0) (jJa (jJb 1) jJd))) jJd)) (jVq rfl (jJv (jJp (i:=3) nd) (jJv (jJp (i:=4) nd) jQ1))) (jJe (s_if (jUk (kJc hr.units) (jJb 4) (jJt jQw (by rfl) T.n_len PySem.boot_len (jJa (jJb 2) jJd)) (jJ2 _)) (jJn (jVg (e_bm PySem.F.plainAttrs_list PySem.F.slot_list_append PySem.F.type_list_append jQp (jJb 2) (jJa (jVe jJd) jJd)))) jK8)
   (jJn (jVg (e_bm PySem.F.plainAttrs_list PySem.F.slot_list_append PySem.F.type_list_append jQp (e_ix (ix_F hu) (jJb 2) (jJb 4) (fun _ _=>rfl)) (jJa (jJb 3) jJd))))))
   (jJn (jKl (jJb 2)))))
noncomputable abbrev jZo:Stmt:=top 4
theorem sc_kinds:FnScope ["web"] ["web"] (jJf jZo):=⟨rfl,rfl,rfl,by decide +kernel,rfl,by decide +kernel,by decide +kernel⟩
theorem ok_kinds {P:Program} {w:World} {K:PySem.W.Frag} {mg:Str->Option Value} {base:Heap} {f:Addr} {fd:FuncData} (T:Txt mg) (F:Fun K "kinds" "kinds" jZo f fd) (C_kinds_by:Cal P w K mg base 3 "kinds_by" ["web","steps"] jK2)
  (h:∀xs G Q,jUu xs G Q->kJn {nx:=fun _ G'=>Q .non G',rt:=Q} (jJk ["web"] xs) G):Fn3 P w K mg base 4 f fd ["web"] jUu:=by
 refine fn3 F sc_kinds fun cdv A outer s H E hr=>⟨kJn,?_,h⟩
 have hu:=jQ0 hr
 have nd:=sc_kinds.nd
 exact (jJn (jKl (jJ7 C_kinds_by (hr.mono (by decide)) (jJa (jJb 0) (jJa (jJt jQw (by rfl) T.n_len PySem.boot_len (jJa (jJb 0) jJd)) jJd)))))
noncomputable abbrev jK4:Stmt:=top 6
theorem sc_first_comings:FnScope ["web","room","comings","level","further","here","door","end"] ["web","room"] (jJf jK4):=⟨rfl,rfl,rfl,by decide +kernel,rfl,by decide +kernel,by decide +kernel⟩
theorem kJa {P:Program} {w:World} {K:PySem.W.Frag} {mg:Str->Option Value} {base:Heap} {f:Addr} {fd:FuncData} (T:Txt mg) (F:Fun K "first_comings" "first_comings" jK4 f fd) 
  (h:∀xs G Q,jJ4 xs G Q->jQ3 {nx:=fun _ G'=>Q .non G',rt:=Q} (jJk ["web","room","comings","level","further","here","door","end"] xs) G):Fn3 P w K mg base 1 f fd ["web","room"] jJ4:=by
 refine fn3 F sc_first_comings fun cdv A outer s H E hr=>⟨jQ3,?_,h⟩
 have hu:=jQ0 hr
 have nd:=sc_first_comings.nd
 exact (jJe (jKi (i:=2) nd (e_disp1 (jJb 1) e_non))
   (jJe (jKi (i:=3) nd (jVe (jJa (jJb 1) jJd)))
   (jJe (s_while PassesOwn.never (t_tru tru_any (jJb 3)) (jJe (jKi (i:=4) nd (jVe jJd))
   (jJe (jQz PassesOwn.never rfl (jUr (jJb 3)) (jJp (i:=5) nd) (jJn (jQz PassesOwn.never rfl (i_enT rfl T.n_enumerate rfl (jJa (e_ix (ix_F hu) (jJb 0) (jJb 5) (fun _ _=>rfl)) jJd)) (jVq rfl (jJv (jJp (i:=6) nd) (jJv (jJp (i:=7) nd) jQ1))) (jJn (s_if (jUk (jY7 hu) (e_ix (ix_F hu) (jJb 7) jJq (fun _ _=>rfl)) (jJb 2) (jJ2 _)) (jJe (jYg (jUb (jJa (jJb 5) (jJa (jJb 6) jJd))) (jYp (jJb 2) (e_ix (ix_F hu) (jJb 7) jJq (fun _ _=>rfl)) (s_F hu)))
   (jJn (jVg (e_bm PySem.F.plainAttrs_list PySem.F.slot_list_append PySem.F.type_list_append jQp (jJb 4) (jJa (e_ix (ix_F hu) (jJb 7) jJq (fun _ _=>rfl)) jJd))))) jK8)))))
   (jJn (jKi (i:=3) nd (jJb 4))))))
   (jJn (jKl (jJb 2))))))
noncomputable abbrev jVx:Stmt:=top 8
theorem sc_ends_by:FnScope ["ends","numbers","end"] ["ends","numbers"] (jJf jVx):=⟨rfl,rfl,rfl,by decide +kernel,rfl,by decide +kernel,by decide +kernel⟩
theorem ok_ends_by {P:Program} {w:World} {K:PySem.W.Frag} {mg:Str->Option Value} {base:Heap} {f:Addr} {fd:FuncData} (T:Txt mg) (F:Fun K "ends_by" "ends_by" jVx f fd) 
  (h:∀xs G Q,jKz xs G Q->jYa {nx:=fun _ G'=>Q .non G',rt:=Q} (jJk ["ends","numbers","end"] xs) G):Fn3 P w K mg base 1 f fd ["ends","numbers"] jKz:=by
 refine fn3 F sc_ends_by fun cdv A outer s H E hr=>⟨jYa,?_,h⟩
 have hu:=jQ0 hr
 have nd:=sc_ends_by.nd
 exact (jJn (jKl (jJ6 jK3 (by rfl) T.n_tuple rfl (jJa (jQs (mask:=[false,false,true]) rfl ⟨rfl,rfl,rfl,rfl,rfl,rfl,rfl⟩ (jUr (jJb 0)) jJ3 (fun C fp s H=>(jJp (i:=2) nd)) (fun C fp s H=>jQc) (fun C fp s H=>(jUb (jJa (e_ix (ix_F hu) (jJb 1) (e_ix (ix_F hu) (jJb 2) jJq (fun _ _=>rfl)) (fun _ _=>rfl)) (jJa (e_ix (ix_F hu) (jJb 2) jJq (fun _ _=>rfl)) jJd))))) jJd))))
noncomputable abbrev jQ7:Stmt:=top 9
theorem sc_renumbered:FnScope ["web","numbers","rooms","room","ends"] ["web","numbers"] (jJf jQ7):=⟨rfl,rfl,rfl,by decide +kernel,rfl,by decide +kernel,by decide +kernel⟩
theorem kUi {P:Program} {w:World} {K:PySem.W.Frag} {mg:Str->Option Value} {base:Heap} {f:Addr} {fd:FuncData} (T:Txt mg) (F:Fun K "renumbered" "renumbered" jQ7 f fd) (C_ends_by:Cal P w K mg base 1 "ends_by" ["ends","numbers"] jKz)
  (h:∀xs G Q,jKb xs G Q->jU0 {nx:=fun _ G'=>Q .non G',rt:=Q} (jJk ["web","numbers","rooms","room","ends"] xs) G):Fn3 P w K mg base 2 f fd ["web","numbers"] jKb:=by
 refine fn3 F sc_renumbered fun cdv A outer s H E hr=>⟨jU0,?_,h⟩
 have hu:=jQ0 hr
 have nd:=sc_renumbered.nd
 exact (jJe (jKi (i:=2) nd (jJ6 c_listA (by rfl) T.n_list rfl (jJa (jJb 0) jJd)))
   (jJe (jQz PassesOwn.never rfl (i_enT rfl T.n_enumerate rfl (jJa (jJb 0) jJd)) (jVq rfl (jJv (jJp (i:=3) nd) (jJv (jJp (i:=4) nd) jQ1))) (jJn (jYg (jJ7 C_ends_by (hr.mono (by decide)) (jJa (jJb 4) (jJa (jJb 1) jJd))) (jYp (jJb 2) (e_ix (ix_F hu) (jJb 1) (jJb 3) (fun _ _=>rfl)) (s_F hu)))))
   (jJn (jKl (jJ6 jK3 (by rfl) T.n_tuple rfl (jJa (jJb 2) jJd))))))
noncomputable abbrev jUl:Stmt:=top 10
theorem sc_told_from:FnScope ["web","room","numbers","number","come_to"] ["web","room"] (jJf jUl):=⟨rfl,rfl,rfl,by decide +kernel,rfl,by decide +kernel,by decide +kernel⟩
theorem ok_told_from {P:Program} {w:World} {K:PySem.W.Frag} {mg:Str->Option Value} {base:Heap} {f:Addr} {fd:FuncData} (T:Txt mg) (F:Fun K "told_from" "told_from" jUl f fd) (C_first_comings:Cal P w K mg base 1 "first_comings" ["web","room"] jJ4) (C_renumbered:Cal P w K mg base 2 "renumbered" ["web","numbers"] jKb)
  (h:∀xs G Q,jKo xs G Q->jVi {nx:=fun _ G'=>Q .non G',rt:=Q} (jJk ["web","room","numbers","number","come_to"] xs) G):Fn3 P w K mg base 3 f fd ["web","room"] jKo:=by
 refine fn3 F sc_told_from fun cdv A outer s H E hr=>⟨jVi,?_,h⟩
 have hu:=jQ0 hr
 have nd:=sc_told_from.nd
 exact (jJe (jKi (i:=2) nd (kKj rfl T.n_list rfl T.n_range rfl (jJa (jJt jQw (by rfl) T.n_len PySem.boot_len (jJa (jJb 0) jJd)) jJd)))
   (jJe (jQz PassesOwn.never rfl (i_enum rfl T.n_enumerate rfl (jJa (jJ6 (c_listD rfl) (by rfl) T.n_list rfl (jJa (jJ7 C_first_comings (hr.mono (by decide)) (jJa (jJb 0) (jJa (jJb 1) jJd))) jJd)) jJd)) (jVq rfl (jJv (jJp (i:=3) nd) (jJv (jJp (i:=4) nd) jQ1))) (jJn (jYg (jJb 3) (jYp (jJb 2) (jJb 4) (s_F hu)))))
   (jJn (jKl (jJ7 C_renumbered (hr.mono (by decide)) (jJa (jJb 0) (jJa (jJ6 jK3 (by rfl) T.n_tuple rfl (jJa (jJb 2) jJd)) jJd)))))))
noncomputable abbrev jU7:Stmt:=top 12
theorem sc_folds_by:FnScope ["web"] ["web"] (jJf jU7):=⟨rfl,rfl,rfl,by decide +kernel,rfl,by decide +kernel,by decide +kernel⟩
theorem ok_folds_by {P:Program} {w:World} {K:PySem.W.Frag} {mg:Str->Option Value} {base:Heap} {f:Addr} {fd:FuncData} (T:Txt mg) (F:Fun K "folds_by" "folds_by" jU7 f fd) (C_kind_numbers:Cal P w K mg base 2 "kind_numbers" ["web","steps"] jJz)
  (h:∀xs G Q,jKh xs G Q->jXd {nx:=fun _ G'=>Q .non G',rt:=Q} (jJk ["web"] xs) G):Fn3 P w K mg base 3 f fd ["web"] jKh:=by
 refine fn3 F sc_folds_by fun cdv A outer s H E hr=>⟨jXd,?_,h⟩
 have hu:=jQ0 hr
 have nd:=sc_folds_by.nd
 exact (jJn (jKl (jJ6 jK3 (by rfl) T.n_tuple rfl (jJa (jJ7 C_kind_numbers (hr.mono (by decide)) (jJa (jJb 0) (jJa (jJt jQw (by rfl) T.n_len PySem.boot_len (jJa (jJb 0) jJd)) jJd))) jJd))))
noncomputable abbrev jX6:Stmt:=top 13
theorem sc_folded:FnScope ["web","numbers","kind"] ["web"] (jJf jX6):=⟨rfl,rfl,rfl,by decide +kernel,rfl,by decide +kernel,by decide +kernel⟩
theorem ok_folded {P:Program} {w:World} {K:PySem.W.Frag} {mg:Str->Option Value} {base:Heap} {f:Addr} {fd:FuncData} (T:Txt mg) (F:Fun K "folded" "folded" jX6 f fd) (C_folds_by:Cal P w K mg base 3 "folds_by" ["web"] jKh) (C_kinds:Cal P w K mg base 4 "kinds" ["web"] jUu) (C_ends_by:Cal P w K mg base 1 "ends_by" ["ends","numbers"] jKz)
  (h:∀xs G Q,jQy xs G Q->jY3 {nx:=fun _ G'=>Q .non G',rt:=Q} (jJk ["web","numbers","kind"] xs) G):Fn3 P w K mg base 5 f fd ["web"] jQy:=by
 refine fn3 F sc_folded fun cdv A outer s H E hr=>⟨jY3,?_,h⟩
 have hu:=jQ0 hr
 have nd:=sc_folded.nd
 exact (jJe (jKi (i:=1) nd (jJ7 C_folds_by (hr.mono (by decide)) (jJa (jJb 0) jJd)))
   (jJn (jKl (jJ6 jK3 (by rfl) T.n_tuple rfl (jJa (jQs (mask:=[false,false,true]) rfl ⟨rfl,rfl,rfl,rfl,rfl,rfl,rfl⟩ (jUr (jJ7 C_kinds (hr.mono (by decide)) (jJa (jJb 0) jJd))) jJ3 (fun C fp s H=>(jJp (i:=2) nd)) (fun C fp s H=>jQc) (fun C fp s H=>(jJ7 C_ends_by (hr.mono (by decide)) (jJa (e_ix (ix_F hu) (jJb 0) (e_ix (ix_F hu) (jJb 2) jJq (fun _ _=>rfl)) (fun _ _=>rfl)) (jJa (jJb 1) jJd))))) jJd)))))
noncomputable abbrev jK5:Stmt:=top 14
theorem sc_can_be_learnt:FnScope ["web","room"] ["web","room"] (jJf jK5):=⟨rfl,rfl,rfl,by decide +kernel,rfl,by decide +kernel,by decide +kernel⟩
theorem kJb {P:Program} {w:World} {K:PySem.W.Frag} {mg:Str->Option Value} {base:Heap} {f:Addr} {fd:FuncData} (T:Txt mg) (F:Fun K "can_be_learnt" "can_be_learnt" jK5 f fd) (C_told_from:Cal P w K mg base 3 "told_from" ["web","room"] jKo) (C_folds_by:Cal P w K mg base 3 "folds_by" ["web"] jKh) (C_folded:Cal P w K mg base 5 "folded" ["web"] jQy)
  (h:∀xs G Q,jJr xs G Q->jQ4 {nx:=fun _ G'=>Q .non G',rt:=Q} (jJk ["web","room"] xs) G):Fn3 P w K mg base 6 f fd ["web","room"] jJr:=by
 refine fn3 F sc_can_be_learnt fun cdv A outer s H E hr=>⟨jQ4,?_,h⟩
 have hu:=jQ0 hr
 have nd:=sc_can_be_learnt.nd
 exact (jJn (jKl (jJ7 C_told_from (hr.mono (by decide)) (jJa (jJ7 C_folded (hr.mono (by decide)) (jJa (jJb 0) jJd)) (jJa (e_ix (ix_F hu) (jJ7 C_folds_by (hr.mono (by decide)) (jJa (jJb 0) jJd)) (jJb 1) (fun _ _=>rfl)) jJd)))))
noncomputable abbrev jZn:Stmt:=top 16
theorem sc_l_box:FnScope ["_law_script","_law_k","_law_cell"] ["_law_script","_law_k"] (jJf jZn):=⟨rfl,rfl,rfl,by decide +kernel,rfl,by decide +kernel,by decide +kernel⟩
theorem ok_l_box {P:Program} {w:World} {K:PySem.W.Frag} {mg:Str->Option Value} {base:Heap} {f:Addr} {fd:FuncData} (T:Txt mg) (F:Fun K "_law_box" "_law_box" jZn f fd) 
  (h:∀xs G Q,jUt xs G Q->kJm {nx:=fun _ G'=>Q .non G',rt:=Q} (jJk ["_law_script","_law_k","_law_cell"] xs) G):Fn3 P w K mg base 1 f fd ["_law_script","_law_k"] jUt:=by
 refine fn3 F sc_l_box fun cdv A outer s H E hr=>⟨kJm,?_,h⟩
 have hu:=jQ0 hr
 have nd:=sc_l_box.nd
 exact (jJe (jKi (i:=2) nd (e_ix (ix_F hu) (e_op o_addS (jJb 0) (e_op jVb (jVe (jJa jJq jJd)) (e_op o_addF (jJb 1) jJq))) (jJb 1) (fun _ _=>rfl)))
   (jJn (jKl (jVe (jJa (e_op jVb (jJt c_abs (by rfl) T.n_abs rfl (jJa (jJb 2) jJd)) (jJ6 c_int (by rfl) T.n_int rfl (jJa (kU1 o_ge (jJt c_abs (by rfl) T.n_abs rfl (jJa (jJb 2) jJd)) (e_op o_pow jJq jJq) (jJ2 _)) jJd))) (jJa (e_op kJ6 (e_op jVb (e_op o_addF (e_op o_addF (e_op kJ6 (jJb 2) jJq) (e_op jVb jJq (jJb 1))) jJq) jJq) jJq) (jJa jJq jJd)))))))
noncomputable abbrev jXz:Stmt:=top 17
theorem sc_l_take:FnScope ["_law_box_here","_law_many","_law_found","_law_once"] ["_law_box_here","_law_many"] (jJf jXz):=⟨rfl,rfl,rfl,by decide +kernel,rfl,by decide +kernel,by decide +kernel⟩
theorem ok_l_take {P:Program} {w:World} {K:PySem.W.Frag} {mg:Str->Option Value} {base:Heap} {f:Addr} {fd:FuncData} (T:Txt mg) (F:Fun K "_law_take" "_law_take" jXz f fd) 
  (h:∀xs G Q,jJs xs G Q->jYx {nx:=fun _ G'=>Q .non G',rt:=Q} (jJk ["_law_box_here","_law_many","_law_found","_law_once"] xs) G):Fn3 P w K mg base 1 f fd ["_law_box_here","_law_many"] jJs:=by
 refine fn3 F sc_l_take fun cdv A outer s H E hr=>⟨jYx,?_,h⟩
 have hu:=jQ0 hr
 have nd:=sc_l_take.nd
 exact (jJe (s_if (jUk o_gt (e_ix (ix_F hu) (jJb 0) jJq (fun _ _=>rfl)) jJq (jJ2 _)) (jJe (jYg (jJt c_divmod (by rfl) T.n_divmod rfl (jJa (e_ix (ix_F hu) (jJb 0) jJq (fun _ _=>rfl)) (jJa (jJb 1) jJd))) (jVq rfl (jJv (jYp (jJb 0) jJq (s_F hu)) (jJv (jJp (i:=2) nd) jQ1))))
   (jJn (jKl (jJb 2)))) jK8)
   (jJe (jYg (e_op o_addF (e_ix (ix_F hu) (jJb 0) jJq (fun _ _=>rfl)) jJq) (jYp (jJb 0) jJq (s_F hu)))
   (jJe (jKi (i:=3) nd (e_op kJ6 (e_op jVb (e_op o_addF (e_ix (ix_F hu) (jJb 0) jJq (fun _ _=>rfl)) (e_op jVb jJq (e_ix (ix_F hu) (jJb 0) jJq (fun _ _=>rfl)))) (e_op o_addF jJq (e_ix (ix_F hu) (jJb 0) jJq (fun _ _=>rfl)))) jJq))
   (jJe (jYg (e_op kJ6 (e_op o_addF (e_op jVb (jJb 3) (e_op o_addF (e_op kJ6 (jJb 3) jJq) jJq)) (e_ix (ix_F hu) (jJb 0) jJq (fun _ _=>rfl))) jJq) (jYp (jJb 0) jJq (s_F hu)))
   (jJn (jKl (e_op kJ6 (e_op o_fdiv (e_op kJ6 (e_op jVb (e_ix (ix_F hu) (jJb 0) jJq (fun _ _=>rfl)) (e_op o_addF (e_op kJ6 (e_ix (ix_F hu) (jJb 0) jJq (fun _ _=>rfl)) jJq) jJq)) jJq) jJq) (jJb 1))))))))
noncomputable abbrev jU5:Stmt:=top 18
theorem sc_l_joined:FnScope ["_law_halves","_law_at","_law_room","_law_door","_law_half","_law_web_here","_law_doors","_law_tie","_law_side"] ["_law_halves"] (jJf jU5):=⟨rfl,rfl,rfl,by decide +kernel,rfl,by decide +kernel,by decide +kernel⟩
theorem ok_l_joined {P:Program} {w:World} {K:PySem.W.Frag} {mg:Str->Option Value} {base:Heap} {f:Addr} {fd:FuncData} (T:Txt mg) (F:Fun K "_law_joined" "_law_joined" jU5 f fd) 
  (h:∀xs G Q,jK1 xs G Q->jXb {nx:=fun _ G'=>Q .non G',rt:=Q} (jJk ["_law_halves","_law_at","_law_room","_law_door","_law_half","_law_web_here","_law_doors","_law_tie","_law_side"] xs) G):Fn3 P w K mg base 1 f fd ["_law_halves"] jK1:=by
 refine fn3 F sc_l_joined fun cdv A outer s H E hr=>⟨jXb,?_,h⟩
 have hu:=jQ0 hr
 have nd:=sc_l_joined.nd
 exact (jJe (jKi (i:=1) nd e_dct)
   (jJe (jQz PassesOwn.never rfl (jKc rfl T.n_range (jJa (jJt jQw (by rfl) T.n_len PySem.boot_len (jJa (jJb 0) jJd)) jJd)) (jJp (i:=2) nd) (jJn (jQz PassesOwn.never rfl (i_enum rfl T.n_enumerate rfl (jJa (e_ix (ix_F hu) (jJb 0) (jJb 2) (fun _ _=>rfl)) jJd)) (jVq rfl (jJv (jJp (i:=3) nd) (jJv (jJp (i:=4) nd) jQ1))) (jJn (jYg (jUb (jJa (jJb 2) (jJa (jJb 3) jJd))) (jYp (jJb 1) (jJb 4) (s_F hu)))))))
   (jJe (jKi (i:=5) nd (jVe jJd))
   (jJe (jQz PassesOwn.never rfl (jUr (jJb 0)) (jJp (i:=6) nd) (jJn (jVg (e_bm PySem.F.plainAttrs_list PySem.F.slot_list_append PySem.F.type_list_append jQp (jJb 5) (jJa (jJ6 jK3 (by rfl) T.n_tuple rfl (jJa (jQs (mask:=[false,false,false,false,false,false,false,true,true]) rfl ⟨rfl,rfl,rfl,rfl,rfl,rfl,rfl⟩ (jUr (jJb 6)) (jZ4 (jQu jJ3 jKn (jQu jJ3 jKn jZ5 jUz) (jXp jKn jUz))) (fun C fp s H=>(jVq rfl (jJv (jJp (i:=7) nd) (jJv (jJp (i:=8) nd) jQ1)))) (fun C fp s H=>jQc) (fun C fp s H=>(e_ix (ix_F hu) (jJb 1) (jUb (jJa (jJb 7) (jJa (e_ix (ix_F hu) (jVe (jJa jJq (jJa jJq (jJa jJq jJd)))) (jJb 8) (fun _ _=>rfl)) jJd))) (fun _ _=>rfl)))) jJd)) jJd)))))
   (jJn (jKl (jJ6 jK3 (by rfl) T.n_tuple rfl (jJa (jJb 5) jJd))))))))
noncomputable abbrev jQo:Stmt:=top 19
theorem sc_l_doors_put:FnScope ["_law_box_here","_law_pairs","_law_many","_law_halves","_law_tie","_law_one","_law_other","_law_sides","_law_room","_law_side"] ["_law_box_here","_law_pairs","_law_many"] (jJf jQo):=⟨rfl,rfl,rfl,by decide +kernel,rfl,by decide +kernel,by decide +kernel⟩
theorem kK3 {P:Program} {w:World} {K:PySem.W.Frag} {mg:Str->Option Value} {base:Heap} {f:Addr} {fd:FuncData} (T:Txt mg) (F:Fun K "_law_doors_put" "_law_doors_put" jQo f fd) (C_l_take:Cal P w K mg base 1 "_law_take" ["_law_box_here","_law_many"] jJs) (C_l_joined:Cal P w K mg base 1 "_law_joined" ["_law_halves"] jK1)
  (h:∀xs G Q,jJ8 xs G Q->jUw {nx:=fun _ G'=>Q .non G',rt:=Q} (jJk ["_law_box_here","_law_pairs","_law_many","_law_halves","_law_tie","_law_one","_law_other","_law_sides","_law_room","_law_side"] xs) G):Fn3 P w K mg base 2 f fd ["_law_box_here","_law_pairs","_law_many"] jJ8:=by
 refine fn3 F sc_l_doors_put fun cdv A outer s H E hr=>⟨jUw,?_,h⟩
 have hu:=jQ0 hr
 have nd:=sc_l_doors_put.nd
 exact (jJe (s_comp (i:=3) (mask:=[false,false,false,false,false,false,false,false,true,false]) rfl nd ⟨rfl,rfl,rfl,rfl,rfl,rfl,rfl⟩ (jKc rfl T.n_range (jJa (jJb 2) jJd)) jJ3 (fun C fp s H=>(jJp (i:=8) nd)) (fun C fp s H=>jQc) (fun C fp s H=>(jVe jJd)))
   (jJe (jQz PassesOwn.never rfl (i_enum rfl T.n_enumerate rfl (jJa (jJb 1) jJd)) (jVq rfl (jJv (jJp (i:=4) nd) (jJv (jVq rfl (jJv (jJp (i:=5) nd) (jJv (jJp (i:=6) nd) jQ1))) jQ1))) (jJe (jKi (i:=7) nd (e_ifExp (jUk (kJc hr.units) (jJb 6) (jJb 2) (jJ2 _)) (jVe (jJa (jUb (jJa (jJb 5) (jJa jJq jJd))) jJd)) (jVe (jJa (jUb (jJa (jJb 5) (jJa jJq jJd))) (jJa (jUb (jJa (jJb 6) (jJa jJq jJd))) jJd)))))
   (jJn (jQz PassesOwn.never rfl (jUr (jJb 7)) (jVq rfl (jJv (jJp (i:=8) nd) (jJv (jJp (i:=9) nd) jQ1))) (jJn (jVg (e_bm PySem.F.plainAttrs_list PySem.F.slot_list_insert PySem.F.type_list_insert m_insert (e_ix (ix_F hu) (jJb 3) (jJb 8) (fun _ _=>rfl)) (jJa (jJ7 C_l_take (hr.mono (by decide)) (jJa (jJb 0) (jJa (e_op o_addF (jJt jQw (by rfl) T.n_len PySem.boot_len (jJa (e_ix (ix_F hu) (jJb 3) (jJb 8) (fun _ _=>rfl)) jJd)) jJq) jJd))) (jJa (jUb (jJa (jJb 4) (jJa (jJb 9) jJd))) jJd)))))))))
   (jJn (jKl (jJ7 C_l_joined (hr.mono (by decide)) (jJa (jJb 3) jJd))))))
noncomputable abbrev jZm:Stmt:=top 20
theorem sc_l_web:FnScope ["_law_box_here","_law_many","_law_most","_law_used","_law_pairs","_law_room","_law_free","_law_end","_law_turn_here","_law_pair","_law_ends_here","_law_one"] ["_law_box_here","_law_many","_law_most"] (jJf jZm):=⟨rfl,rfl,rfl,by decide +kernel,rfl,by decide +kernel,by decide +kernel⟩
theorem ok_l_web {P:Program} {w:World} {K:PySem.W.Frag} {mg:Str->Option Value} {base:Heap} {f:Addr} {fd:FuncData} (T:Txt mg) (F:Fun K "_law_web" "_law_web" jZm f fd) (C_l_take:Cal P w K mg base 1 "_law_take" ["_law_box_here","_law_many"] jJs) (C_l_doors_put:Cal P w K mg base 2 "_law_doors_put" ["_law_box_here","_law_pairs","_law_many"] jJ8)
  (h:∀xs G Q,jQ2 xs G Q->kJl {nx:=fun _ G'=>Q .non G',rt:=Q} (jJk ["_law_box_here","_law_many","_law_most","_law_used","_law_pairs","_law_room","_law_free","_law_end","_law_turn_here","_law_pair","_law_ends_here","_law_one"] xs) G):Fn3 P w K mg base 3 f fd ["_law_box_here","_law_many","_law_most"] jQ2:=by
 refine fn3 F sc_l_web fun cdv A outer s H E hr=>⟨kJl,?_,h⟩
 have hu:=jQ0 hr
 have nd:=sc_l_web.nd
 exact (jJe (jKi (i:=3) nd (e_op jVb (jVe (jJa jJq jJd)) (jJb 1)))
   (jJe (jKi (i:=4) nd (jVe jJd))
   (jJe (jQz PassesOwn.never rfl (i_range2 rfl T.n_range (jJa jJq (jJa (jJb 1) jJd))) (jJp (i:=5) nd) (jJe (s_comp (i:=6) (mask:=[false,false,false,false,false,false,false,false,false,false,false,true]) rfl nd ⟨rfl,rfl,rfl,rfl,rfl,rfl,rfl⟩ (jKc rfl T.n_range (jJa (jJb 5) jJd)) jJ3 (fun C fp s H=>(jJp (i:=11) nd)) (fun C fp s H=>(if_one (jUk o_lt (e_ix (ix_F hu) (jJb 3) (jJb 11) (fun _ _=>rfl)) (jJb 2) (jJ2 _)))) (fun C fp s H=>(jJb 11)))
   (jJe (jVg (e_bm PySem.F.plainAttrs_list PySem.F.slot_list_append PySem.F.type_list_append jQp (jJb 4) (jJa (jUb (jJa (e_ix (ix_F hu) (jJb 6) (jJ7 C_l_take (hr.mono (by decide)) (jJa (jJb 0) (jJa (jJt jQw (by rfl) T.n_len PySem.boot_len (jJa (jJb 6) jJd)) jJd))) (fun _ _=>rfl)) (jJa (jJb 5) jJd))) jJd)))
   (jJn (jQz PassesOwn.never rfl (jUr (e_ix (ix_F hu) (jJb 4) (e_un u_neg jJq) (fun _ _=>rfl))) (jJp (i:=7) nd) (jJn (jYg (e_op o_addF (e_ix (ix_F hu) (jJb 3) (jJb 7) (fun _ _=>rfl)) jJq) (jYp (jJb 3) (jJb 7) (s_F hu)))))))))
   (jJe (jQz PassesOwn.never rfl (jKc rfl T.n_range (jJa (jJ7 C_l_take (hr.mono (by decide)) (jJa (jJb 0) (jJa (e_op o_addF (jJb 1) jJq) jJd))) jJd)) (jJp (i:=8) nd) (jJe (jKi (i:=9) nd (jUb (jJa (jJ7 C_l_take (hr.mono (by decide)) (jJa (jJb 0) (jJa (jJb 1) jJd))) (jJa (jJ7 C_l_take (hr.mono (by decide)) (jJa (jJb 0) (jJa (e_op o_addF (jJb 1) jJq) jJd))) jJd))))
   (jJe (jKi (i:=10) nd (jQs (mask:=[false,false,false,false,false,false,false,true,false,false,false,false]) rfl ⟨rfl,rfl,rfl,rfl,rfl,rfl,rfl⟩ (jUr (jJb 9)) jJ3 (fun C fp s H=>(jJp (i:=7) nd)) (fun C fp s H=>(if_one (jUk o_lt (jJb 7) (jJb 1) (jJ2 _)))) (fun C fp s H=>(jJb 7))))
   (jJn (s_if (t_val (jJt (c_all rfl) (by rfl) T.n_all rfl (jJa (jQs (mask:=[false,false,false,false,false,false,false,true,false,false,false,false]) rfl ⟨rfl,rfl,rfl,rfl,rfl,rfl,rfl⟩ (jUr (jJb 10)) jJ3 (fun C fp s H=>(jJp (i:=7) nd)) (fun C fp s H=>jQc) (fun C fp s H=>(kU1 (o_leF hu) (e_op o_addF (e_ix (ix_F hu) (jJb 3) (jJb 7) (fun _ _=>rfl)) (e_bm PySem.F.plainAttrs_list PySem.F.slot_list_count PySem.F.type_list_count m_count (jJb 10) (jJa (jJb 7) jJd))) (jJb 2) (jJ2 _)))) jJd))) (jJe (jVg (e_bm PySem.F.plainAttrs_list PySem.F.slot_list_append PySem.F.type_list_append jQp (jJb 4) (jJa (jJb 9) jJd)))
   (jJn (jQz PassesOwn.never rfl (jUr (jJb 10)) (jJp (i:=7) nd) (jJn (jYg (e_op o_addF (e_ix (ix_F hu) (jJb 3) (jJb 7) (fun _ _=>rfl)) jJq) (jYp (jJb 3) (jJb 7) (s_F hu))))))) jK8)))))
   (jJn (jKl (jJ7 C_l_doors_put (hr.mono (by decide)) (jJa (jJb 0) (jJa (jJb 4) (jJa (jJb 1) jJd))))))))))
noncomputable abbrev jX1:Stmt:=top 21
theorem sc_l_ring:FnScope ["_law_many","_law_room"] ["_law_many"] (jJf jX1):=⟨rfl,rfl,rfl,by decide +kernel,rfl,by decide +kernel,by decide +kernel⟩
theorem ok_l_ring {P:Program} {w:World} {K:PySem.W.Frag} {mg:Str->Option Value} {base:Heap} {f:Addr} {fd:FuncData} (T:Txt mg) (F:Fun K "_law_ring" "_law_ring" jX1 f fd) 
  (h:∀xs G Q,jQx xs G Q->jYy {nx:=fun _ G'=>Q .non G',rt:=Q} (jJk ["_law_many","_law_room"] xs) G):Fn3 P w K mg base 1 f fd ["_law_many"] jQx:=by
 refine fn3 F sc_l_ring fun cdv A outer s H E hr=>⟨jYy,?_,h⟩
 have hu:=jQ0 hr
 have nd:=sc_l_ring.nd
 exact (jJn (jKl (jJ6 jK3 (by rfl) T.n_tuple rfl (jJa (jQs (mask:=[false,true]) rfl ⟨rfl,rfl,rfl,rfl,rfl,rfl,rfl⟩ (jKc rfl T.n_range (jJa (jJb 0) jJd)) jJ3 (fun C fp s H=>(jJp (i:=1) nd)) (fun C fp s H=>jQc) (fun C fp s H=>(jUb (jJa (jUb (jJa (e_op kJ6 (e_op o_addF (jJb 1) jJq) (jJb 0)) (jJa jJq jJd))) (jJa (jUb (jJa (e_op kJ6 (e_op o_sub (jJb 1) jJq) (jJb 0)) (jJa jJq jJd))) jJd))))) jJd))))
noncomputable abbrev jX5:Stmt:=top 22
theorem sc_l_ends:FnScope ["_law_web_here","_law_found","_law_room","_law_door"] ["_law_web_here"] (jJf jX5):=⟨rfl,rfl,rfl,by decide +kernel,rfl,by decide +kernel,by decide +kernel⟩
theorem ok_l_ends {P:Program} {w:World} {K:PySem.W.Frag} {mg:Str->Option Value} {base:Heap} {f:Addr} {fd:FuncData} (T:Txt mg) (F:Fun K "_law_ends" "_law_ends" jX5 f fd) 
  (h:∀xs G Q,jQa xs G Q->jY2 {nx:=fun _ G'=>Q .non G',rt:=Q} (jJk ["_law_web_here","_law_found","_law_room","_law_door"] xs) G):Fn3 P w K mg base 1 f fd ["_law_web_here"] jQa:=by
 refine fn3 F sc_l_ends fun cdv A outer s H E hr=>⟨jY2,?_,h⟩
 have hu:=jQ0 hr
 have nd:=sc_l_ends.nd
 exact (jJe (jKi (i:=1) nd (jVe jJd))
   (jJe (jQz PassesOwn.never rfl (jKc rfl T.n_range (jJa (jJt jQw (by rfl) T.n_len PySem.boot_len (jJa (jJb 0) jJd)) jJd)) (jJp (i:=2) nd) (jJn (jQz PassesOwn.never rfl (jKc rfl T.n_range (jJa (jJt jQw (by rfl) T.n_len PySem.boot_len (jJa (e_ix (ix_F hu) (jJb 0) (jJb 2) (fun _ _=>rfl)) jJd)) jJd)) (jJp (i:=3) nd) (jJn (s_if (jUk (o_leF hu) (jUb (jJa (jJb 2) (jJa (jJb 3) jJd))) (e_ix (ix_F hu) (e_ix (ix_F hu) (jJb 0) (jJb 2) (fun _ _=>rfl)) (jJb 3) (fun _ _=>rfl)) (jJ2 _)) (jJn (jVg (e_bm PySem.F.plainAttrs_list PySem.F.slot_list_append PySem.F.type_list_append jQp (jJb 1) (jJa (jUb (jJa (jUb (jJa (jJb 2) (jJa (jJb 3) jJd))) (jJa (e_ix (ix_F hu) (e_ix (ix_F hu) (jJb 0) (jJb 2) (fun _ _=>rfl)) (jJb 3) (fun _ _=>rfl)) jJd))) jJd)))) jK8)))))
   (jJn (jKl (jJb 1)))))
noncomputable abbrev jUo:Stmt:=top 23
theorem sc_l_reached:FnScope ["_law_web_here","_law_room","_law_found","_law_at","_law_other","_law_door"] ["_law_web_here","_law_room"] (jJf jUo):=⟨rfl,rfl,rfl,by decide +kernel,rfl,by decide +kernel,by decide +kernel⟩
theorem ok_l_reached {P:Program} {w:World} {K:PySem.W.Frag} {mg:Str->Option Value} {base:Heap} {f:Addr} {fd:FuncData} (T:Txt mg) (F:Fun K "_law_reached" "_law_reached" jUo f fd) 
  (h:∀xs G Q,jKa xs G Q->jVl {nx:=fun _ G'=>Q .non G',rt:=Q} (jJk ["_law_web_here","_law_room","_law_found","_law_at","_law_other","_law_door"] xs) G):Fn3 P w K mg base 1 f fd ["_law_web_here","_law_room"] jKa:=by
 refine fn3 F sc_l_reached fun cdv A outer s H E hr=>⟨jVl,?_,h⟩
 have hu:=jQ0 hr
 have nd:=sc_l_reached.nd
 exact (jJe (jKi (i:=2) nd (jVe (jJa (jJb 1) jJd)))
   (jJe (jKi (i:=3) nd jJq)
   (jJe (s_while PassesOwn.never (jUk o_lt (jJb 3) (jJt jQw (by rfl) T.n_len PySem.boot_len (jJa (jJb 2) jJd)) (jJ2 _)) (jJe (jQz PassesOwn.never rfl (jUr (e_ix (ix_F hu) (jJb 0) (e_ix (ix_F hu) (jJb 2) (jJb 3) (fun _ _=>rfl)) (fun _ _=>rfl))) (jVq rfl (jJv (jJp (i:=4) nd) (jJv (jJp (i:=5) nd) jQ1))) (jJn (s_if (jUk (jY7 hu) (jJb 4) (jJb 2) (jJ2 _)) (jJn (jVg (e_bm PySem.F.plainAttrs_list PySem.F.slot_list_append PySem.F.type_list_append jQp (jJb 2) (jJa (jJb 4) jJd)))) jK8)))
   (jJn (jKi (i:=3) nd (e_op o_addF (jJb 3) jJq)))))
   (jJn (jKl (jJb 2))))))
noncomputable abbrev jUm:Stmt:=top 24
theorem sc_l_sheeted:FnScope ["_law_web_here","_law_turns","_law_many","_law_made","_law_t","_law_one","_law_other","_law_k","_law_spot","_law_there","_law_n","_law_room"] ["_law_web_here","_law_turns","_law_many"] (jJf jUm):=⟨rfl,rfl,rfl,by decide +kernel,rfl,by decide +kernel,by decide +kernel⟩
theorem ok_l_sheeted {P:Program} {w:World} {K:PySem.W.Frag} {mg:Str->Option Value} {base:Heap} {f:Addr} {fd:FuncData} (T:Txt mg) (F:Fun K "_law_sheeted" "_law_sheeted" jUm f fd) (C_l_ends:Cal P w K mg base 1 "_law_ends" ["_law_web_here"] jQa)
  (h:∀xs G Q,jKp xs G Q->jVj {nx:=fun _ G'=>Q .non G',rt:=Q} (jJk ["_law_web_here","_law_turns","_law_many","_law_made","_law_t","_law_one","_law_other","_law_k","_law_spot","_law_there","_law_n","_law_room"] xs) G):Fn3 P w K mg base 2 f fd ["_law_web_here","_law_turns","_law_many"] jKp:=by
 refine fn3 F sc_l_sheeted fun cdv A outer s H E hr=>⟨jVj,?_,h⟩
 have hu:=jQ0 hr
 have nd:=sc_l_sheeted.nd
 exact (jJe (s_comp (i:=3) (mask:=[false,false,false,false,false,false,false,false,false,false,true,false]) rfl nd ⟨rfl,rfl,rfl,rfl,rfl,rfl,rfl⟩ (jKc rfl T.n_range (jJa (e_op jVb (jJb 2) (jJt jQw (by rfl) T.n_len PySem.boot_len (jJa (jJb 0) jJd))) jJd)) jJ3 (fun C fp s H=>(jJp (i:=10) nd)) (fun C fp s H=>jQc) (fun C fp s H=>(e_op jVb (jVe (jJa e_non jJd)) (jJt jQw (by rfl) T.n_len PySem.boot_len (jJa (e_ix (ix_F hu) (jJb 0) (e_op kJ6 (jJb 10) (jJt jQw (by rfl) T.n_len PySem.boot_len (jJa (jJb 0) jJd))) (fun _ _=>rfl)) jJd)))))
   (jJe (jQz PassesOwn.never rfl (i_enum rfl T.n_enumerate rfl (jJa (jJ7 C_l_ends (hr.mono (by decide)) (jJa (jJb 0) jJd)) jJd)) (jVq rfl (jJv (jJp (i:=4) nd) (jJv (jVq rfl (jJv (jJp (i:=5) nd) (jJv (jJp (i:=6) nd) jQ1))) jQ1))) (jJn (jQz PassesOwn.never rfl (jKc rfl T.n_range (jJa (jJb 2) jJd)) (jJp (i:=7) nd) (jJe (jKi (i:=8) nd (e_op o_addF (e_ix (ix_F hu) (jJb 5) jJq (fun _ _=>rfl)) (e_op jVb (jJb 7) (jJt jQw (by rfl) T.n_len PySem.boot_len (jJa (jJb 0) jJd)))))
   (jJe (jKi (i:=9) nd (e_op o_addF (e_ix (ix_F hu) (jJb 6) jJq (fun _ _=>rfl)) (e_op jVb (e_ix (ix_F hu) (e_ix (ix_F hu) (jJb 1) (jJb 4) (fun _ _=>rfl)) (jJb 7) (fun _ _=>rfl)) (jJt jQw (by rfl) T.n_len PySem.boot_len (jJa (jJb 0) jJd)))))
   (jJe (jYg (jUb (jJa (jJb 9) (jJa (e_ix (ix_F hu) (jJb 6) jJq (fun _ _=>rfl)) jJd))) (jYp (e_ix (ix_F hu) (jJb 3) (jJb 8) (fun _ _=>rfl)) (e_ix (ix_F hu) (jJb 5) jJq (fun _ _=>rfl)) (s_F hu)))
   (jJn (jYg (jUb (jJa (jJb 8) (jJa (e_ix (ix_F hu) (jJb 5) jJq (fun _ _=>rfl)) jJd))) (jYp (e_ix (ix_F hu) (jJb 3) (jJb 9) (fun _ _=>rfl)) (e_ix (ix_F hu) (jJb 6) jJq (fun _ _=>rfl)) (s_F hu))))))))))
   (jJn (jKl (jJ6 jK3 (by rfl) T.n_tuple rfl (jJa (jQs (mask:=[false,false,false,false,false,false,false,false,false,false,false,true]) rfl ⟨rfl,rfl,rfl,rfl,rfl,rfl,rfl⟩ (jUr (jJb 3)) jJ3 (fun C fp s H=>(jJp (i:=11) nd)) (fun C fp s H=>jQc) (fun C fp s H=>(jJ6 jK3 (by rfl) T.n_tuple rfl (jJa (jJb 11) jJd)))) jJd))))))
noncomputable abbrev jXy:Stmt:=top 25
theorem sc_l_turn:FnScope ["_law_box_here","_law_many","_law_own","_law_order","_law_k","_law_turn_here","_law_first","_law_second"] ["_law_box_here","_law_many","_law_own"] (jJf jXy):=⟨rfl,rfl,rfl,by decide +kernel,rfl,by decide +kernel,by decide +kernel⟩
theorem ok_l_turn {P:Program} {w:World} {K:PySem.W.Frag} {mg:Str->Option Value} {base:Heap} {f:Addr} {fd:FuncData} (T:Txt mg) (F:Fun K "_law_turn" "_law_turn" jXy f fd) (C_l_take:Cal P w K mg base 1 "_law_take" ["_law_box_here","_law_many"] jJs)
  (h:∀xs G Q,jK9 xs G Q->jYw {nx:=fun _ G'=>Q .non G',rt:=Q} (jJk ["_law_box_here","_law_many","_law_own","_law_order","_law_k","_law_turn_here","_law_first","_law_second"] xs) G):Fn3 P w K mg base 2 f fd ["_law_box_here","_law_many","_law_own"] jK9:=by
 refine fn3 F sc_l_turn fun cdv A outer s H E hr=>⟨jYw,?_,h⟩
 have hu:=jQ0 hr
 have nd:=sc_l_turn.nd
 exact (jJe (jKi (i:=3) nd (jVe jJd))
   (jJe (jQz PassesOwn.never rfl (jKc rfl T.n_range (jJa (jJb 1) jJd)) (jJp (i:=4) nd) (jJn (jVg (e_bm PySem.F.plainAttrs_list PySem.F.slot_list_insert PySem.F.type_list_insert m_insert (jJb 3) (jJa (jJ7 C_l_take (hr.mono (by decide)) (jJa (jJb 0) (jJa (e_op o_addF (jJb 4) jJq) jJd))) (jJa (jJb 4) jJd))))))
   (jJe (s_if (t_not (t_tru tru_any (jJb 2))) (jJn (jKl (jJ6 jK3 (by rfl) T.n_tuple rfl (jJa (jJb 3) jJd)))) jK8)
   (jJe (jKi (i:=5) nd (kKj rfl T.n_list rfl T.n_range rfl (jJa (jJb 1) jJd)))
   (jJe (jQz PassesOwn.never rfl (i_range3 rfl T.n_range (jJa jJq (jJa (e_op o_sub (jJb 1) jJq) (jJa jJq jJd)))) (jJp (i:=4) nd) (jJe (s_par (i:=6) (j:=7) rfl nd (by decide) (jJa (e_ix (ix_F hu) (jJb 3) (jJb 4) (fun _ _=>rfl)) (jJa (e_ix (ix_F hu) (jJb 3) (e_op o_addF (jJb 4) jJq) (fun _ _=>rfl)) jJd)))
   (jJe (jYg (jJb 7) (jYp (jJb 5) (jJb 6) (s_F hu)))
   (jJn (jYg (jJb 6) (jYp (jJb 5) (jJb 7) (s_F hu)))))))
   (jJn (jKl (jJ6 jK3 (by rfl) T.n_tuple rfl (jJa (jJb 5) jJd)))))))))
noncomputable abbrev jUp:Stmt:=top 26
theorem sc_l_covered:FnScope ["_law_box_here","_law_web_here","_law_many","_law_turn_here","_law_turns","_law_made","_law_one","_law_other"] ["_law_box_here","_law_web_here","_law_many"] (jJf jUp):=⟨rfl,rfl,rfl,by decide +kernel,rfl,by decide +kernel,by decide +kernel⟩
theorem ok_l_covered {P:Program} {w:World} {K:PySem.W.Frag} {mg:Str->Option Value} {base:Heap} {f:Addr} {fd:FuncData} (T:Txt mg) (F:Fun K "_law_covered" "_law_covered" jUp f fd) (C_l_ends:Cal P w K mg base 1 "_law_ends" ["_law_web_here"] jQa) (C_l_turn:Cal P w K mg base 2 "_law_turn" ["_law_box_here","_law_many","_law_own"] jK9) (C_l_sheeted:Cal P w K mg base 2 "_law_sheeted" ["_law_web_here","_law_turns","_law_many"] jKp) (C_l_reached:Cal P w K mg base 1 "_law_reached" ["_law_web_here","_law_room"] jKa)
  (h:∀xs G Q,jKq xs G Q->jVm {nx:=fun _ G'=>Q .non G',rt:=Q} (jJk ["_law_box_here","_law_web_here","_law_many","_law_turn_here","_law_turns","_law_made","_law_one","_law_other"] xs) G):Fn3 P w K mg base 3 f fd ["_law_box_here","_law_web_here","_law_many"] jKq:=by
 refine fn3 F sc_l_covered fun cdv A outer s H E hr=>⟨jVm,?_,h⟩
 have hu:=jQ0 hr
 have nd:=sc_l_covered.nd
 exact (jJe (jQz PassesOwn.never rfl (jKc rfl T.n_range (jJa jJq jJd)) (jJp (i:=3) nd) (jJe (s_comp (i:=4) (mask:=[false,false,false,false,false,false,true,true]) rfl nd ⟨rfl,rfl,rfl,rfl,rfl,rfl,rfl⟩ (jUr (jJ7 C_l_ends (hr.mono (by decide)) (jJa (jJb 1) jJd))) (jZ4 (jQu jJ3 jKn (jQu jJ3 jKn jZ5 jUz) (jXp jKn jUz))) (fun C fp s H=>(jVq rfl (jJv (jJp (i:=6) nd) (jJv (jJp (i:=7) nd) jQ1)))) (fun C fp s H=>jQc) (fun C fp s H=>(jJ7 C_l_turn (hr.mono (by decide)) (jJa (jJb 0) (jJa (jJb 2) (jJa (kU1 (kJc hr.units) (jJb 6) (jJb 7) (jJ2 _)) jJd))))))
   (jJe (jKi (i:=5) nd (jJ7 C_l_sheeted (hr.mono (by decide)) (jJa (jJb 1) (jJa (jJb 4) (jJa (jJb 2) jJd)))))
   (jJn (s_if (jUk (kJc hr.units) (jJt jQw (by rfl) T.n_len PySem.boot_len (jJa (jJ7 C_l_reached (hr.mono (by decide)) (jJa (jJb 5) (jJa jJq jJd))) jJd)) (jJt jQw (by rfl) T.n_len PySem.boot_len (jJa (jJb 5) jJd)) (jJ2 _)) (jJn (jKl (jJb 5))) jK8)))))
   (jJn (jKl (jJb 1))))
noncomputable abbrev jUq:Stmt:=top 27
theorem sc_l_any_web:FnScope ["_law_box_here","_law_way","_law_base"] ["_law_box_here"] (jJf jUq):=⟨rfl,rfl,rfl,by decide +kernel,rfl,by decide +kernel,by decide +kernel⟩
theorem ok_l_any_web {P:Program} {w:World} {K:PySem.W.Frag} {mg:Str->Option Value} {base:Heap} {f:Addr} {fd:FuncData} (T:Txt mg) (F:Fun K "_law_any_web" "_law_any_web" jUq f fd) (C_l_take:Cal P w K mg base 1 "_law_take" ["_law_box_here","_law_many"] jJs) (C_l_web:Cal P w K mg base 3 "_law_web" ["_law_box_here","_law_many","_law_most"] jQ2) (C_l_ring:Cal P w K mg base 1 "_law_ring" ["_law_many"] jQx) (C_l_covered:Cal P w K mg base 3 "_law_covered" ["_law_box_here","_law_web_here","_law_many"] jKq)
  (h:∀xs G Q,jKf xs G Q->jVn {nx:=fun _ G'=>Q .non G',rt:=Q} (jJk ["_law_box_here","_law_way","_law_base"] xs) G):Fn3 P w K mg base 4 f fd ["_law_box_here"] jKf:=by
 refine fn3 F sc_l_any_web fun cdv A outer s H E hr=>⟨jVn,?_,h⟩
 have hu:=jQ0 hr
 have nd:=sc_l_any_web.nd
 exact (jJe (jKi (i:=1) nd (jJ7 C_l_take (hr.mono (by decide)) (jJa (jJb 0) (jJa jJq jJd))))
   (jJe (s_if (jUk (kJc hr.units) (jJb 1) jJq (jJ2 _)) (jJn (jKl (jJ7 C_l_web (hr.mono (by decide)) (jJa (jJb 0) (jJa (e_op o_addF jJq (jJ7 C_l_take (hr.mono (by decide)) (jJa (jJb 0) (jJa jJq jJd)))) (jJa (e_op o_addF jJq (jJ7 C_l_take (hr.mono (by decide)) (jJa (jJb 0) (jJa jJq jJd)))) jJd)))))) jK8)
   (jJe (s_if (jUk o_lt (jJb 1) jJq (jJ2 _)) (jJn (jKl (jJ7 C_l_web (hr.mono (by decide)) (jJa (jJb 0) (jJa (e_op o_addF jJq (jJ7 C_l_take (hr.mono (by decide)) (jJa (jJb 0) (jJa jJq jJd)))) (jJa (e_op o_addF jJq (jJ7 C_l_take (hr.mono (by decide)) (jJa (jJb 0) (jJa jJq jJd)))) jJd)))))) jK8)
   (jJe (s_if (jUk (kJc hr.units) (jJb 1) jJq (jJ2 _)) (jJn (jKl (jJ7 C_l_ring (hr.mono (by decide)) (jJa (e_op o_addF jJq (jJ7 C_l_take (hr.mono (by decide)) (jJa (jJb 0) (jJa jJq jJd)))) jJd)))) jK8)
   (jJe (jKi (i:=2) nd (jJ7 C_l_web (hr.mono (by decide)) (jJa (jJb 0) (jJa (e_op o_addF jJq (jJ7 C_l_take (hr.mono (by decide)) (jJa (jJb 0) (jJa jJq jJd)))) (jJa (e_op o_addF jJq (jJ7 C_l_take (hr.mono (by decide)) (jJa (jJb 0) (jJa jJq jJd)))) jJd)))))
   (jJn (jKl (jJ7 C_l_covered (hr.mono (by decide)) (jJa (jJb 0) (jJa (jJb 2) (jJa (e_op o_addF jJq (jJ7 C_l_take (hr.mono (by decide)) (jJa (jJb 0) (jJa (e_op o_addF jJq (e_op jVb jJq (jJ6 c_int (by rfl) T.n_int rfl (jJa (kU1 o_lt (jJt jQw (by rfl) T.n_len PySem.boot_len (jJa (jJb 2) jJd)) jJq (jJ2 _)) jJd)))) jJd)))) jJd)))))))))))
noncomputable abbrev jUn:Stmt:=top 28
theorem sc_l_renamed:FnScope ["_law_box_here","_law_web_here","_law_numbers","_law_made","_law_room","_law_other","_law_door"] ["_law_box_here","_law_web_here"] (jJf jUn):=⟨rfl,rfl,rfl,by decide +kernel,rfl,by decide +kernel,by decide +kernel⟩
theorem ok_l_renamed {P:Program} {w:World} {K:PySem.W.Frag} {mg:Str->Option Value} {base:Heap} {f:Addr} {fd:FuncData} (T:Txt mg) (F:Fun K "_law_renamed" "_law_renamed" jUn f fd) (C_l_turn:Cal P w K mg base 2 "_law_turn" ["_law_box_here","_law_many","_law_own"] jK9)
  (h:∀xs G Q,jKe xs G Q->jVk {nx:=fun _ G'=>Q .non G',rt:=Q} (jJk ["_law_box_here","_law_web_here","_law_numbers","_law_made","_law_room","_law_other","_law_door"] xs) G):Fn3 P w K mg base 3 f fd ["_law_box_here","_law_web_here"] jKe:=by
 refine fn3 F sc_l_renamed fun cdv A outer s H E hr=>⟨jVk,?_,h⟩
 have hu:=jQ0 hr
 have nd:=sc_l_renamed.nd
 exact (jJe (jKi (i:=2) nd (jJ7 C_l_turn (hr.mono (by decide)) (jJa (jJb 0) (jJa (jJt jQw (by rfl) T.n_len PySem.boot_len (jJa (jJb 1) jJd)) (jJa e_bl jJd)))))
   (jJe (jKi (i:=3) nd (e_op jVb (jVe (jJa e_non jJd)) (jJt jQw (by rfl) T.n_len PySem.boot_len (jJa (jJb 1) jJd))))
   (jJe (jQz PassesOwn.never rfl (jKc rfl T.n_range (jJa (jJt jQw (by rfl) T.n_len PySem.boot_len (jJa (jJb 1) jJd)) jJd)) (jJp (i:=4) nd) (jJn (jYg (jJ6 jK3 (by rfl) T.n_tuple rfl (jJa (jQs (mask:=[false,false,false,false,false,true,true]) rfl ⟨rfl,rfl,rfl,rfl,rfl,rfl,rfl⟩ (jUr (e_ix (ix_F hu) (jJb 1) (jJb 4) (fun _ _=>rfl))) (jZ4 (jQu jJ3 jKn (jQu jJ3 jKn jZ5 jUz) (jXp jKn jUz))) (fun C fp s H=>(jVq rfl (jJv (jJp (i:=5) nd) (jJv (jJp (i:=6) nd) jQ1)))) (fun C fp s H=>jQc) (fun C fp s H=>(jUb (jJa (e_ix (ix_F hu) (jJb 2) (jJb 5) (fun _ _=>rfl)) (jJa (jJb 6) jJd))))) jJd)) (jYp (jJb 3) (e_ix (ix_F hu) (jJb 2) (jJb 4) (fun _ _=>rfl)) (s_F hu)))))
   (jJn (jKl (jUb (jJa (jJ6 jK3 (by rfl) T.n_tuple rfl (jJa (jJb 3) jJd)) (jJa (jJb 2) jJd))))))))
noncomputable abbrev jX3:Stmt:=top 29
theorem sc_l_from:FnScope ["_law_web_here","_law_room","_law_order","_law_spot","_law_other","_law_door"] ["_law_web_here","_law_room"] (jJf jX3):=⟨rfl,rfl,rfl,by decide +kernel,rfl,by decide +kernel,by decide +kernel⟩
theorem ok_l_from {P:Program} {w:World} {K:PySem.W.Frag} {mg:Str->Option Value} {base:Heap} {f:Addr} {fd:FuncData} (T:Txt mg) (F:Fun K "_law_from" "_law_from" jX3 f fd) (C_l_reached:Cal P w K mg base 1 "_law_reached" ["_law_web_here","_law_room"] jKa)
  (h:∀xs G Q,jQj xs G Q->jY0 {nx:=fun _ G'=>Q .non G',rt:=Q} (jJk ["_law_web_here","_law_room","_law_order","_law_spot","_law_other","_law_door"] xs) G):Fn3 P w K mg base 2 f fd ["_law_web_here","_law_room"] jQj:=by
 refine fn3 F sc_l_from fun cdv A outer s H E hr=>⟨jY0,?_,h⟩
 have hu:=jQ0 hr
 have nd:=sc_l_from.nd
 exact (jJe (jKi (i:=2) nd (jJ7 C_l_reached (hr.mono (by decide)) (jJa (jJb 0) (jJa (jJb 1) jJd))))
   (jJn (jKl (jJ6 jK3 (by rfl) T.n_tuple rfl (jJa (jQs (mask:=[false,false,false,true,false,false]) rfl ⟨rfl,rfl,rfl,rfl,rfl,rfl,rfl⟩ (jUr (jJb 2)) jJ3 (fun C fp s H=>(jJp (i:=3) nd)) (fun C fp s H=>jQc) (fun C fp s H=>(jJ6 jK3 (by rfl) T.n_tuple rfl (jJa (jQs (mask:=[false,false,false,false,true,true]) rfl ⟨rfl,rfl,rfl,rfl,rfl,rfl,rfl⟩ (jUr (e_ix (ix_F hu) (jJb 0) (jJb 3) (fun _ _=>rfl))) (jZ4 (jQu jJ3 jKn (jQu jJ3 jKn jZ5 jUz) (jXp jKn jUz))) (fun C fp s H=>(jVq rfl (jJv (jJp (i:=4) nd) (jJv (jJp (i:=5) nd) jQ1)))) (fun C fp s H=>jQc) (fun C fp s H=>(jUb (jJa (e_bm PySem.F.plainAttrs_list PySem.F.slot_list_index PySem.F.type_list_index m_index (jJb 2) (jJa (jJb 4) jJd)) (jJa (jJb 5) jJd))))) jJd)))) jJd)))))
noncomputable abbrev jVv:Stmt:=top 30
theorem sc_l_kinds:FnScope ["_law_web_here","_law_marks","_law_turn_here","_law_rows","_law_some","_law_doors","_law_room","_law_other","_law_door","_law_row"] ["_law_web_here"] (jJf jVv):=⟨rfl,rfl,rfl,by decide +kernel,rfl,by decide +kernel,by decide +kernel⟩
theorem ok_l_kinds {P:Program} {w:World} {K:PySem.W.Frag} {mg:Str->Option Value} {base:Heap} {f:Addr} {fd:FuncData} (T:Txt mg) (F:Fun K "_law_kinds" "_law_kinds" jVv f fd) 
  (h:∀xs G Q,jQe xs G Q->jX8 {nx:=fun _ G'=>Q .non G',rt:=Q} (jJk ["_law_web_here","_law_marks","_law_turn_here","_law_rows","_law_some","_law_doors","_law_room","_law_other","_law_door","_law_row"] xs) G):Fn3 P w K mg base 1 f fd ["_law_web_here"] jQe:=by
 refine fn3 F sc_l_kinds fun cdv A outer s H E hr=>⟨jX8,?_,h⟩
 have hu:=jQ0 hr
 have nd:=sc_l_kinds.nd
 exact (jJe (jKi (i:=1) nd (jQs (mask:=[false,false,false,false,false,true,false,false,false,false]) rfl ⟨rfl,rfl,rfl,rfl,rfl,rfl,rfl⟩ (jUr (jJb 0)) jJ3 (fun C fp s H=>(jJp (i:=5) nd)) (fun C fp s H=>jQc) (fun C fp s H=>(jJt jQw (by rfl) T.n_len PySem.boot_len (jJa (jJb 5) jJd)))))
   (jJe (jQz PassesOwn.never rfl (jKc rfl T.n_range (jJa (jJt jQw (by rfl) T.n_len PySem.boot_len (jJa (jJb 0) jJd)) jJd)) (jJp (i:=2) nd) (jJe (s_comp (i:=3) (mask:=[false,false,false,false,false,false,true,false,false,false]) rfl nd ⟨rfl,rfl,rfl,rfl,rfl,rfl,rfl⟩ (jKc rfl T.n_range (jJa (jJt jQw (by rfl) T.n_len PySem.boot_len (jJa (jJb 0) jJd)) jJd)) jJ3 (fun C fp s H=>(jJp (i:=6) nd)) (fun C fp s H=>jQc) (fun C fp s H=>(jUb (jJa (e_ix (ix_F hu) (jJb 1) (jJb 6) (fun _ _=>rfl)) (jJa (jJ6 jK3 (by rfl) T.n_tuple rfl (jJa (jQs (mask:=[false,false,false,false,false,false,false,true,true,false]) rfl ⟨rfl,rfl,rfl,rfl,rfl,rfl,rfl⟩ (jUr (e_ix (ix_F hu) (jJb 0) (jJb 6) (fun _ _=>rfl))) (jZ4 (jQu jJ3 jKn (jQu jJ3 jKn jZ5 jUz) (jXp jKn jUz))) (fun C fp s H=>(jVq rfl (jJv (jJp (i:=7) nd) (jJv (jJp (i:=8) nd) jQ1)))) (fun C fp s H=>jQc) (fun C fp s H=>(jUb (jJa (jJb 8) (jJa (e_ix (ix_F hu) (jJb 1) (jJb 7) (fun _ _=>rfl)) jJd))))) jJd)) jJd)))))
   (jJe (jKi (i:=4) nd (e_sset rfl hu (by rfl) T.n_sorted rfl (by rfl) T.n_set rfl (jJa (jJb 3) jJd)))
   (jJn (jKi (i:=1) nd (jQs (mask:=[false,false,false,false,false,false,false,false,false,true]) rfl ⟨rfl,rfl,rfl,rfl,rfl,rfl,rfl⟩ (jUr (jJb 3)) jJ3 (fun C fp s H=>(jJp (i:=9) nd)) (fun C fp s H=>jQc) (fun C fp s H=>(e_bm PySem.F.plainAttrs_list PySem.F.slot_list_index PySem.F.type_list_index (m_indexK hu) (jJb 4) (jJa (jJb 9) jJd)))))))))
   (jJn (jKl (jJb 1)))))
noncomputable abbrev jVw:Stmt:=top 31
theorem sc_l_folds:FnScope ["_law_web_here","_law_marks","_law_met","_law_mark"] ["_law_web_here"] (jJf jVw):=⟨rfl,rfl,rfl,by decide +kernel,rfl,by decide +kernel,by decide +kernel⟩
theorem ok_l_folds {P:Program} {w:World} {K:PySem.W.Frag} {mg:Str->Option Value} {base:Heap} {f:Addr} {fd:FuncData} (T:Txt mg) (F:Fun K "_law_folds" "_law_folds" jVw f fd) (C_l_kinds:Cal P w K mg base 1 "_law_kinds" ["_law_web_here"] jQe)
  (h:∀xs G Q,jKs xs G Q->jX9 {nx:=fun _ G'=>Q .non G',rt:=Q} (jJk ["_law_web_here","_law_marks","_law_met","_law_mark"] xs) G):Fn3 P w K mg base 2 f fd ["_law_web_here"] jKs:=by
 refine fn3 F sc_l_folds fun cdv A outer s H E hr=>⟨jX9,?_,h⟩
 have hu:=jQ0 hr
 have nd:=sc_l_folds.nd
 exact (jJe (jKi (i:=1) nd (jJ7 C_l_kinds (hr.mono (by decide)) (jJa (jJb 0) jJd)))
   (jJe (jKi (i:=2) nd (jVe jJd))
   (jJe (jQz PassesOwn.never rfl (jUr (jJb 1)) (jJp (i:=3) nd) (jJn (s_if (jUk (jY7 hu) (jJb 3) (jJb 2) (jJ2 _)) (jJn (jVg (e_bm PySem.F.plainAttrs_list PySem.F.slot_list_append PySem.F.type_list_append jQp (jJb 2) (jJa (jJb 3) jJd)))) jK8)))
   (jJn (jKl (jQs (mask:=[false,false,false,true]) rfl ⟨rfl,rfl,rfl,rfl,rfl,rfl,rfl⟩ (jUr (jJb 1)) jJ3 (fun C fp s H=>(jJp (i:=3) nd)) (fun C fp s H=>jQc) (fun C fp s H=>(e_bm PySem.F.plainAttrs_list PySem.F.slot_list_index PySem.F.type_list_index m_index (jJb 2) (jJa (jJb 3) jJd)))))))))
noncomputable abbrev jX4:Stmt:=top 32
theorem sc_l_fold:FnScope ["_law_web_here","_law_folds_here","_law_made","_law_number","_law_other","_law_door"] ["_law_web_here"] (jJf jX4):=⟨rfl,rfl,rfl,by decide +kernel,rfl,by decide +kernel,by decide +kernel⟩
theorem ok_l_fold {P:Program} {w:World} {K:PySem.W.Frag} {mg:Str->Option Value} {base:Heap} {f:Addr} {fd:FuncData} (T:Txt mg) (F:Fun K "_law_fold" "_law_fold" jX4 f fd) (C_l_folds:Cal P w K mg base 2 "_law_folds" ["_law_web_here"] jKs)
  (h:∀xs G Q,jQk xs G Q->jY1 {nx:=fun _ G'=>Q .non G',rt:=Q} (jJk ["_law_web_here","_law_folds_here","_law_made","_law_number","_law_other","_law_door"] xs) G):Fn3 P w K mg base 3 f fd ["_law_web_here"] jQk:=by
 refine fn3 F sc_l_fold fun cdv A outer s H E hr=>⟨jY1,?_,h⟩
 have hu:=jQ0 hr
 have nd:=sc_l_fold.nd
 exact (jJe (jKi (i:=1) nd (jJ7 C_l_folds (hr.mono (by decide)) (jJa (jJb 0) jJd)))
   (jJe (jKi (i:=2) nd (jVe jJd))
   (jJe (jQz PassesOwn.never rfl (jKc rfl T.n_range (jJa (e_op o_addF (jJt (c_maxL rfl) (by rfl) T.n_max rfl (jJa (jJb 1) jJd)) jJq) jJd)) (jJp (i:=3) nd) (jJn (jVg (e_bm PySem.F.plainAttrs_list PySem.F.slot_list_append PySem.F.type_list_append jQp (jJb 2) (jJa (jJ6 jK3 (by rfl) T.n_tuple rfl (jJa (jQs (mask:=[false,false,false,false,true,true]) rfl ⟨rfl,rfl,rfl,rfl,rfl,rfl,rfl⟩ (jUr (e_ix (ix_F hu) (jJb 0) (e_bm PySem.F.plainAttrs_list PySem.F.slot_list_index PySem.F.type_list_index m_index (jJb 1) (jJa (jJb 3) jJd)) (fun _ _=>rfl))) (jZ4 (jQu jJ3 jKn (jQu jJ3 jKn jZ5 jUz) (jXp jKn jUz))) (fun C fp s H=>(jVq rfl (jJv (jJp (i:=4) nd) (jJv (jJp (i:=5) nd) jQ1)))) (fun C fp s H=>jQc) (fun C fp s H=>(jUb (jJa (e_ix (ix_F hu) (jJb 1) (jJb 4) (fun _ _=>rfl)) (jJa (jJb 5) jJd))))) jJd)) jJd)))))
   (jJn (jKl (jJ6 jK3 (by rfl) T.n_tuple rfl (jJa (jJb 2) jJd)))))))
noncomputable abbrev jX0:Stmt:=top 33
theorem sc_l_same:FnScope ["_law_found","_law_due","_law_one","_law_other"] ["_law_found","_law_due"] (jJf jX0):=⟨rfl,rfl,rfl,by decide +kernel,rfl,by decide +kernel,by decide +kernel⟩
theorem jY6 {P:Program} {w:World} {K:PySem.W.Frag} {mg:Str->Option Value} {base:Heap} {f:Addr} {fd:FuncData} {k:Nat} {sp sp':Sp3} (T:Txt mg) (F:Fun K "_law_same" "_law_same" jX0 f fd) (C_l_same:Cal P w K mg base k "_law_same" ["_law_found","_law_due"] sp)
  (h:∀xs G Q,sp' xs G Q->jVy sp {nx:=fun _ G'=>Q .non G',rt:=Q} (jJk ["_law_found","_law_due","_law_one","_law_other"] xs) G):Fn3 P w K mg base (k+1) f fd ["_law_found","_law_due"] sp':=by
 refine fn3 F sc_l_same fun cdv A outer s H E hr=>⟨jVy sp,?_,h⟩
 have hu:=jQ0 hr
 have nd:=sc_l_same.nd
 exact (jJe (s_if (t_val (jJt c_isi (by rfl) T.n_isinstance rfl (jJa (jJb 1) (jJa (e_ty rfl T.n_list rfl) jJd)))) (jJe (s_if (PW3.pt (w_or (t_not (t_val (jJt c_isi (by rfl) T.n_isinstance rfl (jJa (jJb 0) (jJa (e_ty rfl T.n_list rfl) jJd))))) (w_or1 (jUk (o_neA hr.units) (jJt jQw (by rfl) T.n_len PySem.boot_len (jJa (jJb 0) jJd)) (jJt jQw (by rfl) T.n_len PySem.boot_len (jJa (jJb 1) jJd)) (jJ2 _))))) (jJn (jKl e_bl)) jK8)
   (jJn (jKl (jJt (c_all rfl) (by rfl) T.n_all rfl (jJa (jQs (mask:=[false,false,true,true]) rfl ⟨rfl,rfl,rfl,rfl,rfl,rfl,rfl⟩ (i_zip rfl T.n_zip rfl (jJa (jJb 0) (jJa (jJb 1) jJd))) (jZ4 (jQu jJ3 jKn (jQu jJ3 jKn jZ5 jUz) (jXp jKn jUz))) (fun C fp s H=>(jVq rfl (jJv (jJp (i:=2) nd) (jJv (jJp (i:=3) nd) jQ1)))) (fun C fp s H=>jQc) (fun C fp s H=>(jJ7 C_l_same hr (jJa (jJb 2) (jJa (jJb 3) jJd))))) jJd))))) jK8)
   (jJe (s_if (t_val (jJt c_isi (by rfl) T.n_isinstance rfl (jJa (jJb 1) (jJa (e_ty rfl T.n_tuple rfl) jJd)))) (jJe (s_if (PW3.pt (w_or (t_not (t_val (jJt c_isi (by rfl) T.n_isinstance rfl (jJa (jJb 0) (jJa (e_ty rfl T.n_tuple rfl) jJd))))) (w_or1 (jUk (o_neA hr.units) (jJt jQw (by rfl) T.n_len PySem.boot_len (jJa (jJb 0) jJd)) (jJt jQw (by rfl) T.n_len PySem.boot_len (jJa (jJb 1) jJd)) (jJ2 _))))) (jJn (jKl e_bl)) jK8)
   (jJn (jKl (jJt (c_all rfl) (by rfl) T.n_all rfl (jJa (jQs (mask:=[false,false,true,true]) rfl ⟨rfl,rfl,rfl,rfl,rfl,rfl,rfl⟩ (i_zip rfl T.n_zip rfl (jJa (jJb 0) (jJa (jJb 1) jJd))) (jZ4 (jQu jJ3 jKn (jQu jJ3 jKn jZ5 jUz) (jXp jKn jUz))) (fun C fp s H=>(jVq rfl (jJv (jJp (i:=2) nd) (jJv (jJp (i:=3) nd) jQ1)))) (fun C fp s H=>jQc) (fun C fp s H=>(jJ7 C_l_same hr (jJa (jJb 2) (jJa (jJb 3) jJd))))) jJd))))) jK8)
   (jJe (s_if (jUk o_isN (jJb 1) e_non (jJ2 _)) (jJn (jKl (kU1 o_isN (jJb 0) e_non (jJ2 _)))) jK8)
   (jJe (s_if (t_val (jJt c_isi (by rfl) T.n_isinstance rfl (jJa (jJb 1) (jJa (e_ty rfl T.n_str rfl) jJd)))) (jJn (jKl (e_and (jJt c_isi (by rfl) T.n_isinstance rfl (jJa (jJb 0) (jJa (e_ty rfl T.n_str rfl) jJd))) (e_one (kU1 (kJc hr.units) (jJb 0) (jJb 1) (jJ2 _)))))) jK8)
   (jJn (jKl (e_and (jJt c_isi (by rfl) T.n_isinstance rfl (jJa (jJb 0) (jJa (e_ty rfl T.n_int rfl) jJd))) (e_and (e_not (jJt c_isi (by rfl) T.n_isinstance rfl (jJa (jJb 0) (jJa (e_ty rfl T.n_bool rfl) jJd)))) (e_one (kU1 (kJc hr.units) (jJb 0) (jJb 1) (jJ2 _)))))))))))
noncomputable abbrev jX2:Stmt:=top 34
theorem sc_l_line:FnScope ["_law_many","_law_made","_law_room","_law_back","_law_on"] ["_law_many"] (jJf jX2):=⟨rfl,rfl,rfl,by decide +kernel,rfl,by decide +kernel,by decide +kernel⟩
theorem ok_l_line {P:Program} {w:World} {K:PySem.W.Frag} {mg:Str->Option Value} {base:Heap} {f:Addr} {fd:FuncData} (T:Txt mg) (F:Fun K "_law_line" "_law_line" jX2 f fd) 
  (h:∀xs G Q,jQi xs G Q->jYz {nx:=fun _ G'=>Q .non G',rt:=Q} (jJk ["_law_many","_law_made","_law_room","_law_back","_law_on"] xs) G):Fn3 P w K mg base 1 f fd ["_law_many"] jQi:=by
 refine fn3 F sc_l_line fun cdv A outer s H E hr=>⟨jYz,?_,h⟩
 have hu:=jQ0 hr
 have nd:=sc_l_line.nd
 exact (jJe (jKi (i:=1) nd (jVe jJd))
   (jJe (jQz PassesOwn.never rfl (jKc rfl T.n_range (jJa (jJb 0) jJd)) (jJp (i:=2) nd) (jJe (jKi (i:=3) nd (e_ifExp (jUk o_gt (jJb 2) jJq (jJ2 _)) (jUb (jJa (e_op o_sub (jJb 2) jJq) (jJa jJq jJd))) (jUb (jJa jJq (jJa jJq jJd)))))
   (jJe (jKi (i:=4) nd (e_ifExp (jUk o_lt (jJb 2) (e_op o_sub (jJb 0) jJq) (jJ2 _)) (jUb (jJa (e_op o_addF (jJb 2) jJq) (jJa jJq jJd))) (jUb (jJa (jJb 2) (jJa jJq jJd)))))
   (jJn (jVg (e_bm PySem.F.plainAttrs_list PySem.F.slot_list_append PySem.F.type_list_append jQp (jJb 1) (jJa (jUb (jJa (jJb 3) (jJa (jJb 4) jJd))) jJd)))))))
   (jJn (jKl (jJ6 jK3 (by rfl) T.n_tuple rfl (jJa (jJb 1) jJd))))))
noncomputable abbrev jVu:Stmt:=top 35
theorem sc_l_right:FnScope ["_law_box_here","_law_web_here","_law_folds_here","_law_small","_law_other","_law_numbers","_law_told","_law_room","_law_one","_law_same_here"] ["_law_box_here"] (jJf jVu):=⟨rfl,rfl,rfl,by decide +kernel,rfl,by decide +kernel,by decide +kernel⟩
theorem ok_l_right {P:Program} {w:World} {K:PySem.W.Frag} {mg:Str->Option Value} {base:Heap} {f:Addr} {fd:FuncData} (T:Txt mg) (F:Fun K "_law_right" "_law_right" jVu f fd) (C_l_any_web:Cal P w K mg base 4 "_law_any_web" ["_law_box_here"] jKf) (C_l_take:Cal P w K mg base 1 "_law_take" ["_law_box_here","_law_many"] jJs) (C_l_line:Cal P w K mg base 1 "_law_line" ["_law_many"] jQi) (C_l_folds:Cal P w K mg base 2 "_law_folds" ["_law_web_here"] jKs) (C_l_fold:Cal P w K mg base 3 "_law_fold" ["_law_web_here"] jQk) (C_l_renamed:Cal P w K mg base 3 "_law_renamed" ["_law_box_here","_law_web_here"] jKe) (C_can_be_learnt:Cal P w K mg base 6 "can_be_learnt" ["web","room"] jJr) (C_l_same:Cal P w K mg base 4 "_law_same" ["_law_found","_law_due"] jVs) (C_l_from:Cal P w K mg base 2 "_law_from" ["_law_web_here","_law_room"] jQj)
  (h:∀xs G Q,jQd xs G Q->jX7 {nx:=fun _ G'=>Q .non G',rt:=Q} (jJk ["_law_box_here","_law_web_here","_law_folds_here","_law_small","_law_other","_law_numbers","_law_told","_law_room","_law_one","_law_same_here"] xs) G):Fn3 P w K mg base 7 f fd ["_law_box_here"] jQd:=by
 refine fn3 F sc_l_right fun cdv A outer s H E hr=>⟨jX7,?_,h⟩
 have hu:=jQ0 hr
 have nd:=sc_l_right.nd
 exact (jJe (jKi (i:=1) nd (jJ7 C_l_any_web (hr.mono (by decide)) (jJa (jJb 0) jJd)))
   (jJe (s_if (jUk (kJc hr.units) (jJ7 C_l_take (hr.mono (by decide)) (jJa (jJb 0) (jJa jJq jJd))) jJq (jJ2 _)) (jJn (jKi (i:=1) nd (jJ7 C_l_line (hr.mono (by decide)) (jJa (e_op o_addF jJq (jJ7 C_l_take (hr.mono (by decide)) (jJa (jJb 0) (jJa jJq jJd)))) jJd)))) jK8)
   (jJe (jKi (i:=2) nd (jJ7 C_l_folds (hr.mono (by decide)) (jJa (jJb 1) jJd)))
   (jJe (jKi (i:=3) nd (jJ7 C_l_fold (hr.mono (by decide)) (jJa (jJb 1) jJd)))
   (jJe (jYg (jJ7 C_l_renamed (hr.mono (by decide)) (jJa (jJb 0) (jJa (jJb 1) jJd))) (jVq rfl (jJv (jJp (i:=4) nd) (jJv (jJp (i:=5) nd) jQ1))))
   (jJe (jKi (i:=6) nd (jVe jJd))
   (jJe (jQz PassesOwn.never rfl (jKc rfl T.n_range (jJa (jJt jQw (by rfl) T.n_len PySem.boot_len (jJa (jJb 1) jJd)) jJd)) (jJp (i:=7) nd) (jJe (jVg (e_bm PySem.F.plainAttrs_list PySem.F.slot_list_append PySem.F.type_list_append jQp (jJb 6) (jJa (jJ7 C_can_be_learnt (hr.mono (by decide)) (jJa (jJb 1) (jJa (jJb 7) jJd))) jJd)))
   (jJe (s_if (t_not (t_val (jJ7 C_l_same (hr.mono (by decide)) (jJa (e_ix (ix_F hu) (jJb 6) (jJb 7) (fun _ _=>rfl)) (jJa (jJ7 C_l_from (hr.mono (by decide)) (jJa (jJb 3) (jJa (e_ix (ix_F hu) (jJb 2) (jJb 7) (fun _ _=>rfl)) jJd))) jJd))))) (jJn (jKl e_bl)) jK8)
   (jJe (s_if (PW3.pt (w_and (jUk o_lt (jJb 7) jJq (jJ2 _)) (w_and1 (jUk (o_neA hr.units) (jJ7 C_can_be_learnt (hr.mono (by decide)) (jJa (jJb 4) (jJa (e_ix (ix_F hu) (jJb 5) (jJb 7) (fun _ _=>rfl)) jJd))) (e_ix (ix_F hu) (jJb 6) (jJb 7) (fun _ _=>rfl)) (jJ2 _))))) (jJn (jKl e_bl)) jK8)
   (jJn (s_if (PW3.pt (w_and (jUk o_lt (jJb 7) jJq (jJ2 _)) (w_and1 (jUk (o_neA hr.units) (jJ7 C_can_be_learnt (hr.mono (by decide)) (jJa (jJb 1) (jJa (jJb 7) jJd))) (e_ix (ix_F hu) (jJb 6) (jJb 7) (fun _ _=>rfl)) (jJ2 _))))) (jJn (jKl e_bl)) jK8))))))
   (jJe (jQz PassesOwn.never rfl (jKc rfl T.n_range (jJa (jJt jQw (by rfl) T.n_len PySem.boot_len (jJa (jJb 1) jJd)) jJd)) (jJp (i:=8) nd) (jJn (jQz PassesOwn.never rfl (jKc rfl T.n_range (jJa (jJb 8) jJd)) (jJp (i:=7) nd) (jJe (jKi (i:=9) nd (kU1 (kJc hr.units) (e_ix (ix_F hu) (jJb 6) (jJb 8) (fun _ _=>rfl)) (e_ix (ix_F hu) (jJb 6) (jJb 7) (fun _ _=>rfl)) (jJ2 _)))
   (jJn (s_if (jUk (o_neA hr.units) (jJb 9) (kU1 (kJc hr.units) (e_ix (ix_F hu) (jJb 2) (jJb 8) (fun _ _=>rfl)) (e_ix (ix_F hu) (jJb 2) (jJb 7) (fun _ _=>rfl)) (jJ2 _)) (jJ2 _)) (jJn (jKl e_bl)) jK8))))))
   (jJn (jKl e_bl))))))))))
noncomputable abbrev kQ9:Stmt:=top 36
theorem sc_law:FnScope ["_law_script","_law_k"] ["_law_script"] (jJf kQ9):=⟨rfl,rfl,rfl,by decide +kernel,rfl,by decide +kernel,by decide +kernel⟩
theorem ok_law {P:Program} {w:World} {K:PySem.W.Frag} {mg:Str->Option Value} {base:Heap} {f:Addr} {fd:FuncData} (T:Txt mg) (F:Fun K "law" "law" kQ9 f fd) (C_l_right:Cal P w K mg base 7 "_law_right" ["_law_box_here"] jQd) (C_l_box:Cal P w K mg base 1 "_law_box" ["_law_script","_law_k"] jUt)
  (h:∀xs G Q,sp_law xs G Q->rd_law {nx:=fun _ G'=>Q .non G',rt:=Q} (jJk ["_law_script","_law_k"] xs) G):Fn3 P w K mg base 8 f fd ["_law_script"] sp_law:=by
 refine fn3 F sc_law fun cdv A outer s H E hr=>⟨rd_law,?_,h⟩
 have hu:=jQ0 hr
 have nd:=sc_law.nd
 exact (jJn (jKl (jJt (c_all rfl) (by rfl) T.n_all rfl (jJa (jQs (mask:=[false,true]) rfl ⟨rfl,rfl,rfl,rfl,rfl,rfl,rfl⟩ (jKc rfl T.n_range (jJa (e_op o_addF jJq (jJt (c_min2 rfl) (by rfl) T.n_min rfl (jJa jJq (jJa (jJt jQw (by rfl) T.n_len PySem.boot_len (jJa (jJb 0) jJd)) jJd)))) jJd)) jJ3 (fun C fp s H=>(jJp (i:=1) nd)) (fun C fp s H=>jQc) (fun C fp s H=>(jJ7 C_l_right (hr.mono (by decide)) (jJa (jJ7 C_l_box (hr.mono (by decide)) (jJa (jJb 0) (jJa (jJb 1) jJd))) jJd)))) jJd))))
end W
namespace W
open PySem PySem.Spec PyProof.Rows L2 L3
theorem fn_false {P:Program} {w:World} {K:PySem.W.Frag} {mg:Str->Option Value} {base:Heap} {k:Nat} {f:Addr} {fd:FuncData} {ps:List Str}:Fn3 P w K mg base k f fd ps (fun _ _ _=>False):=by
 refine⟨fun vs H Q E h=>h.1,?_⟩
 intros
 rename_i h
 exact absurd h (by rintro⟨_,_,_,_,_,h⟩;exact h)
theorem ln1 {α:Type} {us:List α} {C:List α->Prop} (h:us.length=1) (k:∀a0,C [a0]):C us:=by
 obtain⟨a0,us,rfl⟩:=lQx h
 replace h:=Nat.succ.inj h
 cases lQq.mp h
 exact k a0
theorem ln2 {α:Type} {us:List α} {C:List α->Prop} (h:us.length=2) (k:∀a0 a1,C [a0,a1]):C us:=by
 obtain⟨a0,us,rfl⟩:=lQx h
 replace h:=Nat.succ.inj h
 obtain⟨a1,us,rfl⟩:=lQx h
 replace h:=Nat.succ.inj h
 cases lQq.mp h
 exact k a0 a1
theorem ln3 {α:Type} {us:List α} {C:List α->Prop} (h:us.length=3) (k:∀a0 a1 a2,C [a0,a1,a2]):C us:=by
 obtain⟨a0,us,rfl⟩:=lQx h
 replace h:=Nat.succ.inj h
 obtain⟨a1,us,rfl⟩:=lQx h
 replace h:=Nat.succ.inj h
 obtain⟨a2,us,rfl⟩:=lQx h
 replace h:=Nat.succ.inj h
 cases lQq.mp h
 exact k a0 a1 a2
theorem kUl:Mono jKu:=by
 unfold jKu;(intro xs G Q Q' hq;(repeat' (first | (refine Exists.imp fun _=> ?_) | (refine And.imp_right ?_)));intro k;intros;apply hq;apply k<;>assumption)
theorem len_numbered:∀xs G Q,jKu xs G Q->xs.length=(["looks"]:List Str).length:=by
 intro xs G Q h;unfold jKu at h;repeat (first | exact (congrArg List.length h.1).trans rfl | obtain⟨_,h⟩:=h)
theorem jZt:Mono jJz:=by
 unfold jJz;(intro xs G Q Q' hq;(repeat' (first | (refine Exists.imp fun _=> ?_) | (refine And.imp_right ?_)));intro k;intros;apply hq;apply k<;>assumption)
theorem kJe:∀xs G Q,jJz xs G Q->xs.length=(["web","steps"]:List Str).length:=by
 intro xs G Q h;unfold jJz at h;repeat (first | exact (congrArg List.length h.1).trans rfl | obtain⟨_,h⟩:=h)
theorem kUn:Mono jK2:=by
 unfold jK2;(intro xs G Q Q' hq;(repeat' (first | (refine Exists.imp fun _=> ?_) | (refine And.imp_right ?_)));intro k;intros;apply hq;apply k<;>assumption)
theorem len_kinds_by:∀xs G Q,jK2 xs G Q->xs.length=(["web","steps"]:List Str).length:=by
 intro xs G Q h;unfold jK2 at h;repeat (first | exact (congrArg List.length h.1).trans rfl | obtain⟨_,h⟩:=h)
theorem mono_kinds:Mono jUu:=by
 unfold jUu;(intro xs G Q Q' hq;(repeat' (first | (refine Exists.imp fun _=> ?_) | (refine And.imp_right ?_)));intro k;intros;apply hq;apply k<;>assumption)
theorem len_kinds:∀xs G Q,jUu xs G Q->xs.length=(["web"]:List Str).length:=by
 intro xs G Q h;unfold jUu at h;repeat (first | exact (congrArg List.length h.1).trans rfl | obtain⟨_,h⟩:=h)
theorem jY8:Mono jJ4:=by
 unfold jJ4;(intro xs G Q Q' hq;(repeat' (first | (refine Exists.imp fun _=> ?_) | (refine And.imp_right ?_)));intro k;intros;apply hq;apply k<;>assumption)
theorem jZv:∀xs G Q,jJ4 xs G Q->xs.length=(["web","room"]:List Str).length:=by
 intro xs G Q h;unfold jJ4 at h;repeat (first | exact (congrArg List.length h.1).trans rfl | obtain⟨_,h⟩:=h)
theorem mono_ends_by:Mono jKz:=by
 unfold jKz;(intro xs G Q Q' hq;(repeat' (first | (refine Exists.imp fun _=> ?_) | (refine And.imp_right ?_)));intro k;intros;apply hq;apply k<;>assumption)
theorem len_ends_by:∀xs G Q,jKz xs G Q->xs.length=(["ends","numbers"]:List Str).length:=by
 intro xs G Q h;unfold jKz at h;repeat (first | exact (congrArg List.length h.1).trans rfl | obtain⟨_,h⟩:=h)
theorem kJ8:Mono jKb:=by
 unfold jKb;(intro xs G Q Q' hq;(repeat' (first | (refine Exists.imp fun _=> ?_) | (refine And.imp_right ?_)));intro k;intros;apply hq;apply k<;>assumption)
theorem kQc:∀xs G Q,jKb xs G Q->xs.length=(["web","numbers"]:List Str).length:=by
 intro xs G Q h;unfold jKb at h;repeat (first | exact (congrArg List.length h.1).trans rfl | obtain⟨_,h⟩:=h)
theorem kK4:Mono jKo:=by
 unfold jKo;(intro xs G Q Q' hq;(repeat' (first | (refine Exists.imp fun _=> ?_) | (refine And.imp_right ?_)));intro k;intros;apply hq;apply k<;>assumption)
theorem kUq:∀xs G Q,jKo xs G Q->xs.length=(["web","room"]:List Str).length:=by
 intro xs G Q h;unfold jKo at h;repeat (first | exact (congrArg List.length h.1).trans rfl | obtain⟨_,h⟩:=h)
theorem kUo:Mono jKh:=by
 unfold jKh;(intro xs G Q Q' hq;(repeat' (first | (refine Exists.imp fun _=> ?_) | (refine And.imp_right ?_)));intro k;intros;apply hq;apply k<;>assumption)
theorem len_folds_by:∀xs G Q,jKh xs G Q->xs.length=(["web"]:List Str).length:=by
 intro xs G Q h;unfold jKh at h;repeat (first | exact (congrArg List.length h.1).trans rfl | obtain⟨_,h⟩:=h)
theorem mono_folded:Mono jQy:=by
 unfold jQy;(intro xs G Q Q' hq;(repeat' (first | (refine Exists.imp fun _=> ?_) | (refine And.imp_right ?_)));intro k;intros;apply hq;apply k<;>assumption)
theorem len_folded:∀xs G Q,jQy xs G Q->xs.length=(["web"]:List Str).length:=by
 intro xs G Q h;unfold jQy at h;repeat (first | exact (congrArg List.length h.1).trans rfl | obtain⟨_,h⟩:=h)
theorem jY9:Mono jJr:=by
 unfold jJr;(intro xs G Q Q' hq;(repeat' (first | (refine Exists.imp fun _=> ?_) | (refine And.imp_right ?_)));intro k;intros;apply hq;apply k<;>assumption)
theorem jZw:∀xs G Q,jJr xs G Q->xs.length=(["web","room"]:List Str).length:=by
 intro xs G Q h;unfold jJr at h;repeat (first | exact (congrArg List.length h.1).trans rfl | obtain⟨_,h⟩:=h)
theorem mono_l_box:Mono jUt:=by
 unfold jUt;(intro xs G Q Q' hq;(repeat' (first | (refine Exists.imp fun _=> ?_) | (refine And.imp_right ?_)));intro k;intros;apply hq;apply k<;>assumption)
theorem len_l_box:∀xs G Q,jUt xs G Q->xs.length=(["_law_script","_law_k"]:List Str).length:=by
 intro xs G Q h;unfold jUt at h;repeat (first | exact (congrArg List.length h.1).trans rfl | obtain⟨_,h⟩:=h)
theorem mono_l_take:Mono jJs:=by
 unfold jJs;(intro xs G Q Q' hq;(repeat' (first | (refine Exists.imp fun _=> ?_) | (refine And.imp_right ?_)));intro k;intros;apply hq;apply k<;>assumption)
theorem len_l_take:∀xs G Q,jJs xs G Q->xs.length=(["_law_box_here","_law_many"]:List Str).length:=by
 intro xs G Q h;unfold jJs at h;repeat (first | exact (congrArg List.length h.1).trans rfl | obtain⟨_,h⟩:=h)
theorem kUm:Mono jK1:=by
 unfold jK1;(intro xs G Q Q' hq;(repeat' (first | (refine Exists.imp fun _=> ?_) | (refine And.imp_right ?_)));intro k;intros;apply hq;apply k<;>assumption)
theorem len_l_joined:∀xs G Q,jK1 xs G Q->xs.length=(["_law_halves"]:List Str).length:=by
 intro xs G Q h;unfold jK1 at h;repeat (first | exact (congrArg List.length h.1).trans rfl | obtain⟨_,h⟩:=h)
theorem kJd:Mono jJ8:=by
 unfold jJ8;(intro xs G Q Q' hq;(repeat' (first | (refine Exists.imp fun _=> ?_) | (refine And.imp_right ?_)));intro k;intros;apply hq;apply k<;>assumption)
theorem kKb:∀xs G Q,jJ8 xs G Q->xs.length=(["_law_box_here","_law_pairs","_law_many"]:List Str).length:=by
 intro xs G Q h;unfold jJ8 at h;repeat (first | exact (congrArg List.length h.1).trans rfl | obtain⟨_,h⟩:=h)
theorem mono_l_web:Mono jQ2:=by
 unfold jQ2;(intro xs G Q Q' hq;(repeat' (first | (refine Exists.imp fun _=> ?_) | (refine And.imp_right ?_)));intro k;intros;apply hq;apply k<;>assumption)
theorem len_l_web:∀xs G Q,jQ2 xs G Q->xs.length=(["_law_box_here","_law_many","_law_most"]:List Str).length:=by
 intro xs G Q h;unfold jQ2 at h;repeat (first | exact (congrArg List.length h.1).trans rfl | obtain⟨_,h⟩:=h)
theorem mono_l_ring:Mono jQx:=by
 unfold jQx;(intro xs G Q Q' hq;(repeat' (first | (refine Exists.imp fun _=> ?_) | (refine And.imp_right ?_)));intro k;intros;apply hq;apply k<;>assumption)
theorem len_l_ring:∀xs G Q,jQx xs G Q->xs.length=(["_law_many"]:List Str).length:=by
 intro xs G Q h;unfold jQx at h;repeat (first | exact (congrArg List.length h.1).trans rfl | obtain⟨_,h⟩:=h)
theorem mono_l_ends:Mono jQa:=by
 unfold jQa;(intro xs G Q Q' hq;(repeat' (first | (refine Exists.imp fun _=> ?_) | (refine And.imp_right ?_)));intro k;intros;apply hq;apply k<;>assumption)
theorem len_l_ends:∀xs G Q,jQa xs G Q->xs.length=(["_law_web_here"]:List Str).length:=by
 intro xs G Q h;unfold jQa at h;repeat (first | exact (congrArg List.length h.1).trans rfl | obtain⟨_,h⟩:=h)
theorem kK7:Mono jKa:=by
 unfold jKa;(intro xs G Q Q' hq;(repeat' (first | (refine Exists.imp fun _=> ?_) | (refine And.imp_right ?_)));intro k;intros;apply hq;apply k<;>assumption)
theorem kUt:∀xs G Q,jKa xs G Q->xs.length=(["_law_web_here","_law_room"]:List Str).length:=by
 intro xs G Q h;unfold jKa at h;repeat (first | exact (congrArg List.length h.1).trans rfl | obtain⟨_,h⟩:=h)
theorem kK5:Mono jKp:=by
 unfold jKp;(intro xs G Q Q' hq;(repeat' (first | (refine Exists.imp fun _=> ?_) | (refine And.imp_right ?_)));intro k;intros;apply hq;apply k<;>assumption)
theorem kUr:∀xs G Q,jKp xs G Q->xs.length=(["_law_web_here","_law_turns","_law_many"]:List Str).length:=by
 intro xs G Q h;unfold jKp at h;repeat (first | exact (congrArg List.length h.1).trans rfl | obtain⟨_,h⟩:=h)
theorem mono_l_turn:Mono jK9:=by
 unfold jK9;(intro xs G Q Q' hq;(repeat' (first | (refine Exists.imp fun _=> ?_) | (refine And.imp_right ?_)));intro k;intros;apply hq;apply k<;>assumption)
theorem len_l_turn:∀xs G Q,jK9 xs G Q->xs.length=(["_law_box_here","_law_many","_law_own"]:List Str).length:=by
 intro xs G Q h;unfold jK9 at h;repeat (first | exact (congrArg List.length h.1).trans rfl | obtain⟨_,h⟩:=h)
theorem kK8:Mono jKq:=by
 unfold jKq;(intro xs G Q Q' hq;(repeat' (first | (refine Exists.imp fun _=> ?_) | (refine And.imp_right ?_)));intro k;intros;apply hq;apply k<;>assumption)
theorem kUu:∀xs G Q,jKq xs G Q->xs.length=(["_law_box_here","_law_web_here","_law_many"]:List Str).length:=by
 intro xs G Q h;unfold jKq at h;repeat (first | exact (congrArg List.length h.1).trans rfl | obtain⟨_,h⟩:=h)
theorem kK9:Mono jKf:=by
 unfold jKf;(intro xs G Q Q' hq;(repeat' (first | (refine Exists.imp fun _=> ?_) | (refine And.imp_right ?_)));intro k;intros;apply hq;apply k<;>assumption)
theorem kUv:∀xs G Q,jKf xs G Q->xs.length=(["_law_box_here"]:List Str).length:=by
 intro xs G Q h;unfold jKf at h;repeat (first | exact (congrArg List.length h.1).trans rfl | obtain⟨_,h⟩:=h)
theorem kK6:Mono jKe:=by
 unfold jKe;(intro xs G Q Q' hq;(repeat' (first | (refine Exists.imp fun _=> ?_) | (refine And.imp_right ?_)));intro k;intros;apply hq;apply k<;>assumption)
theorem kUs:∀xs G Q,jKe xs G Q->xs.length=(["_law_box_here","_law_web_here"]:List Str).length:=by
 intro xs G Q h;unfold jKe at h;repeat (first | exact (congrArg List.length h.1).trans rfl | obtain⟨_,h⟩:=h)
theorem mono_l_from:Mono jQj:=by
 unfold jQj;(intro xs G Q Q' hq;(repeat' (first | (refine Exists.imp fun _=> ?_) | (refine And.imp_right ?_)));intro k;intros;apply hq;apply k<;>assumption)
theorem len_l_from:∀xs G Q,jQj xs G Q->xs.length=(["_law_web_here","_law_room"]:List Str).length:=by
 intro xs G Q h;unfold jQj at h;repeat (first | exact (congrArg List.length h.1).trans rfl | obtain⟨_,h⟩:=h)
theorem mono_l_kinds:Mono jQe:=by
 unfold jQe;(intro xs G Q Q' hq;(repeat' (first | (refine Exists.imp fun _=> ?_) | (refine And.imp_right ?_)));intro k;intros;apply hq;apply k<;>assumption)
theorem len_l_kinds:∀xs G Q,jQe xs G Q->xs.length=(["_law_web_here"]:List Str).length:=by
 intro xs G Q h;unfold jQe at h;repeat (first | exact (congrArg List.length h.1).trans rfl | obtain⟨_,h⟩:=h)
theorem mono_l_folds:Mono jKs:=by
 unfold jKs;(intro xs G Q Q' hq;(repeat' (first | (refine Exists.imp fun _=> ?_) | (refine And.imp_right ?_)));intro k;intros;apply hq;apply k<;>assumption)
theorem len_l_folds:∀xs G Q,jKs xs G Q->xs.length=(["_law_web_here"]:List Str).length:=by
 intro xs G Q h;unfold jKs at h;repeat (first | exact (congrArg List.length h.1).trans rfl | obtain⟨_,h⟩:=h)
theorem mono_l_fold:Mono jQk:=by
 unfold jQk;(intro xs G Q Q' hq;(repeat' (first | (refine Exists.imp fun _=> ?_) | (refine And.imp_right ?_)));intro k;intros;apply hq;apply k<;>assumption)
theorem len_l_fold:∀xs G Q,jQk xs G Q->xs.length=(["_law_web_here"]:List Str).length:=by
 intro xs G Q h;unfold jQk at h;repeat (first | exact (congrArg List.length h.1).trans rfl | obtain⟨_,h⟩:=h)
theorem mono_l_line:Mono jQi:=by
 unfold jQi;(intro xs G Q Q' hq;(repeat' (first | (refine Exists.imp fun _=> ?_) | (refine And.imp_right ?_)));intro k;intros;apply hq;apply k<;>assumption)
theorem len_l_line:∀xs G Q,jQi xs G Q->xs.length=(["_law_many"]:List Str).length:=by
 intro xs G Q h;unfold jQi at h;repeat (first | exact (congrArg List.length h.1).trans rfl | obtain⟨_,h⟩:=h)
theorem mono_l_right:Mono jQd:=by
 unfold jQd;(intro xs G Q Q' hq;(repeat' (first | (refine Exists.imp fun _=> ?_) | (refine And.imp_right ?_)));intro k;intros;apply hq;apply k<;>assumption)
theorem len_l_right:∀xs G Q,jQd xs G Q->xs.length=(["_law_box_here"]:List Str).length:=by
 intro xs G Q h;unfold jQd at h;repeat (first | exact (congrArg List.length h.1).trans rfl | obtain⟨_,h⟩:=h)
theorem kUp (n:Nat):Mono (jZ8 n):=by
 unfold jZ8;(intro xs G Q Q' hq;(repeat' (first | (refine Exists.imp fun _=> ?_) | (refine And.imp_right ?_)));intro k;intros;apply hq;apply k<;>assumption)
theorem len_al (n:Nat):∀xs G Q,jZ8 n xs G Q->xs.length=(["_law_found","_law_due"]:List Str).length:=by
 intro xs G Q h;unfold jZ8 at h;repeat (first | exact (congrArg List.length h.1).trans rfl | obtain⟨_,h⟩:=h)
noncomputable def spLaw (K:PySem.W.Frag):Sp:=dn K 1 sp_law
theorem all_mk {l:PySem.W.OpenLaw} {w:World} {K:PySem.W.Frag} {h:Heap} {mg:Str->Option Value} {fa:Addr} {f0 f1 f2 f3 f4 f5 f6 f7 f8 f9 f10 f11 f12 f13 f14 f15 f16 f17 f18 f19 f20 f21 f22 f23 f24 f25 f26 f27 f28 f29 f30 f31:Addr}
  (X:K.In h) (G:h.Ns mainGlobals mg) (hfa:mg "law"=some (.ref fa))
  {od0 an0 od1 an1 od2 an2 od3 an3 od4 an4 od5 an5 od6 an6 od7 an7 od8 an8 od9 an9 od10 an10 od11 an11 od12 an12 od13 an13 od14 an14 od15 an15 od16 an16 od17 an17 od18 an18 od19 an19 od20 an20 od21 an21 od22 an22 od23 an23 od24 an24 od25 an25 od26 an26 od27 an27 od28 an28 od29 an29 od30 an30 od31 an31:Option Addr} {sl0 sl1 sl2 sl3 sl4 sl5 sl6 sl7 sl8 sl9 sl10 sl11 sl12 sl13 sl14 sl15 sl16 sl17 sl18 sl19 sl20 sl21 sl22 sl23 sl24 sl25 sl26 sl27 sl28 sl29 sl30 sl31:Array (Option Value)} {oc0 kV0 dc0 pm0 cd0 ct0 oc1 kV1 dc1 pm1 cd1 ct1 oc2 kV2 dc2 pm2 cd2 ct2 oc3 kV3 dc3 pm3 cd3 ct3 oc4 kV4 dc4 pm4 cd4 ct4 oc5 kV5 dc5 pm5 cd5 ct5 oc6 kV6 dc6 pm6 cd6 ct6 oc7 kV7 dc7 pm7 cd7 ct7 oc8 kV8 dc8 pm8 cd8 ct8 oc9 kV9 dc9 pm9 cd9 ct9 oc10 kV10 dc10 pm10 cd10 ct10 oc11 kV11 dc11 pm11 cd11 ct11 oc12 kV12 dc12 pm12 cd12 ct12 oc13 kV13 dc13 pm13 cd13 ct13 oc14 kV14 dc14 pm14 cd14 ct14 oc15 kV15 dc15 pm15 cd15 ct15 oc16 kV16 dc16 pm16 cd16 ct16 oc17 kV17 dc17 pm17 cd17 ct17 oc18 kV18 dc18 pm18 cd18 ct18 oc19 kV19 dc19 pm19 cd19 ct19 oc20 kV20 dc20 pm20 cd20 ct20 oc21 kV21 dc21 pm21 cd21 ct21 oc22 kV22 dc22 pm22 cd22 ct22 oc23 kV23 dc23 pm23 cd23 ct23 oc24 kV24 dc24 pm24 cd24 ct24 oc25 kV25 dc25 pm25 cd25 ct25 oc26 kV26 dc26 pm26 cd26 ct26 oc27 kV27 dc27 pm27 cd27 ct27 oc28 kV28 dc28 pm28 cd28 ct28 oc29 kV29 dc29 pm29 cd29 ct29 oc30 kV30 dc30 pm30 cd30 ct30 oc31 kV31 dc31 pm31 cd31 ct31:Value}
  (a0:PySem.W.nsIn K mainGlobals "numbered"=some (some (.ref f0))) (l0:K.lookup f0=some ⟨oc0,od0,.func (PySem.W.fnOf "numbered" "numbered" (jJ1 jU4) (jJx jU4) (jJf jU4) .none kV0 dc0 pm0 an0 cd0 ct0),sl0⟩) (c0:PySem.W.codeIn K cd0 "numbered"=true) (k0:PySem.W.keepIn K (.ref f0)=true)
  (a1:PySem.W.nsIn K mainGlobals "kind_numbers"=some (some (.ref f1))) (l1:K.lookup f1=some ⟨oc1,od1,.func (PySem.W.fnOf "kind_numbers" "kind_numbers" (jJ1 jQf) (jJx jQf) (jJf jQf) .none kV1 dc1 pm1 an1 cd1 ct1),sl1⟩) (c1:PySem.W.codeIn K cd1 "kind_numbers"=true) (k1:PySem.W.keepIn K (.ref f1)=true)
  (a2:PySem.W.nsIn K mainGlobals "kinds_by"=some (some (.ref f2))) (l2:K.lookup f2=some ⟨oc2,od2,.func (PySem.W.fnOf "kinds_by" "kinds_by" (jJ1 jU6) (jJx jU6) (jJf jU6) .none kV2 dc2 pm2 an2 cd2 ct2),sl2⟩) (c2:PySem.W.codeIn K cd2 "kinds_by"=true) (k2:PySem.W.keepIn K (.ref f2)=true)
  (a3:PySem.W.nsIn K mainGlobals "kinds"=some (some (.ref f3))) (l3:K.lookup f3=some ⟨oc3,od3,.func (PySem.W.fnOf "kinds" "kinds" (jJ1 jZo) (jJx jZo) (jJf jZo) .none kV3 dc3 pm3 an3 cd3 ct3),sl3⟩) (c3:PySem.W.codeIn K cd3 "kinds"=true) (k3:PySem.W.keepIn K (.ref f3)=true)
  (a4:PySem.W.nsIn K mainGlobals "first_comings"=some (some (.ref f4))) (l4:K.lookup f4=some ⟨oc4,od4,.func (PySem.W.fnOf "first_comings" "first_comings" (jJ1 jK4) (jJx jK4) (jJf jK4) .none kV4 dc4 pm4 an4 cd4 ct4),sl4⟩) (c4:PySem.W.codeIn K cd4 "first_comings"=true) (k4:PySem.W.keepIn K (.ref f4)=true)
  (a5:PySem.W.nsIn K mainGlobals "ends_by"=some (some (.ref f5))) (l5:K.lookup f5=some ⟨oc5,od5,.func (PySem.W.fnOf "ends_by" "ends_by" (jJ1 jVx) (jJx jVx) (jJf jVx) .none kV5 dc5 pm5 an5 cd5 ct5),sl5⟩) (c5:PySem.W.codeIn K cd5 "ends_by"=true) (k5:PySem.W.keepIn K (.ref f5)=true)
  (a6:PySem.W.nsIn K mainGlobals "renumbered"=some (some (.ref f6))) (l6:K.lookup f6=some ⟨oc6,od6,.func (PySem.W.fnOf "renumbered" "renumbered" (jJ1 jQ7) (jJx jQ7) (jJf jQ7) .none kV6 dc6 pm6 an6 cd6 ct6),sl6⟩) (c6:PySem.W.codeIn K cd6 "renumbered"=true) (k6:PySem.W.keepIn K (.ref f6)=true)
  (a7:PySem.W.nsIn K mainGlobals "told_from"=some (some (.ref f7))) (l7:K.lookup f7=some ⟨oc7,od7,.func (PySem.W.fnOf "told_from" "told_from" (jJ1 jUl) (jJx jUl) (jJf jUl) .none kV7 dc7 pm7 an7 cd7 ct7),sl7⟩) (c7:PySem.W.codeIn K cd7 "told_from"=true) (k7:PySem.W.keepIn K (.ref f7)=true)
  (a8:PySem.W.nsIn K mainGlobals "folds_by"=some (some (.ref f8))) (l8:K.lookup f8=some ⟨oc8,od8,.func (PySem.W.fnOf "folds_by" "folds_by" (jJ1 jU7) (jJx jU7) (jJf jU7) .none kV8 dc8 pm8 an8 cd8 ct8),sl8⟩) (c8:PySem.W.codeIn K cd8 "folds_by"=true) (k8:PySem.W.keepIn K (.ref f8)=true)
  (a9:PySem.W.nsIn K mainGlobals "folded"=some (some (.ref f9))) (l9:K.lookup f9=some ⟨oc9,od9,.func (PySem.W.fnOf "folded" "folded" (jJ1 jX6) (jJx jX6) (jJf jX6) .none kV9 dc9 pm9 an9 cd9 ct9),sl9⟩) (c9:PySem.W.codeIn K cd9 "folded"=true) (k9:PySem.W.keepIn K (.ref f9)=true)
  (a10:PySem.W.nsIn K mainGlobals "can_be_learnt"=some (some (.ref f10))) (l10:K.lookup f10=some ⟨oc10,od10,.func (PySem.W.fnOf "can_be_learnt" "can_be_learnt" (jJ1 jK5) (jJx jK5) (jJf jK5) .none kV10 dc10 pm10 an10 cd10 ct10),sl10⟩) (c10:PySem.W.codeIn K cd10 "can_be_learnt"=true) (k10:PySem.W.keepIn K (.ref f10)=true)
  (a11:PySem.W.nsIn K mainGlobals "_law_box"=some (some (.ref f11))) (l11:K.lookup f11=some ⟨oc11,od11,.func (PySem.W.fnOf "_law_box" "_law_box" (jJ1 jZn) (jJx jZn) (jJf jZn) .none kV11 dc11 pm11 an11 cd11 ct11),sl11⟩) (c11:PySem.W.codeIn K cd11 "_law_box"=true) (k11:PySem.W.keepIn K (.ref f11)=true)
  (a12:PySem.W.nsIn K mainGlobals "_law_take"=some (some (.ref f12))) (l12:K.lookup f12=some ⟨oc12,od12,.func (PySem.W.fnOf "_law_take" "_law_take" (jJ1 jXz) (jJx jXz) (jJf jXz) .none kV12 dc12 pm12 an12 cd12 ct12),sl12⟩) (c12:PySem.W.codeIn K cd12 "_law_take"=true) (k12:PySem.W.keepIn K (.ref f12)=true)
  (a13:PySem.W.nsIn K mainGlobals "_law_joined"=some (some (.ref f13))) (l13:K.lookup f13=some ⟨oc13,od13,.func (PySem.W.fnOf "_law_joined" "_law_joined" (jJ1 jU5) (jJx jU5) (jJf jU5) .none kV13 dc13 pm13 an13 cd13 ct13),sl13⟩) (c13:PySem.W.codeIn K cd13 "_law_joined"=true) (k13:PySem.W.keepIn K (.ref f13)=true)
  (a14:PySem.W.nsIn K mainGlobals "_law_doors_put"=some (some (.ref f14))) (l14:K.lookup f14=some ⟨oc14,od14,.func (PySem.W.fnOf "_law_doors_put" "_law_doors_put" (jJ1 jQo) (jJx jQo) (jJf jQo) .none kV14 dc14 pm14 an14 cd14 ct14),sl14⟩) (c14:PySem.W.codeIn K cd14 "_law_doors_put"=true) (k14:PySem.W.keepIn K (.ref f14)=true)
  (a15:PySem.W.nsIn K mainGlobals "_law_web"=some (some (.ref f15))) (l15:K.lookup f15=some ⟨oc15,od15,.func (PySem.W.fnOf "_law_web" "_law_web" (jJ1 jZm) (jJx jZm) (jJf jZm) .none kV15 dc15 pm15 an15 cd15 ct15),sl15⟩) (c15:PySem.W.codeIn K cd15 "_law_web"=true) (k15:PySem.W.keepIn K (.ref f15)=true)
  (a16:PySem.W.nsIn K mainGlobals "_law_ring"=some (some (.ref f16))) (l16:K.lookup f16=some ⟨oc16,od16,.func (PySem.W.fnOf "_law_ring" "_law_ring" (jJ1 jX1) (jJx jX1) (jJf jX1) .none kV16 dc16 pm16 an16 cd16 ct16),sl16⟩) (c16:PySem.W.codeIn K cd16 "_law_ring"=true) (k16:PySem.W.keepIn K (.ref f16)=true)
  (a17:PySem.W.nsIn K mainGlobals "_law_ends"=some (some (.ref f17))) (l17:K.lookup f17=some ⟨oc17,od17,.func (PySem.W.fnOf "_law_ends" "_law_ends" (jJ1 jX5) (jJx jX5) (jJf jX5) .none kV17 dc17 pm17 an17 cd17 ct17),sl17⟩) (c17:PySem.W.codeIn K cd17 "_law_ends"=true) (k17:PySem.W.keepIn K (.ref f17)=true)
  (a18:PySem.W.nsIn K mainGlobals "_law_reached"=some (some (.ref f18))) (l18:K.lookup f18=some ⟨oc18,od18,.func (PySem.W.fnOf "_law_reached" "_law_reached" (jJ1 jUo) (jJx jUo) (jJf jUo) .none kV18 dc18 pm18 an18 cd18 ct18),sl18⟩) (c18:PySem.W.codeIn K cd18 "_law_reached"=true) (k18:PySem.W.keepIn K (.ref f18)=true)
  (a19:PySem.W.nsIn K mainGlobals "_law_sheeted"=some (some (.ref f19))) (l19:K.lookup f19=some ⟨oc19,od19,.func (PySem.W.fnOf "_law_sheeted" "_law_sheeted" (jJ1 jUm) (jJx jUm) (jJf jUm) .none kV19 dc19 pm19 an19 cd19 ct19),sl19⟩) (c19:PySem.W.codeIn K cd19 "_law_sheeted"=true) (k19:PySem.W.keepIn K (.ref f19)=true)
  (a20:PySem.W.nsIn K mainGlobals "_law_turn"=some (some (.ref f20))) (l20:K.lookup f20=some ⟨oc20,od20,.func (PySem.W.fnOf "_law_turn" "_law_turn" (jJ1 jXy) (jJx jXy) (jJf jXy) .none kV20 dc20 pm20 an20 cd20 ct20),sl20⟩) (c20:PySem.W.codeIn K cd20 "_law_turn"=true) (k20:PySem.W.keepIn K (.ref f20)=true)
  (a21:PySem.W.nsIn K mainGlobals "_law_covered"=some (some (.ref f21))) (l21:K.lookup f21=some ⟨oc21,od21,.func (PySem.W.fnOf "_law_covered" "_law_covered" (jJ1 jUp) (jJx jUp) (jJf jUp) .none kV21 dc21 pm21 an21 cd21 ct21),sl21⟩) (c21:PySem.W.codeIn K cd21 "_law_covered"=true) (k21:PySem.W.keepIn K (.ref f21)=true)
  (a22:PySem.W.nsIn K mainGlobals "_law_any_web"=some (some (.ref f22))) (l22:K.lookup f22=some ⟨oc22,od22,.func (PySem.W.fnOf "_law_any_web" "_law_any_web" (jJ1 jUq) (jJx jUq) (jJf jUq) .none kV22 dc22 pm22 an22 cd22 ct22),sl22⟩) (c22:PySem.W.codeIn K cd22 "_law_any_web"=true) (k22:PySem.W.keepIn K (.ref f22)=true)
  (a23:PySem.W.nsIn K mainGlobals "_law_renamed"=some (some (.ref f23))) (l23:K.lookup f23=some ⟨oc23,od23,.func (PySem.W.fnOf "_law_renamed" "_law_renamed" (jJ1 jUn) (jJx jUn) (jJf jUn) .none kV23 dc23 pm23 an23 cd23 ct23),sl23⟩) (c23:PySem.W.codeIn K cd23 "_law_renamed"=true) (k23:PySem.W.keepIn K (.ref f23)=true)
  (a24:PySem.W.nsIn K mainGlobals "_law_from"=some (some (.ref f24))) (l24:K.lookup f24=some ⟨oc24,od24,.func (PySem.W.fnOf "_law_from" "_law_from" (jJ1 jX3) (jJx jX3) (jJf jX3) .none kV24 dc24 pm24 an24 cd24 ct24),sl24⟩) (c24:PySem.W.codeIn K cd24 "_law_from"=true) (k24:PySem.W.keepIn K (.ref f24)=true)
  (a25:PySem.W.nsIn K mainGlobals "_law_kinds"=some (some (.ref f25))) (l25:K.lookup f25=some ⟨oc25,od25,.func (PySem.W.fnOf "_law_kinds" "_law_kinds" (jJ1 jVv) (jJx jVv) (jJf jVv) .none kV25 dc25 pm25 an25 cd25 ct25),sl25⟩) (c25:PySem.W.codeIn K cd25 "_law_kinds"=true) (k25:PySem.W.keepIn K (.ref f25)=true)
  (a26:PySem.W.nsIn K mainGlobals "_law_folds"=some (some (.ref f26))) (l26:K.lookup f26=some ⟨oc26,od26,.func (PySem.W.fnOf "_law_folds" "_law_folds" (jJ1 jVw) (jJx jVw) (jJf jVw) .none kV26 dc26 pm26 an26 cd26 ct26),sl26⟩) (c26:PySem.W.codeIn K cd26 "_law_folds"=true) (k26:PySem.W.keepIn K (.ref f26)=true)
  (a27:PySem.W.nsIn K mainGlobals "_law_fold"=some (some (.ref f27))) (l27:K.lookup f27=some ⟨oc27,od27,.func (PySem.W.fnOf "_law_fold" "_law_fold" (jJ1 jX4) (jJx jX4) (jJf jX4) .none kV27 dc27 pm27 an27 cd27 ct27),sl27⟩) (c27:PySem.W.codeIn K cd27 "_law_fold"=true) (k27:PySem.W.keepIn K (.ref f27)=true)
  (a28:PySem.W.nsIn K mainGlobals "_law_same"=some (some (.ref f28))) (l28:K.lookup f28=some ⟨oc28,od28,.func (PySem.W.fnOf "_law_same" "_law_same" (jJ1 jX0) (jJx jX0) (jJf jX0) .none kV28 dc28 pm28 an28 cd28 ct28),sl28⟩) (c28:PySem.W.codeIn K cd28 "_law_same"=true) (k28:PySem.W.keepIn K (.ref f28)=true)
  (a29:PySem.W.nsIn K mainGlobals "_law_line"=some (some (.ref f29))) (l29:K.lookup f29=some ⟨oc29,od29,.func (PySem.W.fnOf "_law_line" "_law_line" (jJ1 jX2) (jJx jX2) (jJf jX2) .none kV29 dc29 pm29 an29 cd29 ct29),sl29⟩) (c29:PySem.W.codeIn K cd29 "_law_line"=true) (k29:PySem.W.keepIn K (.ref f29)=true)
  (a30:PySem.W.nsIn K mainGlobals "_law_right"=some (some (.ref f30))) (l30:K.lookup f30=some ⟨oc30,od30,.func (PySem.W.fnOf "_law_right" "_law_right" (jJ1 jVu) (jJx jVu) (jJf jVu) .none kV30 dc30 pm30 an30 cd30 ct30),sl30⟩) (c30:PySem.W.codeIn K cd30 "_law_right"=true) (k30:PySem.W.keepIn K (.ref f30)=true)
  (a31:PySem.W.nsIn K mainGlobals "law"=some (some (.ref f31))) (l31:K.lookup f31=some ⟨oc31,od31,.func (PySem.W.fnOf "law" "law" (jJ1 kQ9) (jJx kQ9) (jJf kQ9) .none kV31 dc31 pm31 an31 cd31 ct31),sl31⟩) (c31:PySem.W.codeIn K cd31 "law"=true) (k31:PySem.W.keepIn K (.ref f31)=true)
  (z_abs:PySem.W.nsIn K mainGlobals "abs"=some none)
  (z_all:PySem.W.nsIn K mainGlobals "all"=some none)
  (z_bool:PySem.W.nsIn K mainGlobals "bool"=some none)
  (z_divmod:PySem.W.nsIn K mainGlobals "divmod"=some none)
  (z_enumerate:PySem.W.nsIn K mainGlobals "enumerate"=some none)
  (z_int:PySem.W.nsIn K mainGlobals "int"=some none)
  (z_isinstance:PySem.W.nsIn K mainGlobals "isinstance"=some none)
  (z_len:PySem.W.nsIn K mainGlobals "len"=some none)
  (z_list:PySem.W.nsIn K mainGlobals "list"=some none)
  (z_max:PySem.W.nsIn K mainGlobals "max"=some none)
  (z_min:PySem.W.nsIn K mainGlobals "min"=some none)
  (z_range:PySem.W.nsIn K mainGlobals "range"=some none)
  (z_set:PySem.W.nsIn K mainGlobals "set"=some none)
  (z_sorted:PySem.W.nsIn K mainGlobals "sorted"=some none)
  (z_str:PySem.W.nsIn K mainGlobals "str"=some none)
  (z_tuple:PySem.W.nsIn K mainGlobals "tuple"=some none)
  (z_zip:PySem.W.nsIn K mainGlobals "zip"=some none):
  ∃fd:FuncData,(∀(s:Shared) (v:Value),BindsTo s fd ⟨[v],[]⟩ [("_law_script",v)])/\∀base:Heap,K.In base->base.Ns mainGlobals mg->FnOk l.prog w K mg base CX0 8 fa fd ["_law_script"] (spLaw K):=by
 have e:=hfa.symm.trans (PySem.W.mg_of X G a31)
 cases e
 have T:Txt mg:=⟨PySem.W.mg_none_of X G z_abs,PySem.W.mg_none_of X G z_all,PySem.W.mg_none_of X G z_bool,PySem.W.mg_none_of X G z_divmod,PySem.W.mg_none_of X G z_enumerate,PySem.W.mg_none_of X G z_int,PySem.W.mg_none_of X G z_isinstance,PySem.W.mg_none_of X G z_len,PySem.W.mg_none_of X G z_list,PySem.W.mg_none_of X G z_max,PySem.W.mg_none_of X G z_min,PySem.W.mg_none_of X G z_range,PySem.W.mg_none_of X G z_set,PySem.W.mg_none_of X G z_sorted,PySem.W.mg_none_of X G z_str,PySem.W.mg_none_of X G z_tuple,PySem.W.mg_none_of X G z_zip⟩
 have F0:=jKr (st:=jU4) l0 c0 k0
 have F1:=jKr (st:=jQf) l1 c1 k1
 have F2:=jKr (st:=jU6) l2 c2 k2
 have F3:=jKr (st:=jZo) l3 c3 k3
 have F4:=jKr (st:=jK4) l4 c4 k4
 have F5:=jKr (st:=jVx) l5 c5 k5
 have F6:=jKr (st:=jQ7) l6 c6 k6
 have F7:=jKr (st:=jUl) l7 c7 k7
 have F8:=jKr (st:=jU7) l8 c8 k8
 have F9:=jKr (st:=jX6) l9 c9 k9
 have F10:=jKr (st:=jK5) l10 c10 k10
 have F11:=jKr (st:=jZn) l11 c11 k11
 have F12:=jKr (st:=jXz) l12 c12 k12
 have F13:=jKr (st:=jU5) l13 c13 k13
 have F14:=jKr (st:=jQo) l14 c14 k14
 have F15:=jKr (st:=jZm) l15 c15 k15
 have F16:=jKr (st:=jX1) l16 c16 k16
 have F17:=jKr (st:=jX5) l17 c17 k17
 have F18:=jKr (st:=jUo) l18 c18 k18
 have F19:=jKr (st:=jUm) l19 c19 k19
 have F20:=jKr (st:=jXy) l20 c20 k20
 have F21:=jKr (st:=jUp) l21 c21 k21
 have F22:=jKr (st:=jUq) l22 c22 k22
 have F23:=jKr (st:=jUn) l23 c23 k23
 have F24:=jKr (st:=jX3) l24 c24 k24
 have F25:=jKr (st:=jVv) l25 c25 k25
 have F26:=jKr (st:=jVw) l26 c26 k26
 have F27:=jKr (st:=jX4) l27 c27 k27
 have F28:=jKr (st:=jX0) l28 c28 k28
 have F29:=jKr (st:=jX2) l29 c29 k29
 have F30:=jKr (st:=jVu) l30 c30 k30
 have F31:=jKr (st:=kQ9) l31 c31 k31
 refine⟨PySem.W.fnOf "law" "law" (jJ1 kQ9) (jJx kQ9) (jJf kQ9) .none kV31 dc31 pm31 an31 cd31 ct31,fun s v=> .of_eq rfl,fun base _ _=> ?_⟩
 have C_numbered:Cal l.prog w K mg base 1 "numbered" ["looks"] jKu:=⟨⟨_,_,ok_numbered T F0  kUd,PySem.W.mg_of X G a0,k0,(F0.binds (ps:=["looks"]) fun _ _ _ _ _ _ us hl=>by apply ln1 hl;intros;rfl)⟩,kUl,len_numbered⟩
 have C_kind_numbers:Cal l.prog w K mg base 2 "kind_numbers" ["web","steps"] jJz:=⟨⟨_,_,kJ5 T F1 C_numbered jZp,PySem.W.mg_of X G a1,k1,(F1.binds (ps:=["web","steps"]) fun _ _ _ _ _ _ us hl=>by apply ln2 hl;intros;rfl)⟩,jZt,kJe⟩
 have C_kinds_by:Cal l.prog w K mg base 3 "kinds_by" ["web","steps"] jK2:=⟨⟨_,_,ok_kinds_by T F2 C_kind_numbers kUf,PySem.W.mg_of X G a2,k2,(F2.binds (ps:=["web","steps"]) fun _ _ _ _ _ _ us hl=>by apply ln2 hl;intros;rfl)⟩,kUn,len_kinds_by⟩
 have C_kinds:Cal l.prog w K mg base 4 "kinds" ["web"] jUu:=⟨⟨_,_,ok_kinds T F3 C_kinds_by rdok_kinds,PySem.W.mg_of X G a3,k3,(F3.binds (ps:=["web"]) fun _ _ _ _ _ _ us hl=>by apply ln1 hl;intros;rfl)⟩,mono_kinds,len_kinds⟩
 have C_first_comings:Cal l.prog w K mg base 1 "first_comings" ["web","room"] jJ4:=⟨⟨_,_,kJa T F4  jYu,PySem.W.mg_of X G a4,k4,(F4.binds (ps:=["web","room"]) fun _ _ _ _ _ _ us hl=>by apply ln2 hl;intros;rfl)⟩,jY8,jZv⟩
 have C_ends_by:Cal l.prog w K mg base 1 "ends_by" ["ends","numbers"] jKz:=⟨⟨_,_,ok_ends_by T F5  rdok_ends_by,PySem.W.mg_of X G a5,k5,(F5.binds (ps:=["ends","numbers"]) fun _ _ _ _ _ _ us hl=>by apply ln2 hl;intros;rfl)⟩,mono_ends_by,len_ends_by⟩
 have C_renumbered:Cal l.prog w K mg base 2 "renumbered" ["web","numbers"] jKb:=⟨⟨_,_,kUi T F6 C_ends_by kJ2,PySem.W.mg_of X G a6,k6,(F6.binds (ps:=["web","numbers"]) fun _ _ _ _ _ _ us hl=>by apply ln2 hl;intros;rfl)⟩,kJ8,kQc⟩
 have C_told_from:Cal l.prog w K mg base 3 "told_from" ["web","room"] jKo:=⟨⟨_,_,ok_told_from T F7 C_first_comings C_renumbered kKx,PySem.W.mg_of X G a7,k7,(F7.binds (ps:=["web","room"]) fun _ _ _ _ _ _ us hl=>by apply ln2 hl;intros;rfl)⟩,kK4,kUq⟩
 have C_folds_by:Cal l.prog w K mg base 3 "folds_by" ["web"] jKh:=⟨⟨_,_,ok_folds_by T F8 C_kind_numbers kUg,PySem.W.mg_of X G a8,k8,(F8.binds (ps:=["web"]) fun _ _ _ _ _ _ us hl=>by apply ln1 hl;intros;rfl)⟩,kUo,len_folds_by⟩
 have C_folded:Cal l.prog w K mg base 5 "folded" ["web"] jQy:=⟨⟨_,_,ok_folded T F9 C_folds_by C_kinds C_ends_by rdok_folded,PySem.W.mg_of X G a9,k9,(F9.binds (ps:=["web"]) fun _ _ _ _ _ _ us hl=>by apply ln1 hl;intros;rfl)⟩,mono_folded,len_folded⟩
 have C_can_be_learnt:Cal l.prog w K mg base 6 "can_be_learnt" ["web","room"] jJr:=⟨⟨_,_,kJb T F10 C_told_from C_folds_by C_folded jYv,PySem.W.mg_of X G a10,k10,(F10.binds (ps:=["web","room"]) fun _ _ _ _ _ _ us hl=>by apply ln2 hl;intros;rfl)⟩,jY9,jZw⟩
 have C_l_box:Cal l.prog w K mg base 1 "_law_box" ["_law_script","_law_k"] jUt:=⟨⟨_,_,ok_l_box T F11  rdok_l_box,PySem.W.mg_of X G a11,k11,(F11.binds (ps:=["_law_script","_law_k"]) fun _ _ _ _ _ _ us hl=>by apply ln2 hl;intros;rfl)⟩,mono_l_box,len_l_box⟩
 have C_l_take:Cal l.prog w K mg base 1 "_law_take" ["_law_box_here","_law_many"] jJs:=⟨⟨_,_,ok_l_take T F12  rdok_l_take,PySem.W.mg_of X G a12,k12,(F12.binds (ps:=["_law_box_here","_law_many"]) fun _ _ _ _ _ _ us hl=>by apply ln2 hl;intros;rfl)⟩,mono_l_take,len_l_take⟩
 have C_l_joined:Cal l.prog w K mg base 1 "_law_joined" ["_law_halves"] jK1:=⟨⟨_,_,ok_l_joined T F13  kUe,PySem.W.mg_of X G a13,k13,(F13.binds (ps:=["_law_halves"]) fun _ _ _ _ _ _ us hl=>by apply ln1 hl;intros;rfl)⟩,kUm,len_l_joined⟩
 have C_l_doors_put:Cal l.prog w K mg base 2 "_law_doors_put" ["_law_box_here","_law_pairs","_law_many"] jJ8:=⟨⟨_,_,kK3 T F14 C_l_take C_l_joined jZ9,PySem.W.mg_of X G a14,k14,(F14.binds (ps:=["_law_box_here","_law_pairs","_law_many"]) fun _ _ _ _ _ _ us hl=>by apply ln3 hl;intros;rfl)⟩,kJd,kKb⟩
 have C_l_web:Cal l.prog w K mg base 3 "_law_web" ["_law_box_here","_law_many","_law_most"] jQ2:=⟨⟨_,_,ok_l_web T F15 C_l_take C_l_doors_put rdok_l_web,PySem.W.mg_of X G a15,k15,(F15.binds (ps:=["_law_box_here","_law_many","_law_most"]) fun _ _ _ _ _ _ us hl=>by apply ln3 hl;intros;rfl)⟩,mono_l_web,len_l_web⟩
 have C_l_ring:Cal l.prog w K mg base 1 "_law_ring" ["_law_many"] jQx:=⟨⟨_,_,ok_l_ring T F16  rdok_l_ring,PySem.W.mg_of X G a16,k16,(F16.binds (ps:=["_law_many"]) fun _ _ _ _ _ _ us hl=>by apply ln1 hl;intros;rfl)⟩,mono_l_ring,len_l_ring⟩
 have C_l_ends:Cal l.prog w K mg base 1 "_law_ends" ["_law_web_here"] jQa:=⟨⟨_,_,ok_l_ends T F17  rdok_l_ends,PySem.W.mg_of X G a17,k17,(F17.binds (ps:=["_law_web_here"]) fun _ _ _ _ _ _ us hl=>by apply ln1 hl;intros;rfl)⟩,mono_l_ends,len_l_ends⟩
 have C_l_reached:Cal l.prog w K mg base 1 "_law_reached" ["_law_web_here","_law_room"] jKa:=⟨⟨_,_,ok_l_reached T F18  kK0,PySem.W.mg_of X G a18,k18,(F18.binds (ps:=["_law_web_here","_law_room"]) fun _ _ _ _ _ _ us hl=>by apply ln2 hl;intros;rfl)⟩,kK7,kUt⟩
 have C_l_sheeted:Cal l.prog w K mg base 2 "_law_sheeted" ["_law_web_here","_law_turns","_law_many"] jKp:=⟨⟨_,_,ok_l_sheeted T F19 C_l_ends kKy,PySem.W.mg_of X G a19,k19,(F19.binds (ps:=["_law_web_here","_law_turns","_law_many"]) fun _ _ _ _ _ _ us hl=>by apply ln3 hl;intros;rfl)⟩,kK5,kUr⟩
 have C_l_turn:Cal l.prog w K mg base 2 "_law_turn" ["_law_box_here","_law_many","_law_own"] jK9:=⟨⟨_,_,ok_l_turn T F20 C_l_take rdok_l_turn,PySem.W.mg_of X G a20,k20,(F20.binds (ps:=["_law_box_here","_law_many","_law_own"]) fun _ _ _ _ _ _ us hl=>by apply ln3 hl;intros;rfl)⟩,mono_l_turn,len_l_turn⟩
 have C_l_covered:Cal l.prog w K mg base 3 "_law_covered" ["_law_box_here","_law_web_here","_law_many"] jKq:=⟨⟨_,_,ok_l_covered T F21 C_l_ends C_l_turn C_l_sheeted C_l_reached kK1,PySem.W.mg_of X G a21,k21,(F21.binds (ps:=["_law_box_here","_law_web_here","_law_many"]) fun _ _ _ _ _ _ us hl=>by apply ln3 hl;intros;rfl)⟩,kK8,kUu⟩
 have C_l_any_web:Cal l.prog w K mg base 4 "_law_any_web" ["_law_box_here"] jKf:=⟨⟨_,_,ok_l_any_web T F22 C_l_take C_l_web C_l_ring C_l_covered kK2,PySem.W.mg_of X G a22,k22,(F22.binds (ps:=["_law_box_here"]) fun _ _ _ _ _ _ us hl=>by apply ln1 hl;intros;rfl)⟩,kK9,kUv⟩
 have C_l_renamed:Cal l.prog w K mg base 3 "_law_renamed" ["_law_box_here","_law_web_here"] jKe:=⟨⟨_,_,ok_l_renamed T F23 C_l_turn kKz,PySem.W.mg_of X G a23,k23,(F23.binds (ps:=["_law_box_here","_law_web_here"]) fun _ _ _ _ _ _ us hl=>by apply ln2 hl;intros;rfl)⟩,kK6,kUs⟩
 have C_l_from:Cal l.prog w K mg base 2 "_law_from" ["_law_web_here","_law_room"] jQj:=⟨⟨_,_,ok_l_from T F24 C_l_reached rdok_l_from,PySem.W.mg_of X G a24,k24,(F24.binds (ps:=["_law_web_here","_law_room"]) fun _ _ _ _ _ _ us hl=>by apply ln2 hl;intros;rfl)⟩,mono_l_from,len_l_from⟩
 have C_l_kinds:Cal l.prog w K mg base 1 "_law_kinds" ["_law_web_here"] jQe:=⟨⟨_,_,ok_l_kinds T F25  rdok_l_kinds,PySem.W.mg_of X G a25,k25,(F25.binds (ps:=["_law_web_here"]) fun _ _ _ _ _ _ us hl=>by apply ln1 hl;intros;rfl)⟩,mono_l_kinds,len_l_kinds⟩
 have C_l_folds:Cal l.prog w K mg base 2 "_law_folds" ["_law_web_here"] jKs:=⟨⟨_,_,ok_l_folds T F26 C_l_kinds rdok_l_folds,PySem.W.mg_of X G a26,k26,(F26.binds (ps:=["_law_web_here"]) fun _ _ _ _ _ _ us hl=>by apply ln1 hl;intros;rfl)⟩,mono_l_folds,len_l_folds⟩
 have C_l_fold:Cal l.prog w K mg base 3 "_law_fold" ["_law_web_here"] jQk:=⟨⟨_,_,ok_l_fold T F27 C_l_folds rdok_l_fold,PySem.W.mg_of X G a27,k27,(F27.binds (ps:=["_law_web_here"]) fun _ _ _ _ _ _ us hl=>by apply ln1 hl;intros;rfl)⟩,mono_l_fold,len_l_fold⟩
 have C_al:Cal l.prog w K mg base 0 "_law_same" ["_law_found","_law_due"] (fun _ _ _=>False):=⟨⟨_,_,fn_false,PySem.W.mg_of X G a28,k28,(F28.binds (ps:=["_law_found","_law_due"]) fun _ _ _ _ _ _ us hl=>by apply ln2 hl;intros;rfl)⟩,fun _ _ _ _ _ h=>h,fun _ _ _ h=>h.elim⟩
 have C_al0:Cal l.prog w K mg base 1 "_law_same" ["_law_found","_law_due"] (jZ8 0):=⟨⟨_,_,jY6 T F28 C_al (jZ0 _),PySem.W.mg_of X G a28,k28,(F28.binds (ps:=["_law_found","_law_due"]) fun _ _ _ _ _ _ us hl=>by apply ln2 hl;intros;rfl)⟩,kUp 0,len_al 0⟩
 have C_al1:Cal l.prog w K mg base 2 "_law_same" ["_law_found","_law_due"] (jZ8 1):=⟨⟨_,_,jY6 T F28 C_al0 (jYl 0),PySem.W.mg_of X G a28,k28,(F28.binds (ps:=["_law_found","_law_due"]) fun _ _ _ _ _ _ us hl=>by apply ln2 hl;intros;rfl)⟩,kUp 1,len_al 1⟩
 have C_al2:Cal l.prog w K mg base 3 "_law_same" ["_law_found","_law_due"] (jZ8 2):=⟨⟨_,_,jY6 T F28 C_al1 (jYl 1),PySem.W.mg_of X G a28,k28,(F28.binds (ps:=["_law_found","_law_due"]) fun _ _ _ _ _ _ us hl=>by apply ln2 hl;intros;rfl)⟩,kUp 2,len_al 2⟩
 have C_al3:Cal l.prog w K mg base 4 "_law_same" ["_law_found","_law_due"] (jZ8 3):=⟨⟨_,_,jY6 T F28 C_al2 (jYl 2),PySem.W.mg_of X G a28,k28,(F28.binds (ps:=["_law_found","_law_due"]) fun _ _ _ _ _ _ us hl=>by apply ln2 hl;intros;rfl)⟩,kUp 3,len_al 3⟩
 have C_l_same:=C_al3
 have C_l_line:Cal l.prog w K mg base 1 "_law_line" ["_law_many"] jQi:=⟨⟨_,_,ok_l_line T F29  rdok_l_line,PySem.W.mg_of X G a29,k29,(F29.binds (ps:=["_law_many"]) fun _ _ _ _ _ _ us hl=>by apply ln1 hl;intros;rfl)⟩,mono_l_line,len_l_line⟩
 have C_l_right:Cal l.prog w K mg base 7 "_law_right" ["_law_box_here"] jQd:=⟨⟨_,_,ok_l_right T F30 C_l_any_web C_l_take C_l_line C_l_folds C_l_fold C_l_renamed C_can_be_learnt C_l_same C_l_from rdok_l_right,PySem.W.mg_of X G a30,k30,(F30.binds (ps:=["_law_box_here"]) fun _ _ _ _ _ _ us hl=>by apply ln1 hl;intros;rfl)⟩,mono_l_right,len_l_right⟩
 exact ok_law T F31 C_l_right C_l_box rdok_law
theorem fr_of {K:PySem.W.Frag} {H:Hp} {a:Addr} {xs:List V} (hO:Only H) (hS:SqL K H a xs):FrL K H a xs:=by
 rcases hS with h | h
 ·rcases h with h | ⟨ob,h⟩
  ·rcases hO a with z | ⟨o,ys,z⟩
   ·rw[z] at h;cases h
   ·rw[z] at h;cases h
  ·exact .inl ⟨ob,h⟩
 ·exact .inr h
theorem jVa {K:PySem.W.Frag} {H:Hp}:∀ns:List Int,Reps K H (jZx ns) (ns.map V.int)
 | []=>rfl
 | n::ns=>⟨_,_,rfl,rfl,jVa ns⟩
theorem walk {l:PySem.W.OpenLaw} {q:Program} {loose:List Str} {XP:(Str->Option Value)->Heap->Prop} {YP:World->Heap->Prop} {d:DefRec} {K:Params->PySem.W.Frag} (hn:l.most=some 63) (hdf:d.params.defaults=[])
  (hY:∀(w:World) (h:Heap),YP w h->(K w.params).In h)
  (F:∀(w:World) (mg:Str->Option Value) (fa:Addr) (h:Heap),(K w.params).In h->h.Ns mainGlobals mg->mg d.name=some (.ref fa)->
   ∃fd:FuncData,(∀(s:Shared) (u:Value),BindsTo s fd ⟨[u],[]⟩ [("_law_script",u)])/\∀base:Heap,(K w.params).In base->base.Ns mainGlobals mg->FnOk l.prog w (K w.params) mg base CX0 8 fa fd ["_law_script"] (spLaw (K w.params))):
  PySem.W.WalkO q loose XP YP l.row.toRowW d [] (fun f vs=>PySem.call f vs):=
 L2.walk_of (n:=63) (k:=8) (x:="_law_script") (CX:=fun _=>CX0) (sp:=fun w=>spLaw (K w.params)) hn (by decide) hdf ⟨rfl,rfl,by decide,by decide⟩ hY F
  (fun _ _ a ns hl hO hS=>⟨rfl,[.scr (jZx ns)],fun _=>none,⟨_,_,rfl,⟨a,_,rfl,fr_of hO hS,jVa ns⟩,rfl⟩,(fun _ _ h=>nomatch h),ns,rfl,hl,fun G' v H' _ _ r=>r⟩) fun _ _ _ _ _ z=>z
end W
def PySem.W.Fast.tw11715365403476423180 : Unit := ()
def PySem.W.Fast.tw11329068447965789123 : Unit := ()
def PySem.W.Fast.tw13782122039804774951 : Unit := ()
def PySem.W.Fast.tw4860716854128070412 : Unit := ()
def PySem.W.Fast.tw10222022888948413757 : Unit := ()
def PySem.W.Fast.tw1916193933017422041 : Unit := ()
def PySem.W.Fast.tw8055132066913037291 : Unit := ()
def PySem.W.Fast.tw3616899235504525645 : Unit := ()
def PySem.W.Fast.tw9081467308714712510 : Unit := ()
def PySem.W.Fast.tw8182200892534923272 : Unit := ()
def PySem.W.Fast.tw14721309663348852757 : Unit := ()
def PySem.W.Fast.tw8600147134402128727 : Unit := ()
def PySem.W.Fast.tw6255736962480911834 : Unit := ()
open PySem PySem.W PyProof.Rows
set_option maxRecDepth 100000 in
set_option maxHeartbeats 0 in
theorem PySem.Challenge.cw_stonewalker_k23_what_can_be_learnt_holds : PySem.Challenge.rw_stonewalker_k23_what_can_be_learnt.Holds := by
 w_on;o_law;k_head;(case hw=>w_witness2)
 k_fill
 refine W.walk (l:=PySem.Challenge.rw_stonewalker_k23_what_can_be_learnt) rfl rfl (fun w h Y=>PySem.W.kIn_of Y) ?F
 case F=>
  intro w mg fa h KX G hmg
  refine' W.all_mk KX G hmg ?a0 ?l0 ?c0 ?k0 ?a1 ?l1 ?c1 ?k1 ?a2 ?l2 ?c2 ?k2 ?a3 ?l3 ?c3 ?k3 ?a4 ?l4 ?c4 ?k4 ?a5 ?l5 ?c5 ?k5 ?a6 ?l6 ?c6 ?k6 ?a7 ?l7 ?c7 ?k7 ?a8 ?l8 ?c8 ?k8 ?a9 ?l9 ?c9 ?k9 ?a10 ?l10 ?c10 ?k10 ?a11 ?l11 ?c11 ?k11 ?a12 ?l12 ?c12 ?k12 ?a13 ?l13 ?c13 ?k13 ?a14 ?l14 ?c14 ?k14 ?a15 ?l15 ?c15 ?k15 ?a16 ?l16 ?c16 ?k16 ?a17 ?l17 ?c17 ?k17 ?a18 ?l18 ?c18 ?k18 ?a19 ?l19 ?c19 ?k19 ?a20 ?l20 ?c20 ?k20 ?a21 ?l21 ?c21 ?k21 ?a22 ?l22 ?c22 ?k22 ?a23 ?l23 ?c23 ?k23 ?a24 ?l24 ?c24 ?k24 ?a25 ?l25 ?c25 ?k25 ?a26 ?l26 ?c26 ?k26 ?a27 ?l27 ?c27 ?k27 ?a28 ?l28 ?c28 ?k28 ?a29 ?l29 ?c29 ?k29 ?a30 ?l30 ?c30 ?k30 ?a31 ?l31 ?c31 ?k31 ?z_abs ?z_all ?z_bool ?z_divmod ?z_enumerate ?z_int ?z_isinstance ?z_len ?z_list ?z_max ?z_min ?z_range ?z_set ?z_sorted ?z_str ?z_tuple ?z_zip
  (case a0=>k_is);(case l0=>k_is);(case c0=>k_is);(case k0=>k_is)
  (case a1=>k_is);(case l1=>k_is);(case c1=>k_is);(case k1=>k_is)
  (case a2=>k_is);(case l2=>k_is);(case c2=>k_is);(case k2=>k_is)
  (case a3=>k_is);(case l3=>k_is);(case c3=>k_is);(case k3=>k_is)
  (case a4=>k_is);(case l4=>k_is);(case c4=>k_is);(case k4=>k_is)
  (case a5=>k_is);(case l5=>k_is);(case c5=>k_is);(case k5=>k_is)
  (case a6=>k_is);(case l6=>k_is);(case c6=>k_is);(case k6=>k_is)
  (case a7=>k_is);(case l7=>k_is);(case c7=>k_is);(case k7=>k_is)
  (case a8=>k_is);(case l8=>k_is);(case c8=>k_is);(case k8=>k_is)
  (case a9=>k_is);(case l9=>k_is);(case c9=>k_is);(case k9=>k_is)
  (case a10=>k_is);(case l10=>k_is);(case c10=>k_is);(case k10=>k_is)
  (case a11=>k_is);(case l11=>k_is);(case c11=>k_is);(case k11=>k_is)
  (case a12=>k_is);(case l12=>k_is);(case c12=>k_is);(case k12=>k_is)
  (case a13=>k_is);(case l13=>k_is);(case c13=>k_is);(case k13=>k_is)
  (case a14=>k_is);(case l14=>k_is);(case c14=>k_is);(case k14=>k_is)
  (case a15=>k_is);(case l15=>k_is);(case c15=>k_is);(case k15=>k_is)
  (case a16=>k_is);(case l16=>k_is);(case c16=>k_is);(case k16=>k_is)
  (case a17=>k_is);(case l17=>k_is);(case c17=>k_is);(case k17=>k_is)
  (case a18=>k_is);(case l18=>k_is);(case c18=>k_is);(case k18=>k_is)
  (case a19=>k_is);(case l19=>k_is);(case c19=>k_is);(case k19=>k_is)
  (case a20=>k_is);(case l20=>k_is);(case c20=>k_is);(case k20=>k_is)
  (case a21=>k_is);(case l21=>k_is);(case c21=>k_is);(case k21=>k_is)
  (case a22=>k_is);(case l22=>k_is);(case c22=>k_is);(case k22=>k_is)
  (case a23=>k_is);(case l23=>k_is);(case c23=>k_is);(case k23=>k_is)
  (case a24=>k_is);(case l24=>k_is);(case c24=>k_is);(case k24=>k_is)
  (case a25=>k_is);(case l25=>k_is);(case c25=>k_is);(case k25=>k_is)
  (case a26=>k_is);(case l26=>k_is);(case c26=>k_is);(case k26=>k_is)
  (case a27=>k_is);(case l27=>k_is);(case c27=>k_is);(case k27=>k_is)
  (case a28=>k_is);(case l28=>k_is);(case c28=>k_is);(case k28=>k_is)
  (case a29=>k_is);(case l29=>k_is);(case c29=>k_is);(case k29=>k_is)
  (case a30=>k_is);(case l30=>k_is);(case c30=>k_is);(case k30=>k_is)
  (case a31=>k_is);(case l31=>k_is);(case c31=>k_is);(case k31=>k_is)
  (case z_abs=>k_is);(case z_all=>k_is);(case z_bool=>k_is);(case z_divmod=>k_is);(case z_enumerate=>k_is);(case z_int=>k_is);(case z_isinstance=>k_is);(case z_len=>k_is);(case z_list=>k_is);(case z_max=>k_is);(case z_min=>k_is);(case z_range=>k_is);(case z_set=>k_is);(case z_sorted=>k_is);(case z_str=>k_is);(case z_tuple=>k_is);(case z_zip=>k_is)
