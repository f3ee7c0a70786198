
import PyProof.Rows.All
import Wide.All
import OpenK.AllK
import Wide.FinOn
import Lean
import PyProof.EqAt
import PyProof.EqKinds
import PyProof.TupleCall
import PySem.Challenge.RW_stonewalker_k12_partings_shown
set_option linter.all false
def lJa:=@List.getElem?_eq_some_iff
def lJb:=@List.length_map
def lJc:=@List.getElem?_eq_getElem
def lJd:=@Nat.le_refl
def lJe:=@Bool.false_ne_true
def lJf:=@List.getElem?_map
def lJg:=@List.mem_of_getElem?
def lJh:=@List.getElem?_eq_none
def lJi:=@List.size_toArray
def lJj:=@Nat.ne_of_lt
def lJk:=@List.mem_cons
def lJl:=@List.length_append
def lJm:=@Int.eq_ofNat_of_zero_le
def lJn:=@Nat.zero_le
def lJo:=@Nat.le_trans
def lJp:=@List.mem_singleton
def lJq:=@List.exists_cons_of_length_eq_add_one
def lJr:=@Nat.succ.inj
def lJs:=@List.getElem?_of_mem
def lJt:=@List.mem_range
def lJu:=@List.mem_append
def lJv:=@Nat.lt_of_lt_of_le
def lJw:=@List.map_map
def lJx:=@List.getElem?_set_ne
def lJy:=@List.getElem?_append_left
def lJz:=@List.length_cons
def lJ0:=@Option.some.inj
def lJ1:=@List.getElem?_set_self
def lJ2:=@List.mem_append_right
def lJ3:=@Bool.and_eq_true
def lJ4:=@List.map_cons
def lJ5:=@List.lookup_cons
def lJ6:=@List.mem_map
def lJ7:=@Classical.byContradiction
def lJ8:=@List.ext_getElem?
def lJ9:=@Nat.lt_or_ge
def lKa:=@List.mem_cons_of_mem
def lKb:=@List.mem_cons_self
def lKc:=@List.nodup_cons
def lKd:=@List.replicate_succ
def lKe:=@List.find?_cons
def lKf:=@Option.map_eq_some_iff
def lKg:=@List.length_eq_zero_iff
def lKh:=@Nat.mod_eq_of_lt
def lKi:=@List.any_cons
def lKj:=@List.take_succ
def lKk:=@List.map_append
def lKl:=@List.length_range
def lKm:=@List.length_take
def lKn:=@List.getElem?_append_right
def lKo:=@List.length_set
def lKp:=@List.all_cons
def lKq:=@List.reverse_cons
def lKr:=@List.range_succ
def lKs:=@List.getElem?_range
def lKt:=@Bool.false_eq_true
def lKu:=@List.mem_filter
def lKv:=@List.flatten_cons
def lKw:=@Nat.succ_mul
def lKx:=@Option.map_some
def lKy:=@List.take_length
def lKz:=@Nat.lt_trichotomy
def lK0:=@Nat.lt_irrefl
def lK1:=@List.nodup_append
def lK2:=@List.getElem?_inj
def lK3:=@List.filter_cons
def lK4:=@List.filterMap_cons
def lK5:=@List.mem_append_left
def lK6:=@List.all_eq_true
def lK7:=@List.filterMap_append
def lK8:=@List.not_mem_nil
def lK9:=@List.eq_nil_of_length_eq_zero
def lQa:=@Int.emod_nonneg
def lQb:=@Int.emod_lt_of_pos
def lQc:=@Nat.not_lt_zero
def lQd:=@Nat.mul_le_mul_right
def lQe:=@Classical.not_not
def lQf:=@List.mem_filterMap
def lQg:=@List.getElem?_zipWith
def lQh:=@List.take_of_length_le
def lQi:=@List.flatMap_append
def lQj:=@List.getElem?_replicate
def lQk:=@List.getD_eq_getElem?_getD
local macro_rules
 | `(tactic| omega) => `(tactic| lia)
set_option Elab.async false
set_option linter.all false
set_option maxRecDepth 100000
namespace L2
open PySem PySem.Spec PyProof.Rows
noncomputable abbrev Key:=Sum Int Str
noncomputable def keyIs:Key->Value->Bool
 | .inl k,v=>Value.isInt k v
 | .inr x,v=>Value.isStrOf x v
noncomputable def keyH (w:World):Key->Int
 | .inl k=>hashInt k
 | .inr x=>hashStr w x
theorem jKl:∀ {k:Key} {v:Value},keyIs k v=true->(∃i t,k=Sum.inl i/\v=Value.int i t)\/(∃x t,k=Sum.inr x/\v=Value.str x t)
 | .inl i,v,h=>by
  obtain⟨t,e⟩:=Value.isInt_shape (k:=i) (v:=v) h
  exact .inl ⟨i,t,rfl,e⟩
 | .inr x,v,h=>by
  obtain⟨t,e⟩:=Value.isStrOf_shape (x:=x) (v:=v) h
  exact .inr ⟨x,t,rfl,e⟩
theorem keyIs_int (i:Int) (t:Tok):keyIs (.inl i) (.int i t)=true:=by simp[keyIs,Value.isInt]
theorem keyIs_str (x:Str) (t:Tok):keyIs (.inr x) (.str x t)=true:=by simp[keyIs,Value.isStrOf]
theorem key_ll (a b:Int):decide ((Sum.inl a:Key)=Sum.inl b)=(a == b):=by
 by_cases e:a=b
 ·subst e;simp
 ·have h:¬ (Sum.inl a:Key)=Sum.inl b:=fun q=>e (Sum.inl.inj q)
  rw[decide_eq_false h]
  exact (beq_eq_false_iff_ne.mpr e).symm
theorem key_rr (a b:Str):decide ((Sum.inr a:Key)=Sum.inr b)=decide (a=b):=by
 by_cases e:a=b
 ·subst e;simp
 ·have h:¬ (Sum.inr a:Key)=Sum.inr b:=fun q=>e (Sum.inr.inj q)
  rw[decide_eq_false h,decide_eq_false e]
theorem key_lr (a:Int) (b:Str):decide ((Sum.inl a:Key)=Sum.inr b)=false:=decide_eq_false (fun q=>nomatch q)
theorem key_rl (a:Str) (b:Int):decide ((Sum.inr a:Key)=Sum.inl b)=false:=decide_eq_false (fun q=>nomatch q)
noncomputable def jUj (prog:Program) (w:World):PySem.KeyKind prog w Key where
 is:=keyIs
 hash:=keyH w
 inj:=fun v a b ha hb=>by
  rcases jKl ha with ⟨i,t,rfl,rfl⟩ | ⟨x,t,rfl,rfl⟩
  ·rcases jKl hb with ⟨j,u,rfl,e⟩ | ⟨y,u,rfl,e⟩
   ·injection e with e1 _;rw[e1]
   ·exact nomatch e
  ·rcases jKl hb with ⟨j,u,rfl,e⟩ | ⟨y,u,rfl,e⟩
   ·exact nomatch e
   ·injection e with e1 _;rw[e1]
 byValue:=fun k v h=>by
  rcases jKl h with ⟨i,t,rfl,rfl⟩ | ⟨x,t,rfl,rfl⟩<;>rfl
 pyHash:=fun hv h=>by
  rcases jKl hv with ⟨i,t,rfl,rfl⟩ | ⟨x,t,rfl,rfl⟩
  ·exact wpAny_pyHash_int h
  ·exact wpAny_pyHash_str h
 eqBool:=fun hu hv h=>by
  rcases jKl hu with ⟨i,t,rfl,rfl⟩ | ⟨x,t,rfl,rfl⟩
  ·rcases jKl hv with ⟨j,u,rfl,rfl⟩ | ⟨y,u,rfl,rfl⟩
   ·rw[key_ll] at h;exact wpAny_eqBool_int h
   ·rw[key_lr] at h;exact SeqAt.EqAt.int_str i t y u _ _ _ _ h
  ·rcases jKl hv with ⟨j,u,rfl,rfl⟩ | ⟨y,u,rfl,rfl⟩
   ·rw[key_rl] at h;exact SeqAt.EqAt.str_int x t j u _ _ _ _ h
   ·rw[key_rr] at h;exact wpAny_eqBool_str h
 «strs» :=fun k x t v h=>by
  rcases jKl h with ⟨i,u,rfl,e⟩ | ⟨y,u,rfl,e⟩
  ·exact nomatch e
  ·injection e with e1 _
   subst e1
   cases v<;>rfl
theorem mixKind_int (prog:Program) (w:World) (i:Int) (t:Tok):(jUj prog w).is (.inl i) (.int i t)=true:=keyIs_int i t
theorem mixKind_str (prog:Program) (w:World) (x:Str) (t:Tok):(jUj prog w).is (.inr x) (.str x t)=true:=keyIs_str x t
end L2
set_option synthInstance.maxSize 1000
namespace L2
open PySem PySem.Spec PyProof.Rows
structure KeyV (prog:Program) (w:World) (K:Type) [DecidableEq K] (c:Nat) where
 is:Heap->K->Value->Prop
 hash:K->Int
 draws:K->Nat
 inj:∀ {h:Heap} {v:Value} {x y:K},is h x v->is h y v->x=y
 keeps:∀ {h h':Heap} {k:K} {v:Value} {d:Addr} {o:Obj} {es:Array DictEntry} {ep:Nat},is h k v->h.get? d=some o->o.data= .dict es ep->Heap.SameBut d h h'->is h' k v
 hashed:∀ {A:Around} {E:Value->Shared->Prop} {s:Shared} {k:K} {v:Value} {Q:Int->Shared->Prop},A.units+c<cLine->is s.heap k v->Q (hash k) {s with toks:=s.toks+draws k}->wpAny (model prog w) A (PySem.pyHash v) Q E s
 eqAt:∀ {A:Around} {s:Shared} {x y:K} {u v:Value},A.units+c<cLine->is s.heap x u->is s.heap y v->SeqAt.EqAt A s u v (decide (x=y))
 quiet:∀ {A:Around} {E:Value->Shared->Prop} {s:Shared} {k:K} {v:Value} {Q:Bool->Shared->Prop} (n:Nat),c<=n->is s.heap k v->Q true s->wpAny (model prog w) A (eqIsQuiet n v) Q E s
noncomputable def atomVK (prog:Program) (w:World):KeyV prog w Key 0 where
 is:=fun _ k v=>keyIs k v=true
 hash:=keyH w
 draws:=fun _=>1
 inj:=fun hx hy=>(jUj prog w).inj _ _ _ hx hy
 keeps:=fun x _ _ _=>x
 hashed:=fun _ hv h=>(jUj prog w).pyHash hv h
 eqAt:=fun _ hx hy prog' w' _ _ h=>(jUj prog' w').eqBool hx hy h
 quiet:=fun n _ hv h=>by rw[eqIsQuiet_byValue n ((jUj prog w).byValue _ _ hv)];exact wpAny_pure h
section
variable {prog:Program} {w:World} {K:Type} [DecidableEq K] {c:Nat}
inductive ItemsV (V:KeyV prog w K c) (h:Heap):List K->List Value->Prop
 | nil:ItemsV V h [] []
 | cons {k:K} {v:Value} {ks:List K} {vs:List Value}:V.is h k v->ItemsV V h ks vs->ItemsV V h (k::ks) (v::vs)
theorem ItemsV.inj {V:KeyV prog w K c} {h:Heap} {x:List K} {vs:List Value} (hx:ItemsV V h x vs):∀ {y:List K},ItemsV V h y vs->x=y:=by
 induction hx with
 | nil=>intro y hy;cases hy;rfl
 | cons a _ ih=>intro y hy;cases hy with | cons b t=>rw[V.inj a b,ih t]
theorem ItemsV.length {V:KeyV prog w K c} {h:Heap} {x:List K} {vs:List Value} (hx:ItemsV V h x vs):x.length=vs.length:=by
 induction hx with
 | nil=>rfl
 | cons _ _ ih=>simp[ih]
theorem ItemsV.get {V:KeyV prog w K c} {h:Heap} {x:List K} {vs:List Value} (hx:ItemsV V h x vs):∀ {j:Nat} {v:Value},vs[j]? =some v->∃k,x[j]? =some k/\V.is h k v:=by
 induction hx with
 | nil=>intro j v e;simp at e
 | cons a _ ih=>
  intro j v e
  cases j with
  | zero=>simp at e;subst e;exact⟨_,rfl,a⟩
  | succ j=>obtain⟨k,h1,h2⟩:=ih (j:=j) (v:=v) (by simpa using e);exact⟨k,by simpa using h1,h2⟩
theorem ItemsV.keeps {V:KeyV prog w K c} {h h':Heap} {x:List K} {vs:List Value} {d:Addr} {o:Obj} {es:Array DictEntry} {ep:Nat} (hx:ItemsV V h x vs) (ho:h.get? d=some o) (hd:o.data= .dict es ep) (hs:Heap.SameBut d h h'):ItemsV V h' x vs:=by
 induction hx with
 | nil=>exact .nil
 | cons a _ ih=>exact .cons (V.keeps a ho hd hs) ih
def IsTupV (V:KeyV prog w K c) (h:Heap) (ks:List K) (v:Value):Prop:=∃(a:Addr) (o:Obj) (items:Array Value) (n:Nat),v= .ref a/\h.get? a=some o/\o.cls= .type "tuple"/\o.data= .seq items n/\ItemsV V h ks items.toList
theorem all_eq:∀(x y:List K),((List.range (min x.length y.length)).all (fun j=>decide (x[j]? =y[j]?))&&x.length == y.length)=decide (x=y):=by
 intro x y
 by_cases e:x=y
 ·subst e;simp
 ·rw[decide_eq_false e,Bool.and_eq_false_iff]
  by_cases l:x.length=y.length
  ·left
   rw[List.all_eq_false]
   have:∃j:Nat,x[j]? ≠y[j]? :=by
    apply lJ7
    intro q
    exact e (lJ8 fun j=>lJ7 fun z=>q ⟨j,z⟩)
   obtain⟨j,hj⟩:=this
   refine⟨j,lJt.mpr ?_,by simpa using hj⟩
   rcases lJ9 j (min x.length y.length) with z | z
   ·exact z
   ·exact absurd (by rw[lJh (by omega),lJh (by omega)]) hj
  ·right;simpa using l
noncomputable def jYr (V:KeyV prog w K c):KeyV prog w (List K) (c+2) where
 is:=IsTupV V
 hash:=fun ks=>reduceHash (Builtin.Tuple.tupleHashOf (ks.map V.hash))
 draws:=fun ks=>(ks.map V.draws).sum+1
 inj:=by
  rintro h v x y ⟨a,o,items,n,rfl,ho,_,hd,hi⟩ ⟨a',o',items',n',e,ho',_,hd',hi'⟩
  cases e
  rw[ho] at ho';cases ho'
  rw[hd] at hd';cases hd'
  exact hi.inj hi'
 keeps:=by
  rintro h h' k v d o es ep ⟨a,o',items,n,rfl,ho',hc,hd',hi⟩ ho hd hs
  have ne:a≠d:=by
   rintro rfl
   rw[ho] at ho';cases ho'
   rw[hd] at hd';cases hd'
  exact⟨a,o',items,n,rfl,(hs.2 a ne).trans ho',hc,hd',hi.keeps ho hd hs⟩
 hashed:=by
  rintro A E s ks v Q hu ⟨a,o,items,n,rfl,ho,hc,hd,hi⟩ h
  refine PySem.W.pyHash_slot (T:="tuple") ⟨o,ho,hc⟩ F.slot_tuple_hash F.entry_tuple_hash (F.args_tuple_hash_1 _) (beq_builtin_none _) (.inr (by omega)) ?_
  refine (show wpAny _ _ (Builtin.Tuple.tupleItemsOf (.ref a) >>= _) _ _ s from wpAny_bind (wpAny_tupleItemsOf ho hd (wpAny_bind ?_)))
  rw[<-Array.forIn_toList]
  refine wpAny_forIn_list _ (fun rest (b:Array Int) z=>∃done left,ks=done++left/\ItemsV V s.heap left rest/\b.toList=done.map V.hash/\z={s with toks:=s.toks+(done.map V.draws).sum}) _ ?_ ?_ _ _ ⟨[],ks,rfl,hi,rfl,rfl⟩
  ·rintro x rest b z ⟨done,left,rfl,hl,hb,rfl⟩
   cases hl with
   | @cons k _ ks' _ h1 hl'=>
    refine wpAny_bind (V.hashed (by rw[Around.in1_units];omega) h1 ?_)
    first
     | exact wpAny_pure ⟨done++[k],ks',by simp,hl',by simp[hb],(by simp[Nat.add_assoc])⟩
     | exact wpAny_bind (wpAny_pure (wpAny_pure ⟨done++[k],ks',by simp,hl',by simp[hb],(by simp[Nat.add_assoc])⟩))
  ·rintro b z ⟨done,left,rfl,hl,hb,rfl⟩
   cases hl
   rw[List.append_nil] at h
   refine (show wpAny _ _ (retInt (Builtin.Tuple.tupleHashOf b.toList)) _ _ _ from ?_)
   rw[hb]
   exact wpAny_bind (wpAny_mkInt (wpAny_pure ⟨_,_,rfl,by simpa[Nat.add_assoc] using h⟩))
 eqAt:=by
  rintro A s x y u v hu ⟨a,o,items,n,rfl,ho,hc,hd,hi⟩ ⟨a',o',items',n',rfl,ho',hc',hd',hi'⟩
  by_cases e:a=a'
  ·subst e
   rw[ho] at ho';cases ho'
   rw[hd] at hd';cases hd'
   rw[hi.inj hi',decide_eq_true rfl]
   exact SeqAt.EqAt.same _
  ·have R:=SeqAt.RcAt.tuples (A:=A) (s:=s) (l:=a) (b:=a') (e:=fun j=>decide (x[j]? =y[j]?)) ⟨o,ho,hc,n,hd⟩ ⟨o',ho',hc',n',hd'⟩ (by omega) (fun j j1 j2=> ?_)
   ·have l1:=hi.length
    have l2:=hi'.length
    rw[<-all_eq x y,l1,l2]
    have R':=SeqAt.EqAt.of_refs e R
    simpa using R'
   ·obtain⟨k,h1,h2⟩:=hi.get (j:=j) (v:=items[j]) (by simp[j1])
    obtain⟨k',h1',h2'⟩:=hi'.get (j:=j) (v:=items'[j]) (by simp[j2])
    have:=V.eqAt (A:=A.in1) (s:=s) (by rw[Around.in1_units];omega) h2 h2'
    rw[h1,h1']
    simpa using this
 quiet:=by
  rintro A E s ks v Q n hn ⟨a,o,items,m,rfl,ho,hc,hd,hi⟩ h
  obtain⟨n,rfl⟩:∃nn,n=nn+1:=⟨n-1,by omega⟩
  have hT:s.TypeIs (.ref a) "tuple":=⟨o,ho,hc⟩
  unfold eqIsQuiet;refine wpAny_bind (wpAny_specialOf hT F.slot_tuple_eq.lookup ?_)
  refine (show wpAny _ _ (isInstance (.ref a) (.type "tuple") >>= _) _ _ s from wpAny_bind (wpAny_isInstance hT isSubtype_tuple_tuple ?_))
  simp only[if_false,Bool.not_true,lKt]
  refine wpAny_bind (wpAny_seqItems ho hd (wpAny_bind ?_))
  refine (show wpAny _ _ (forIn items _ _) _ _ s from ?_)
  rw[<-Array.forIn_toList]
  refine wpAny_forIn_list _ (fun rest r z=>r.1=none/\z=s/\∃left,ItemsV V s.heap left rest) _ ?_ ?_ _ _ ⟨rfl,rfl,ks,hi⟩
  ·rintro x rest r z ⟨hr,rfl,left,hl⟩
   cases hl with
   | cons h1 hl'=>
    refine wpAny_bind (V.quiet n (by omega) h1 ?_)
    simp only[if_false,Bool.not_true,lKt]
    exact wpAny_pure ⟨rfl,rfl,_,hl'⟩
  ·rintro⟨r1,r2⟩ z ⟨hr,rfl,_⟩
   simp only at hr;subst hr
   exact wpAny_pure h
theorem dec_inl {α β:Type} [DecidableEq α] [DecidableEq β] (a b:α):decide ((Sum.inl a:α ⊕ β)=Sum.inl b)=decide (a=b):=by
 by_cases e:a=b
 ·simp[e]
 ·rw[decide_eq_false e,decide_eq_false fun z=>e (Sum.inl.inj z)]
theorem dec_inr {α β:Type} [DecidableEq α] [DecidableEq β] (a b:β):decide ((Sum.inr a:α ⊕ β)=Sum.inr b)=decide (a=b):=by
 by_cases e:a=b
 ·simp[e]
 ·rw[decide_eq_false e,decide_eq_false fun z=>e (Sum.inr.inj z)]
noncomputable def sumVK (V:KeyV prog w K c):KeyV prog w (Key ⊕ List K) (c+2) where
 is:=fun h k v=>match k with
  | .inl k=>keyIs k v=true
  | .inr ks=>IsTupV V h ks v
 hash:=fun k=>match k with
  | .inl k=>keyH w k
  | .inr ks=>(jYr V).hash ks
 draws:=fun k=>match k with
  | .inl _=>1
  | .inr ks=>(jYr V).draws ks
 inj:=by
  rintro h v (x | x) (y | y) hx hy
  ·rw[(jUj prog w).inj _ _ _ hx hy]
  ·obtain⟨a,_,_,_,rfl,_⟩:=hy
   rcases jKl hx with ⟨i,t,_,e⟩ | ⟨i,t,_,e⟩<;>cases e
  ·obtain⟨a,_,_,_,rfl,_⟩:=hx
   rcases jKl hy with ⟨i,t,_,e⟩ | ⟨i,t,_,e⟩<;>cases e
  ·rw[(jYr V).inj hx hy]
 keeps:=by
  rintro h h' (k | k) v d o es ep hx ho hd hs
  ·exact hx
  ·exact (jYr V).keeps hx ho hd hs
 hashed:=by
  rintro A E s (k | k) v Q hu hx h
  ·exact (jUj prog w).pyHash hx h
  ·exact (jYr V).hashed hu hx h
 eqAt:=by
  rintro A s (x | x) (y | y) u v hu hx hy
  ·rw[dec_inl]
   exact (atomVK prog w).eqAt (by omega) hx hy
  ·rw[decide_eq_false fun z=>nomatch z]
   obtain⟨a,o,items,n,rfl,ho,hc,hd,_⟩:=hy
   rcases jKl hx with ⟨i,t,_,rfl⟩ | ⟨i,t,_,rfl⟩
   ·exact SeqAt.EqAt.int_tuple i t ⟨o,ho,hc,n,hd⟩ (by omega)
   ·exact SeqAt.EqAt.str_tuple i t ⟨o,ho,hc,n,hd⟩ (by omega)
  ·rw[decide_eq_false fun z=>nomatch z]
   obtain⟨a,o,items,n,rfl,ho,hc,hd,_⟩:=hx
   rcases jKl hy with ⟨i,t,_,rfl⟩ | ⟨i,t,_,rfl⟩
   ·exact SeqAt.EqAt.tuple_int i t ⟨o,ho,hc,n,hd⟩ (by omega)
   ·exact SeqAt.EqAt.tuple_str i t ⟨o,ho,hc,n,hd⟩ (by omega)
  ·rw[dec_inr]
   exact (jYr V).eqAt hu hx hy
 quiet:=by
  rintro A E s (k | k) v Q n hn hx h
  ·exact (atomVK prog w).quiet n (lJn _) hx h
  ·exact (jYr V).quiet n hn hx h
end
noncomputable abbrev K1:=Key ⊕ List Key
noncomputable abbrev K2:=Key ⊕ List K1
noncomputable abbrev TKey:=List K2
noncomputable def vk1 (prog:Program) (w:World):KeyV prog w K1 2:=sumVK (atomVK prog w)
noncomputable def vk2 (prog:Program) (w:World):KeyV prog w K2 4:=sumVK (vk1 prog w)
noncomputable def jUx (prog:Program) (w:World):HeapKind prog w TKey where
 is:=fun h ks a=>(jYr (vk2 prog w)).is h ks (.ref a)
 hash:=(jYr (vk2 prog w)).hash
 draws:=(jYr (vk2 prog w)).draws
 room:=fun A=>A.units+6<cLine
 inj:=fun hx hy=>(jYr (vk2 prog w)).inj hx hy
 keeps:=fun x ho hd hs=>(jYr (vk2 prog w)).keeps x ho hd hs
 pyHash:=fun hu hk h=>(jYr (vk2 prog w)).hashed hu hk h
 eqBool:=fun hu hx hy h=>(jYr (vk2 prog w)).eqAt hu hx hy _ _ _ _ h
 quiet:=fun hk h=>(jYr (vk2 prog w)).quiet 8 (by decide) hk h
theorem jK9 {prog:Program} {w:World} {A:Around} (hu:A.units+20<cLine):(jUx prog w).room A.in1:=by
 show A.in1.units+6<cLine
 rw[Around.in1_units];omega
inductive V where
 | non | bl (b:Bool) | int (i:Int) | str (x:Str) | byt (b:Array UInt8) | flt (b:UInt64) | ref (a:Addr) | ty (n:String)
 deriving DecidableEq
noncomputable def RelV:V->Value->Prop
 | .non,u=>u=Value.none
 | .bl b,u=>u=Value.bool b
 | .int i,u=>∃t,u=Value.int i t
 | .str x,u=>∃t,u=Value.str x t
 | .byt b,u=>∃t,u=Value.bytes b t
 | .flt b,u=>∃t,u=Value.float b t
 | .ref a,u=>u=Value.ref a
 | .ty n,u=>u=Value.type n
noncomputable abbrev Vals:List V->List Value->Prop:=Paired RelV
theorem Vals.length {xs:List V} {us:List Value} (r:Vals xs us):xs.length=us.length:=Paired.length r
theorem Vals.get:∀ {xs:List V} {us:List Value} {i:Nat} {x:V},Vals xs us->xs[i]? =some x->∃u,us[i]? =some u/\RelV x u
 | _,_,_,_,.nil,e=>by simp at e
 | _,_,0,_,.cons r _,e=>by simp at e;subst e;exact⟨_,rfl,r⟩
 | _,_,i+1,x,.cons _ t,e=>by
  obtain⟨u,h1,h2⟩:=Vals.get (i:=i) (x:=x) t (by simpa using e)
  exact⟨u,by simpa using h1,h2⟩
theorem Vals.set {x:V} {u:Value} (r:RelV x u):∀ {xs:List V} {us:List Value} (i:Nat),Vals xs us->Vals (xs.set i x) (us.set i u)
 | _,_,_,.nil=> .nil
 | _,_,0,.cons _ t=> .cons r t
 | _,_,i+1,.cons q t=> .cons q (Vals.set r i t)
theorem Vals.append:∀ {xs ys:List V} {us ws:List Value},Vals xs us->Vals ys ws->Vals (xs++ys) (us++ws)
 | _,_,_,_,.nil,s=>s
 | _,_,_,_,.cons r t,s=> .cons r (Vals.append t s)
theorem Vals.take:∀ {xs:List V} {us:List Value} (n:Nat),Vals xs us->Vals (xs.take n) (us.take n)
 | _,_,0,_=> .nil
 | _,_,_+1,.nil=> .nil
 | _,_,n+1,.cons r t=> .cons r (Vals.take n t)
theorem Vals.drop:∀ {xs:List V} {us:List Value} (n:Nat),Vals xs us->Vals (xs.drop n) (us.drop n)
 | _,_,0,r=>r
 | _,_,_+1,.nil=> .nil
 | _,_,n+1,.cons _ t=>Vals.drop n t
noncomputable def RelO:Option V->Option Value->Prop
 | some v,some u=>RelV v u
 | none,none=>True
 | _,_=>False
noncomputable def KV {κ:Type}:List (κ×V)->List (κ×Value)->Prop:=Paired fun (p:κ×V) (q:κ×Value)=>p.1=q.1/\RelV p.2 q.2
noncomputable def kV:Key->V
 | .inl i=> .int i
 | .inr x=> .str x
inductive HO where
  | lst (xs:List V)
  | tup (xs:List V)
  | dK (kvs:List (Key×V)) | dT (kvs:List (TKey×V))
  | set (S:Int->Bool) (n:Nat)
  | ins (C dx:Addr) (fs:List (Str×V))
  | own (x:Addr)
  | xd (fs:List (Str×V))
  | met (f x:Addr)
  | rng (lo hi:Int)
  | frz (o:Obj) (u:HO)
  | tbl (ps:Array Value)
  | ext (φ:Heap->Prop)
noncomputable abbrev Hp:=Addr->Option HO
noncomputable def upd (H:Hp) (a:Addr) (o:HO):Hp:=fun b=>if b=a then some o else H b
theorem jQ6 {H:Hp} {a:Addr} {o:HO}:upd H a o a=some o:=by unfold upd;rw[if_pos rfl]
theorem jKw {H:Hp} {a b:Addr} {o:HO} (h:b≠a):upd H a o b=H b:=by unfold upd;rw[if_neg h]
theorem ne_of {H:Hp} {a b:Addr} {o u:HO} (h:H a=some o) (h':H b=some u) (d:o≠u):a≠b:=by
 intro e;subst e;rw[h] at h';exact d (lJ0 h')
theorem jV6 {H:Hp} {a b:Addr} {o:HO} (h:H a=some o) (h':H b=none):a≠b:=by
 intro e;subst e;rw[h] at h';cases h'
def Rk1 (H:Hp) (k:K1) (v:V):Prop:=match k with
 | .inl k=>v=kV k
 | .inr ks=>∃p vs,v= .ref p/\H p=some (.tup vs)/\Paired (fun k v=>v=kV k) ks vs
def Rk2 (H:Hp) (k:K2) (v:V):Prop:=match k with
 | .inl k=>v=kV k
 | .inr ks=>∃p vs,v= .ref p/\H p=some (.tup vs)/\Paired (Rk1 H) ks vs
def TKeyAt (H:Hp) (ks:TKey) (a:Addr):Prop:=∃vs,H a=some (.tup vs)/\Paired (Rk2 H) ks vs
theorem jYt {α β:Type} {F G:α->β->Prop} (f:∀a b,F a b->G a b):∀ {l:List α} {m:List β},Paired F l m->Paired G l m
 | _,_,.nil=> .nil
 | _,_,.cons r t=> .cons (f _ _ r) (jYt f t)
theorem Rk1.mono {H H':Hp} (ht:∀b ys,H b=some (.tup ys)->H' b=some (.tup ys)) (k:K1) (v:V) (r:Rk1 H k v):Rk1 H' k v:=by
 cases k with
 | inl k=>exact r
 | inr ks=>obtain⟨p,vs,e,h,t⟩:=r;exact⟨p,vs,e,ht _ _ h,t⟩
theorem Rk2.mono {H H':Hp} (ht:∀b ys,H b=some (.tup ys)->H' b=some (.tup ys)) (k:K2) (v:V) (r:Rk2 H k v):Rk2 H' k v:=by
 cases k with
 | inl k=>exact r
 | inr ks=>obtain⟨p,vs,e,h,t⟩:=r;exact⟨p,vs,e,ht _ _ h,jYt (Rk1.mono ht) t⟩
theorem TKeyAt.mono {H H':Hp} {ks:TKey} {a:Addr} (r:TKeyAt H ks a) (ht:∀b ys,H b=some (.tup ys)->H' b=some (.tup ys)):TKeyAt H' ks a:=by
 obtain⟨vs,h,t⟩:=r;exact⟨vs,ht _ _ h,jYt (Rk2.mono ht) t⟩
section
variable (P:Program) (w:World)
def TupD (h:Heap) (a:Addr) (items:Array Value):Prop:=∃o,h.get? a=some o/\o.cls= .type "tuple"/\∃n,o.data= .seq items n/\o.dict=none
theorem TupD.is {h:Heap} {a:Addr} {items:Array Value} (x:TupD h a items):IsTup h a items:=let ⟨o,e,c,n,d,_⟩:=x;⟨o,e,c,n,d⟩
theorem TupD.new (h:Heap) (items:Array Value):TupD (h.push {cls:= .type "tuple",data:= .seq items}) h.objs.size items:=⟨_,Heap.get?_push_size _ rfl,rfl,_,rfl,rfl⟩
noncomputable def ObjOk (H:Hp) (h:Heap) (a:Addr):HO->Prop
 | .lst xs=>xs.length<=sizeLine/\∃(its:List Value) (n:Nat),Vals xs its/\h.get? a=some {cls:= .type "list",data:= .seq its.toArray n}
 | .tup xs=>xs.length<=sizeLine/\∃its:List Value,Vals xs its/\TupD h a its.toArray
 | .dK kvs=>kvs.length<=sizeLine/\(a == sysModules)=false/\∃vs,KV kvs vs/\h.DictOf (jUj P w) a vs
 | .dT kvs=>kvs.length<=sizeLine/\(a == sysModules)=false/\∃xs:List (TKey×Addr×Value),
   Paired (fun (p:TKey×V) (q:TKey×Addr×Value)=>p.1=q.1/\TKeyAt H p.1 q.2.1/\RelV p.2 q.2.2) kvs xs/\
   ∃o es ep,h.get? a=some o/\o.ExactDict/\o.data= .dict es ep/\es.toList=xs.map (entryOfKey (jUx P w))/\(xs.map (·.1)).Nodup
 | .set S n=>h.SetOf (intKind P w) a S n
 | .ins C dx fs=>H dx=some (.own a)/\fs.length<=1000/\dx≠a/\h.get? a=some (PySem.W.instObj C dx)/\
   ∃mA,h.Ns1 dx mA/\(∀f,RelO (fs.lookup f) (mA f))/\PySem.Within mA (fs.map (·.1))
 | .own _=>∃o,h.get? a=some o
 | .xd fs=>∃mA,h.Ns1 a mA/\∀f,RelO (fs.lookup f) (mA f)
 | .rng lo hi=>∃t u v,h.get? a=some {cls:= .type "range",data:= .fields #[.int lo t,.int hi u,.int 1 v]}
 | .frz o u=>h.get? a=some o/\ObjOk H h a u
 | .tbl ps=>h.get? a=some {cls:= .none,data:= .fields ps}
 | .met f x=>h.get? a=some (PySem.W.methodObj (.ref f) (.ref x))
 | .ext φ=>φ h/\(∃o,h.get? a=some o)/\∀h1 h2:Heap,φ h1->(∀o,h1.get? a=some o->h2.get? a=some o)->φ h2
def HOk (H:Hp) (h:Heap):Prop:=∀a o,H a=some o->ObjOk P w H h a o
end
section
variable {P:Program} {w:World} {H H':Hp} {h h':Heap} {a:Addr} {o:HO}
theorem ObjOk.lt (x:ObjOk P w H h a o):a<h.objs.size:=by
 cases o with
 | lst xs=>obtain⟨_,_,_,_,e⟩:=x;exact Heap.lt_size e
 | tup xs=>obtain⟨_,_,_,p⟩:=x;exact p.is.lt
 | dK kvs=>obtain⟨_,_,_,_,o,_,_,e,_⟩:=x;exact Heap.lt_size e
 | dT kvs=>obtain⟨_,_,_,_,o,_,_,e,_⟩:=x;exact Heap.lt_size e
 | set S n=>obtain⟨o,_,_,_,e,_⟩:=x;exact Heap.lt_size e
 | ins C dx fs=>obtain⟨_,_,_,e,_⟩:=x;exact Heap.lt_size e
 | own y=>obtain⟨_,e⟩:=x;exact Heap.lt_size e
 | xd fs=>obtain⟨_,⟨_,_,_,e,_⟩,_⟩:=x;exact Heap.lt_size e
 | rng lo hi=>obtain⟨_,_,_,e⟩:=x;exact Heap.lt_size e
 | frz ob u=>obtain⟨e,_⟩:=x;exact Heap.lt_size e
 | tbl ps=>exact Heap.lt_size (show h.get? a=some _ from x)
 | met f y=>exact Heap.lt_size (show h.get? a=some _ from x)
 | ext φ=>obtain⟨_,⟨_,e⟩,_⟩:=x;exact Heap.lt_size e
theorem Paired.mapP {α β:Type} {F G:α->β->Prop}:∀ {l₁:List α} {l₂:List β},Paired F l₁ l₂->(∀a b,F a b->G a b)->Paired G l₁ l₂
 | _,_,.nil,_=> .nil
 | _,_,.cons r t,f=> .cons (f _ _ r) (Paired.mapP t f)
theorem ObjOk.stay (x:ObjOk P w H h a o) (k:∀b u,(b=a\/H b=some (.own a))->h.get? b=some u->h'.get? b=some u)
  (ho:∀b,H b=some (.own a)->H' b=some (.own a)) (ht:∀b xs,H b=some (.tup xs)->H' b=some (.tup xs)):ObjOk P w H' h' a o:=by
 induction o with
 | lst xs=>obtain⟨z,its,n,r,e⟩:=x;exact⟨z,its,n,r,k _ _ (.inl rfl) e⟩
 | tup xs=>obtain⟨z,its,r,ob,e,c⟩:=x;exact⟨z,its,r,ob,k _ _ (.inl rfl) e,c⟩
 | dK kvs=>obtain⟨z,y,vs,r,ob,es,ep,e,c⟩:=x;exact⟨z,y,vs,r,ob,es,ep,k _ _ (.inl rfl) e,c⟩
 | dT kvs=>
  obtain⟨z,y,xs,r,ob,es,ep,e,c⟩:=x
  exact⟨z,y,xs,Paired.mapP r fun p q z=>⟨z.1,z.2.1.mono ht,z.2.2⟩,ob,es,ep,k _ _ (.inl rfl) e,c⟩
 | set S n=>obtain⟨ob,es,ep,t,e,c⟩:=x;exact⟨ob,es,ep,t,k _ _ (.inl rfl) e,c⟩
 | ins C dx fs=>
  obtain⟨d,z,ne,e,mA,⟨od,es,ep,e2,c⟩,r⟩:=x
  exact⟨ho _ d,z,ne,k _ _ (.inl rfl) e,mA,⟨od,es,ep,k _ _ (.inr d) e2,c⟩,r⟩
 | own y=>obtain⟨ob,e⟩:=x;exact⟨ob,k _ _ (.inl rfl) e⟩
 | xd fs=>obtain⟨mA,⟨od,es,ep,e,c⟩,r⟩:=x;exact⟨mA,⟨od,es,ep,k _ _ (.inl rfl) e,c⟩,r⟩
 | rng lo hi=>obtain⟨t,u,v,e⟩:=x;exact⟨t,u,v,k _ _ (.inl rfl) e⟩
 | frz ob u ih=>obtain⟨e,q⟩:=x;exact⟨k _ _ (.inl rfl) e,ih q⟩
 | tbl ps=>
  have e:h.get? a=some {cls:= .none,data:= .fields ps}:=x
  show h'.get? a=some {cls:= .none,data:= .fields ps}
  exact k a _ (.inl rfl) e
 | met f y=>
  have e:h.get? a=some (PySem.W.methodObj (.ref f) (.ref y)):=x
  show h'.get? a=some (PySem.W.methodObj (.ref f) (.ref y))
  exact k a _ (.inl rfl) e
 | ext φ=>obtain⟨p,⟨o,e⟩,st⟩:=x;exact⟨st _ _ p fun o q=>k _ _ (.inl rfl) q,⟨o,k _ _ (.inl rfl) e⟩,st⟩
theorem HOk.lt (x:HOk P w H h) (e:H a=some o):a<h.objs.size:=(x a o e).lt
theorem HOk.fresh (x:HOk P w H h) (e:h.objs.size<=a):H a=none:=by
 cases q:H a with
 | none=>rfl
 | some u=>exact absurd (lJv (x.lt q) e) (lK0 _)
theorem HOk.kept (x:HOk P w H h) (k:∀b u,h.get? b=some u->h'.get? b=some u):HOk P w H h':=fun a o e=>
 (x a o e).stay (fun b u _ q=>k b u q) (fun _ q=>q) fun _ _ q=>q
theorem HOk.laid (x:HOk P w H h) (k:∀b u,h.get? b=some u->h'.get? b=some u) (hp:h.objs.size<=a) (new:ObjOk P w (upd H a o) h' a o):HOk P w (upd H a o) h':=fun b u e=>by
 have hn:=x.fresh hp
 by_cases hb:b=a
 ·subst hb;rw[jQ6] at e;cases e;exact new
 ·rw[jKw hb] at e
  exact (x b u e).stay (fun c v _ q=>k c v q) (fun c q=>by rw[jKw (jV6 q hn)];exact q) fun c xs q=>by rw[jKw (jV6 q hn)];exact q
end
def Rd (H:Hp) (a:Addr) (u:HO):Prop:=H a=some u\/∃o,H a=some (.frz o u)
theorem Rd.ok {P:Program} {w:World} {H:Hp} {h:Heap} {a:Addr} {u:HO} (r:Rd H a u) (x:HOk P w H h):ObjOk P w H h a u:=by
 rcases r with r | ⟨o,r⟩
 ·exact x a u r
 ·obtain⟨_,q⟩:=x a _ r
  exact q
noncomputable def Mut:Option HO->Prop
 | some (.lst _)=>True
 | some (.dK _)=>True
 | some (.dT _)=>True
 | some (.set _ _)=>True
 | some (.ins _ _ _)=>True
 | some (.ext _)=>True
 | _=>False
section
variable {P:Program} {w:World} {H:Hp} {h h':Heap} {x e:Addr} {o':HO}
theorem HOk.write (ok:HOk P w H h) (mu:Mut (H x)) (he:e=x\/H e=some (.own x)) (k:∀b u,b≠e->h.get? b=some u->h'.get? b=some u) (heo:∃u,h'.get? e=some u)
  (new:ObjOk P w (upd H x o') h' x o'):HOk P w (upd H x o') h':=fun b u q=>by
 have nown:∀c y,H c=some (.own y)->c≠x:=fun c y r z=>by subst z;rw[r] at mu;exact mu
 have ntup:∀c xs,H c=some (.tup xs)->c≠x:=fun c xs r z=>by subst z;rw[r] at mu;exact mu
 by_cases hb:b=x
 ·subst hb;rw[jQ6] at q;cases q;exact new
 ·rw[jKw hb] at q
  by_cases hbe:b=e
  ·have q':H b=some (.own x):=by
    rcases he with z | z
    ·exact absurd (hbe.trans z) hb
    ·rw[hbe];exact z
   rw[q] at q';cases q'
   obtain⟨v,hv⟩:=heo
   exact⟨v,by rw[hbe];exact hv⟩
  ·refine (ok b u q).stay (fun c v hc r=>k c v ?_ r) (fun c r=>by rw[jKw (nown c b r)];exact r) fun c xs r=>by rw[jKw (ntup c xs r)];exact r
   rcases hc with rfl | hc
   ·exact hbe
   ·rintro rfl
    rcases he with z | z
    ·exact nown c b hc z
    ·rw[hc] at z;cases z;exact hb rfl
end
structure Un (fs ex:List Addr) (H H':Hp) (h h':Heap):Prop where
 keep:∀b o,h.get? b=some o->H b=none->b∉fs->b∉ex->h'.get? b=some o
 slot:∀b o,h.get? b=some o->H b=none->b∈fs->b∉ex->∃sl,h'.get? b=some {o with slots:=sl}
 free:∀b o,h.get? b=some o->H b=none->b∉ex->H' b=none
 there:∀b o,h.get? b=some o->b∉ex->∃o',h'.get? b=some o'
 tups:∀b xs,H b=some (.tup xs)->H' b=some (.tup xs)
 frzs:∀b o u,H b=some (.frz o u)->H' b=some (.frz o u)
 tbls:∀b ps,H b=some (.tbl ps)->∃more,H' b=some (.tbl (ps++more))
section
variable {fs fs' ex ex':List Addr} {H H1 H2:Hp} {h h1 h2 h':Heap} {a x e:Addr} {o:HO}
theorem Un.any (u:Un fs ex H H1 h h1) {b:Addr} {ob:Obj} (q:h.get? b=some ob) (n:H b=none) (hx:b∉ex):∃sl,h1.get? b=some {ob with slots:=sl}:=by
 by_cases hb:b∈fs
 ·exact u.slot b ob q n hb hx
 ·exact⟨ob.slots,u.keep b ob q n hb hx⟩
theorem Un.kept (k:∀b u,h.get? b=some u->h'.get? b=some u):Un fs ex H H h h':=
 ⟨fun b ob q _ _ _=>k b ob q,fun b ob q _ _ _=>⟨ob.slots,k b ob q⟩,fun _ _ _ n _=>n,fun b ob q _=>⟨ob,k b ob q⟩,fun _ _ q=>q,fun _ _ _ q=>q,fun _ ps q=>⟨#[],by rw[q];simp⟩⟩
theorem Un.refl:Un fs ex H H h h:=Un.kept fun _ _ q=>q
theorem Un.laid (k:∀b u,h.get? b=some u->h'.get? b=some u) (hp:h.objs.size<=a) (hn:H a=none):Un fs ex H (upd H a o) h h' where
 keep:=fun b u q _ _ _=>k b u q
 slot:=fun b u q _ _ _=>⟨u.slots,k b u q⟩
 free:=fun b u q n _=>by rw[jKw (lJj (lJv (Heap.lt_size q) hp))];exact n
 there:=fun b u q _=>⟨u,k b u q⟩
 tups:=fun b xs q=>by rw[jKw (jV6 q hn)];exact q
 frzs:=fun b u xs q=>by rw[jKw (jV6 q hn)];exact q
 tbls:=fun b ps q=>⟨#[],by rw[jKw (jV6 q hn),q];simp⟩
theorem Un.write (mu:Mut (H x)) (he:e=x\/H e=some (.own x)) (k:∀b u,b≠e->h.get? b=some u->h'.get? b=some u) (heo:∃u,h'.get? e=some u):Un fs ex H (upd H x o) h h':=by
 have hx:∀b,H b=none->b≠x:=fun b n z=>by subst z;rw[n] at mu;exact mu
 have hb:∀b,H b=none->b≠e:=fun b n z=>by
  subst z
  rcases he with r | r
  ·exact hx b n r
  ·rw[n] at r;cases r
 have hm:∀b u,H b=some u->¬ Mut (some u)->b≠x:=fun b u q nm z=>by subst z;rw[q] at mu;exact nm mu
 refine⟨fun b u q n _ _=>k b u (hb b n) q,fun b u q n _ _=>⟨u.slots,k b u (hb b n) q⟩,fun b u q n _=>by rw[jKw (hx b n)];exact n,fun b u q _=> ?_,
  fun b xs q=>by rw[jKw (hm b _ q fun z=>z)];exact q,fun b u xs q=>by rw[jKw (hm b _ q fun z=>z)];exact q,fun b ps q=>⟨#[],by rw[jKw (hm b _ q fun z=>z),q];simp⟩⟩
 by_cases hbe:b=e
 ·subst hbe;exact heo
 ·exact⟨u,k b u hbe q⟩
end
noncomputable def trk (h:Heap) (H:Hp):List Addr:=(List.range h.objs.size).filter fun a=>(H a).isSome
noncomputable def hidT (h:Heap) (H:Hp):Heap:=PySem.W.hideAll h (trk h H)
theorem hidT_size (h:Heap) (H:Hp):(hidT h H).objs.size=h.objs.size:=PySem.W.hideAll_size _ _
theorem hidT_get {h:Heap} {H:Hp} {b:Addr} {o:Obj} (e:h.get? b=some o) (n:H b=none):(hidT h H).get? b=some o:=
 PySem.W.hideAll_get _ e fun hm=>by
  have q:(H b).isSome=true:=(lKu.mp hm).2
  rw[n] at q;simp at q
theorem of_hidT {h:Heap} {H:Hp} {b:Addr} {o:Obj} (e:(hidT h H).get? b=some o):h.get? b=some o/\H b=none:=by
 have e':h.get? b=some o:=PySem.W.of_hideAll (trk h H) e
 refine⟨e',?_⟩
 cases q:H b with
 | none=>rfl
 | some x=>
  have hm:b∈trk h H:=lKu.mpr ⟨lJt.mpr (Heap.lt_size e'),by simp[q]⟩
  have z:(hidT h H).get? b=none:=PySem.W.hideAll_none (trk h H) hm
  rw[z] at e;cases e
noncomputable def allNews (g h:Heap) (L:Addr):List (Addr×Obj):=(List.range h.objs.size).filterMap fun a=>if a=L\/(g.get? a).isSome=true then none else (h.get? a).map fun o=>(a,o)
noncomputable def rest (g h:Heap) (L d:Addr):List (Addr×Obj):=(allNews g h L).filter fun p=>decide (p.1≠d)
structure Mod (K:PySem.W.Frag) (mg:Str->Option Value) (base:Heap):Prop where
 kin:K.In base
 glob:base.Ns mainGlobals mg
 blt:∃mb,base.Ns builtinsNs mb/\∀x:Str,x≠"__name__"->mb x=bootBuiltins x
 nolimit:base.NoLimit
structure Cx where
 prog:Program
 w:World
 K:PySem.W.Frag
 mg:Str->Option Value
 base:Heap
 A:Around
 N:List Str
 s₀:Shared
 H₀:Hp
 env:Env
 outer:List Env
 stack:List Env
 ex:List Addr
 fn:Str->Bool
 calm:Bool
 pn:List (Addr×Obj)
 xe:Value->Shared->Prop
noncomputable def frs (l:List Env):List Addr:=l.filterMap (·.frame)
noncomputable abbrev Cx.fs (X:Cx):List Addr:=frs X.outer
def Vis (sc:Scope) (x:Str):Prop:=sc.names.lookup x=some .local\/sc.names.lookup x=some .cell\/sc.names.lookup x=some .free
def Loc (sc:Scope) (x:Str):Prop:=sc.names.lookup x=some .local\/sc.names.lookup x=some .cell
def Look (env:Env) (h:Heap) (m:Str->Option Value) (x:Str) (u:Value):Prop:=
 (env.kindOf x=some .local/\m x=some u)\/((env.kindOf x=some .cell\/env.kindOf x=some .free)/\∃c,env.cells.lookup x=some c/\h.IsCell c (some u))
structure Cx.Ok (X:Cx):Prop where
 mod:Mod X.K X.mg X.base
 kind:X.env.scope.kind= .function
 glob:X.env.globals=mainGlobals
 blt:X.env.builtins=builtinsNs
 above:X.s₀.heap.objs.size<=X.env.locals
 inj:∀x y c,X.env.cells.lookup x=some c->X.env.cells.lookup y=some c->x=y
 has:∀x,(X.env.kindOf x=some .cell\/X.env.kindOf x=some .free)->∃c,X.env.cells.lookup x=some c
 cab:∀x c,X.fn x=true->X.env.cells.lookup x=some c->X.s₀.heap.objs.size<=c
 hd:X.calm=true->X.A.handled=none
 gd:X.calm=true->X.A.guards=some []
 frames:X.A.frames=some X.stack
 stk:X.stack=X.outer\/(X.stack=X.env::X.outer/\X.env.frame=some X.env.locals)
 exf:∀b∈X.ex,b≠X.env.locals/\∀x c,X.env.cells.lookup x=some c->c≠b
 bs:∀b o,X.base.get? b=some o->X.s₀.heap.get? b=some o/\X.H₀ b=none
 bsz:X.base.objs.size<=X.s₀.heap.objs.size
 noex:∀b o,X.base.get? b=some o->b∉X.ex
 exfs:∀b∈X.ex,b∉X.fs
 funs:X.s₀.heap.FunFrames X.base X.outer
 frf:∀b∈X.fs,X.H₀ b=none
structure Inv (X:Cx) (pins:List (Addr×Obj)) (σ:List (Option V)) (H:Hp) (s:Shared):Prop where
 ok:X.Ok
 os:s.os=X.s₀.os
 bare:AllBare s.gens
 base:Un X.fs X.ex X.H₀ H X.s₀.heap s.heap
 loc:∃m,s.heap.Ns X.env.locals m/\∀(i:Nat) (x:Str) (v:V),X.N[i]? =some x->σ[i]? =some (some v)->Vis X.env.scope x->∃u,RelV v u/\Look X.env s.heap m x u
 cell:∀x c,X.env.cells.lookup x=some c->∃v,s.heap.IsCell c v
 free:H X.env.locals=none
 freeC:∀x c,X.env.cells.lookup x=some c->H c=none
 pin:∀p∈X.pn++pins,s.heap.get? p.1=some p.2/\H p.1=none/\p.1≠X.env.locals/\p.1∉X.fs/\∀v,p.2.data≠ .cell v
 hok:HOk X.prog X.w H s.heap
 len:σ.length=X.N.length
section
variable {X:Cx} {pins:List (Addr×Obj)} {σ:List (Option V)} {H H':Hp} {s:Shared} {h':Heap}
theorem Cx.Ok.nofr (ok:X.Ok) {b:Addr} {o:Obj} (e:X.base.get? b=some o):b∉X.fs:=fun hb=>by
 have:=(ok.funs.mem hb).1
 rw[e] at this;cases this
theorem Inv.bs (I:Inv X pins σ H s):∀b o,X.base.get? b=some o->s.heap.get? b=some o/\H b=none:=fun b o e=>
 ⟨I.base.keep b o (I.ok.bs b o e).1 (I.ok.bs b o e).2 (I.ok.nofr e) (I.ok.noex b o e),I.base.free b o (I.ok.bs b o e).1 (I.ok.bs b o e).2 (I.ok.noex b o e)⟩
theorem Inv.bk (I:Inv X pins σ H s):∀b o,X.base.get? b=some o->s.heap.get? b=some o:=fun b o e=>(I.bs b o e).1
theorem Inv.mod (I:Inv X pins σ H s):Mod X.K X.mg X.base:=I.ok.mod
theorem Inv.kIn (I:Inv X pins σ H s):X.K.In s.heap:=I.ok.mod.kin.keeps I.bk
theorem Inv.lt (I:Inv X pins σ H s):X.env.locals<s.heap.objs.size:=let ⟨_,hn,_⟩:=I.loc;hn.lt
theorem Inv.sz (I:Inv X pins σ H s):X.s₀.heap.objs.size<=s.heap.objs.size:=lJo I.ok.above (Nat.le_of_lt I.lt)
theorem Inv.nofs (I:Inv X pins σ H s) {a:Addr} (h:s.heap.objs.size<=a):a∉X.fs:=fun hb=>by
 obtain⟨_,o,ho,_⟩:=I.ok.funs.mem hb
 exact absurd (lJv (Heap.lt_size ho) (lJo I.sz h)) (lK0 _)
theorem Inv.cne (I:Inv X pins σ H s):∀x c,X.env.cells.lookup x=some c->c≠X.env.locals:=fun x c e z=>by
 obtain⟨v,o,ho,hd⟩:=I.cell x c e
 obtain⟨m,⟨o',es,ep,ho',hd',_⟩,_⟩:=I.loc
 rw[z,ho'] at ho;cases ho;rw[hd'] at hd;cases hd
theorem Inv.funs (I:Inv X pins σ H s):s.heap.FunFrames X.base X.outer:=by
 have all:∀(l:List Env),(∀b∈frs l,b∈X.fs)->X.s₀.heap.FunFrames X.base l->s.heap.FunFrames X.base l:=by
  intro l
  induction l with
  | nil=>intro _ _;trivial
  | cons env r ih=>
   intro hs hl
   obtain⟨hk,⟨L,o,hf,hn,ho,hd⟩,hr⟩:=hl
   have hL:L∈X.fs:=hs L (by unfold frs;rw[lK4,hf];exact lKb)
   obtain⟨sl,e⟩:=I.base.slot L o ho (I.ok.frf L hL) hL fun z=>I.ok.exfs L z hL
   exact⟨hk,⟨L,_,hf,hn,e,hd⟩,ih (fun b hb=>hs b (by unfold frs;rw[lK4,hf];exact lKa _ hb)) hr⟩
 exact all X.outer (fun _ hb=>hb) I.ok.funs
theorem Inv.stack (I:Inv X pins σ H s):s.heap.FunFrames X.base X.stack:=by
 rcases I.ok.stk with e | ⟨e,hf⟩
 ·rw[e];exact I.funs
 ·rw[e]
  obtain⟨m,hn,_⟩:=I.loc
  refine .cons (by rw[I.ok.kind];decide) hf hn ?_ I.funs
  exact Heap.get?_none_of_le (lJo I.ok.bsz I.ok.above)
theorem Inv.stkSub (I:Inv X pins σ H s):∀b∈frs X.stack,b∈X.env.locals::X.fs:=fun b hb=>by
 rcases I.ok.stk with e | ⟨e,hf⟩
 ·rw[e] at hb;exact lKa _ hb
 ·rw[e] at hb
  unfold frs at hb
  rw[lK4,hf] at hb
  exact hb
theorem Inv.stkFree (I:Inv X pins σ H s):∀b∈frs X.stack,H b=none:=fun b hb=>by
 rcases lJk.mp (I.stkSub b hb) with e | hb
 ·rw[e];exact I.free
 ·obtain⟨_,o,ho,_⟩:=I.ok.funs.mem hb
  exact I.base.free b o ho (I.ok.frf b hb) fun z=>I.ok.exfs b z hb
theorem Inv.step {g':Array GenState} {t':Nat} {d':Drawn} {ch:List Addr} (I:Inv X pins σ H s)
  (hch:∀b∈ch,(b∈X.ex\/X.s₀.heap.objs.size<=b)/\b≠X.env.locals/\(∀x c,X.env.cells.lookup x=some c->c≠b)/\∀p∈X.pn++pins,p.1≠b)
  (keep:∀b o,b≠X.env.locals->b∉X.fs->b∉ch->s.heap.get? b=some o->H b=none->h'.get? b=some o)
  (slot:∀b o,b≠X.env.locals->b∈X.fs->b∉ch->s.heap.get? b=some o->H b=none->∃sl,h'.get? b=some {o with slots:=sl}) (free:∀b o,b∉ch->s.heap.get? b=some o->H b=none->H' b=none)
  (there:∀b o,b∉ch->s.heap.get? b=some o->∃o',h'.get? b=some o')
  (tups:∀b xs,H b=some (.tup xs)->H' b=some (.tup xs)) (frzs:∀b o u,H b=some (.frz o u)->H' b=some (.frz o u)) (tbls:∀b ps,H b=some (.tbl ps)->∃more,H' b=some (.tbl (ps++more)))
  (ns:∀m,s.heap.Ns X.env.locals m->h'.Ns X.env.locals m) (hok:HOk X.prog X.w H' h') (hg:AllBare g'):
  Inv X pins σ H' {s with heap:=h',gens:=g',drawn:=d',toks:=t'}:=by
 have neL:∀b o,X.s₀.heap.get? b=some o->b≠X.env.locals:=fun b o e=>lJj (lJv (Heap.lt_size e) I.ok.above)
 have neC:∀b o,X.s₀.heap.get? b=some o->b∉X.ex->b∉ch:=fun b o e hx hb=>by
  rcases (hch b hb).1 with z | z
  ·exact hx z
  ·exact absurd (lJv (Heap.lt_size e) z) (lK0 _)
 have cellK:∀x c,X.env.cells.lookup x=some c->∀v,s.heap.IsCell c v->h'.IsCell c v:=fun x c e v ⟨o,ho,hd⟩=>by
  have nch:c∉ch:=fun z=>(hch c z).2.2.1 x c e rfl
  by_cases hc:c∈X.fs
  ·obtain⟨sl,q⟩:=slot c o (I.cne x c e) hc nch ho (I.freeC x c e)
   exact⟨_,q,hd⟩
  ·exact⟨o,keep c o (I.cne x c e) hc nch ho (I.freeC x c e),hd⟩
 refine⟨I.ok,I.os,hg,⟨fun b o e n hb hx=> ?_,fun b o e n hb hx=> ?_,fun b o e n hx=> ?_,fun b o e hx=> ?_,fun b xs e=>tups b xs (I.base.tups b xs e),fun b o xs e=>frzs b o xs (I.base.frzs b o xs e),fun b ps e=> ?_⟩,?_,fun x c e=> ?_,?_,fun x c e=> ?_,fun p hp=> ?_,hok,I.len⟩
 ·exact keep b o (neL b o e) hb (neC b o e hx) (I.base.keep b o e n hb hx) (I.base.free b o e n hx)
 ·obtain⟨sl,e1⟩:=I.base.slot b o e n hb hx
  obtain⟨sl',e2⟩:=slot b _ (neL b o e) hb (neC b o e hx) e1 (I.base.free b o e n hx)
  exact⟨sl',e2⟩
 ·obtain⟨o',e1⟩:=I.base.there b o e hx
  exact free b o' (neC b o e hx) e1 (I.base.free b o e n hx)
 ·obtain⟨o',e1⟩:=I.base.there b o e hx
  exact there b o' (neC b o e hx) e1
 ·obtain⟨m1,e1⟩:=I.base.tbls b ps e
  obtain⟨m2,e2⟩:=tbls b _ e1
  exact⟨m1++m2,by rw[e2,Array.append_assoc]⟩
 ·obtain⟨m,hn,hl⟩:=I.loc
  refine⟨m,ns m hn,fun i x v e1 e2 e3=> ?_⟩
  obtain⟨u,r,l⟩:=hl i x v e1 e2 e3
  refine⟨u,r,?_⟩
  rcases l with l | ⟨k,c,e,z⟩
  ·exact .inl l
  ·exact .inr ⟨k,c,e,cellK x c e _ z⟩
 ·obtain⟨v,z⟩:=I.cell x c e
  exact⟨v,cellK x c e v z⟩
 ·obtain⟨m,⟨o,_,_,ho,_⟩,_⟩:=I.loc
  exact free _ o (fun z=>(hch _ z).2.1 rfl) ho I.free
 ·obtain⟨v,o,ho,hd⟩:=I.cell x c e
  exact free c o (fun z=>(hch c z).2.2.1 x c e rfl) ho (I.freeC x c e)
 ·obtain⟨e,n,ne,nf,d⟩:=I.pin p hp
  have nch:p.1∉ch:=fun z=>(hch p.1 z).2.2.2 p hp rfl
  exact⟨keep p.1 p.2 ne nf nch e n,free p.1 p.2 nch e n,ne,nf,d⟩
theorem Inv.un {t':Nat} (I:Inv X pins σ H s) (u:Un X.fs [] H H' s.heap h') (hok:HOk X.prog X.w H' h'):Inv X pins σ H' {s with heap:=h',toks:=t'}:=by
 obtain⟨m,⟨o,es,ep,ho,r⟩,_⟩:=id I.loc
 obtain⟨sl,hL⟩:=u.any ho I.free (by simp)
 exact I.step (g':=s.gens) (d':=s.drawn) (ch:=[]) (fun _ z=>nomatch z) (fun b o _ hb _ e n=>u.keep b o e n hb (by simp)) (fun b o _ hb _ e n=>u.slot b o e n hb (by simp)) (fun b o _ e n=>u.free b o e n (by simp)) (fun b o _ e=>u.there b o e (by simp)) u.tups u.frzs u.tbls (fun m' hm=>by
  obtain⟨o',es',ep',ho',r'⟩:=hm
  rw[ho] at ho';cases ho'
  exact⟨_,es',ep',hL,r'⟩) hok I.bare
theorem Inv.call {g':Array GenState} {t':Nat} {d':Drawn} {ch:List Addr} (I:Inv X pins σ H s) (u:Un (frs X.stack) ch H H' s.heap h') (hok:HOk X.prog X.w H' h') (hg:AllBare g')
  (hch:∀b∈ch,(b∈X.ex\/X.s₀.heap.objs.size<=b)/\b≠X.env.locals/\(∀x c,X.env.cells.lookup x=some c->c≠b)/\∀p∈X.pn++pins,p.1≠b):
  Inv X pins σ H' {s with heap:=h',gens:=g',drawn:=d',toks:=t'}:=by
 obtain⟨m,⟨o,es,ep,ho,r⟩,_⟩:=id I.loc
 obtain⟨sl,hL⟩:=u.any ho I.free fun z=>(hch _ z).2.1 rfl
 exact I.step (ch:=ch) hch (fun b o hL hb hc e n=>u.keep b o e n (fun z=>(lJk.mp (I.stkSub b z)).elim hL hb) hc) (fun b o _ _ hc e n=>u.any e n hc) (fun b o hc e n=>u.free b o e n hc) (fun b o hc e=>u.there b o e hc) u.tups u.frzs u.tbls (fun m' hm=>by
  obtain⟨o',es',ep',ho',r'⟩:=hm
  rw[ho] at ho';cases ho'
  exact⟨_,es',ep',hL,r'⟩) hok hg
theorem Inv.turned {t':Nat} {it:Addr} (I:Inv X pins σ H s) (k:∀b o,b≠it->s.heap.get? b=some o->h'.get? b=some o) (hn:H it=none) (hL:it≠X.env.locals)
  (h1:it∈X.ex\/X.s₀.heap.objs.size<=it) (h2:∀x c,X.env.cells.lookup x=some c->c≠it) (h3:∀p∈X.pn++pins,p.1≠it):Inv X pins σ H {s with heap:=h',toks:=t'}:=by
 have nit:∀b u,H b=some u->b≠it:=fun b u e z=>by rw[z,hn] at e;cases e
 refine I.step (g':=s.gens) (d':=s.drawn) (ch:=[it]) (fun b hb=> ?_) (fun b o _ _ hc e _=>k b o (fun z=>hc (by simp[z])) e) (fun b o _ _ hc e _=>⟨o.slots,k b o (fun z=>hc (by simp[z])) e⟩) (fun _ _ _ _ n=>n)
  (fun b o hc e=>⟨o,k b o (fun z=>hc (by simp[z])) e⟩) (fun _ _ e=>e) (fun _ _ _ e=>e) (fun b ps e=>⟨#[],by rw[e];simp⟩) (fun m hm=> ?_) (fun b u e=> ?_) I.bare
 ·have e:b=it:=by simpa using hb
  subst e
  exact⟨h1,hL,h2,h3⟩
 ·obtain⟨o,es,ep,ho,r⟩:=hm
  exact⟨o,es,ep,k _ o (Ne.symm hL) ho,r⟩
 ·refine (I.hok b u e).stay (fun c v hc q=>k c v ?_ q) (fun _ q=>q) fun _ _ q=>q
  rcases hc with z | z
  ·rw[z];exact nit b u e
  ·exact nit c _ z
theorem Inv.tok (I:Inv X pins σ H s) (t:Nat):Inv X pins σ H {s with toks:=t}:=I.un (h':=s.heap) (t':=t) Un.refl I.hok
theorem Inv.kept {t':Nat} (I:Inv X pins σ H s) (k:∀b u,s.heap.get? b=some u->h'.get? b=some u):Inv X pins σ H {s with heap:=h',toks:=t'}:=I.un (Un.kept k) (I.hok.kept k)
theorem Inv.laid {a:Addr} {o:HO} {t':Nat} (I:Inv X pins σ H s) (k:∀b u,s.heap.get? b=some u->h'.get? b=some u) (hp:s.heap.objs.size<=a) (new:ObjOk X.prog X.w (upd H a o) h' a o):
  Inv X pins σ (upd H a o) {s with heap:=h',toks:=t'}:=I.un (Un.laid k hp (I.hok.fresh hp)) (I.hok.laid k hp new)
theorem Inv.write {x e:Addr} {o:HO} {t':Nat} (I:Inv X pins σ H s) (mu:Mut (H x)) (he:e=x\/H e=some (.own x)) (k:∀b u,b≠e->s.heap.get? b=some u->h'.get? b=some u) (heo:∃u,h'.get? e=some u)
  (new:ObjOk X.prog X.w (upd H x o) h' x o):Inv X pins σ (upd H x o) {s with heap:=h',toks:=t'}:=I.un (Un.write mu he k heo) (I.hok.write mu he k heo new)
theorem Inv.weak {σ':List (Option V)} (I:Inv X pins σ H s) (hl:σ'.length=σ.length) (w:∀(i:Nat) v,σ'[i]? =some (some v)->σ[i]? =some (some v)):Inv X pins σ' H s:=
 ⟨I.ok,I.os,I.bare,I.base,let ⟨m,hn,hl'⟩:=I.loc;⟨m,hn,fun i x v e1 e2 e3=>hl' i x v e1 (w i v e2) e3⟩,I.cell,I.free,I.freeC,I.pin,I.hok,hl.trans I.len⟩
theorem Inv.pins_of {pins':List (Addr×Obj)} (I:Inv X pins σ H s) (h:∀p∈pins',s.heap.get? p.1=some p.2/\H p.1=none/\p.1≠X.env.locals/\p.1∉X.fs/\∀v,p.2.data≠ .cell v):Inv X pins' σ H s:=
 ⟨I.ok,I.os,I.bare,I.base,I.loc,I.cell,I.free,I.freeC,fun p hp=>(lJu.mp hp).elim (fun z=>I.pin p (lK5 _ z)) (h p),I.hok,I.len⟩
theorem nodup_ix {N:List Str} (hN:N.Nodup) {i j:Nat} {x:Str} (a:N[i]? =some x) (b:N[j]? =some x):i=j:=by
 obtain⟨h1,e1⟩:=lJa.mp a
 obtain⟨h2,e2⟩:=lJa.mp b
 exact (List.getElem_inj hN).mp (e1.trans e2.symm)
theorem store_ok2 {M:Model} {A:Around} {E:Value->Shared->Prop} {i:Nat} {x:Str} {v:V} {u:Value} {Q:Unit->Shared->Prop} (I:Inv X pins σ H s) (hN:X.N.Nodup) (hi:X.N[i]? =some x) (hx:Loc X.env.scope x) (r:RelV v u)
  (h:∀s',Inv X pins (σ.set i (some v)) H s'->(∃a,Heap.SameBut a s.heap s'.heap/\(a=X.env.locals\/X.env.cells.lookup x=some a))->Q () s') (hf:X.fn x=true\/X.env.scope.names.lookup x=some .local:=by first | exact .inl rfl | exact .inr rfl | assumption):wpAny M A (storeName X.env x u) Q E s:=by
 obtain⟨m,hn,hl⟩:=id I.loc
 have hcls:(X.env.scope.kind == .class||(X.env.scope.kind == .module&&X.env.locals != X.env.globals))=false:=by rw[I.ok.kind];rfl
 have hiσ:i<σ.length:=by rw[I.len];exact (lJa.mp hi).1
 have cne:=I.cne
 have tracked:∀ {a:Addr} {h':Heap},(∃o,s.heap.get? a=some o/\H a=none)->Heap.SameBut a s.heap h'->HOk X.prog X.w H h':=fun {a h'} ha hs b ob e=>by
  obtain⟨_,_,hfree⟩:=ha
  refine (I.hok b ob e).stay (fun c w' hc q=>(hs.2 c ?_).trans q) (fun _ q=>q) fun _ _ q=>q
  rintro rfl
  rcases hc with rfl | hc
  ·rw[hfree] at e;cases e
  ·rw[hfree] at hc;cases hc
 rcases hx with hk | hk
 ·refine wpAny_storeName_local hk hn (fun h' hn' hs=> ?_) hcls
  obtain⟨oL,_,_,hoL,_⟩:=id hn
  refine h _ ⟨I.ok,I.os,I.bare,⟨fun b o e n hb hx=> ?_,fun b o e n hb hx=> ?_,I.base.free,fun b o e hx=> ?_,I.base.tups,I.base.frzs,I.base.tbls⟩,⟨_,hn',fun j y v' e1 e2 e3=> ?_⟩,fun y c e=> ?_,I.free,I.freeC,fun p hp=> ?_,tracked ⟨oL,hoL,I.free⟩ hs,by simpa using I.len⟩ ⟨_,hs,.inl rfl⟩
  ·exact (hs.2 b (lJj (lJv (Heap.lt_size e) I.ok.above))).trans (I.base.keep b o e n hb hx)
  ·obtain⟨sl,e1⟩:=I.base.slot b o e n hb hx
   exact⟨sl,(hs.2 b (lJj (lJv (Heap.lt_size e) I.ok.above))).trans e1⟩
  ·obtain⟨o',e1⟩:=I.base.there b o e hx
   exact⟨o',(hs.2 b (lJj (lJv (Heap.lt_size e) I.ok.above))).trans e1⟩
  ·by_cases hj:j=i
   ·subst hj
    rw[hi] at e1;cases e1
    rw[lJ1 hiσ] at e2
    cases e2
    exact⟨u,r,.inl ⟨hk,by simp⟩⟩
   ·rw[lJx (Ne.symm hj)] at e2
    obtain⟨u',r',q⟩:=hl j y v' e1 e2 e3
    refine⟨u',r',?_⟩
    rcases q with ⟨k,e⟩ | ⟨k,c,e,z⟩
    ·refine .inl ⟨k,?_⟩
     have:y≠x:=fun e=>hj (nodup_ix hN e1 (e▸hi))
     simp[this,e]
    ·exact .inr ⟨k,c,e,z.sameBut hs (cne y c e)⟩
  ·obtain⟨w',z⟩:=I.cell y c e
   exact⟨w',z.sameBut hs (cne y c e)⟩
  ·obtain⟨e,n,ne,nf,d⟩:=I.pin p hp
   exact⟨(hs.2 p.1 ne).trans e,n,ne,nf,d⟩
 ·have hfn:X.fn x=true:=by
   rcases hf with z | z
   ·exact z
   ·rw[z] at hk;cases hk
  obtain⟨c,hc⟩:=I.ok.has x (.inl hk)
  obtain⟨w',z⟩:=I.cell x c hc
  refine wpAny_storeName_cell I.ok.kind hk hc z (fun h' hc' hs=> ?_)
  obtain⟨oc,hoc,hocd⟩:=id z
  refine h {s with heap:=h'} ⟨I.ok,I.os,I.bare,⟨fun b o e n hb hx=> ?_,fun b o e n hb hx=> ?_,I.base.free,fun b o e hx=> ?_,I.base.tups,I.base.frzs,I.base.tbls⟩,⟨m,hn.sameBut hs (Ne.symm (cne x c hc)),fun j y v' e1 e2 e3=> ?_⟩,fun y c' e=> ?_,I.free,I.freeC,fun p hp=> ?_,tracked ⟨oc,hoc,I.freeC x c hc⟩ hs,by simpa using I.len⟩ ⟨c,hs,.inr hc⟩
  ·exact (hs.2 b (lJj (lJv (Heap.lt_size e) (I.ok.cab x c hfn hc)))).trans (I.base.keep b o e n hb hx)
  ·obtain⟨sl,e1⟩:=I.base.slot b o e n hb hx
   exact⟨sl,(hs.2 b (lJj (lJv (Heap.lt_size e) (I.ok.cab x c hfn hc)))).trans e1⟩
  ·obtain⟨o',e1⟩:=I.base.there b o e hx
   exact⟨o',(hs.2 b (lJj (lJv (Heap.lt_size e) (I.ok.cab x c hfn hc)))).trans e1⟩
  ·by_cases hj:j=i
   ·subst hj
    rw[hi] at e1;cases e1
    rw[lJ1 hiσ] at e2
    cases e2
    exact⟨u,r,.inr ⟨.inl hk,c,hc,hc'⟩⟩
   ·rw[lJx (Ne.symm hj)] at e2
    obtain⟨u',r',q⟩:=hl j y v' e1 e2 e3
    refine⟨u',r',?_⟩
    rcases q with q | ⟨k,c',e,z'⟩
    ·exact .inl q
    ·refine .inr ⟨k,c',e,z'.sameBut hs ?_⟩
     rintro rfl
     exact hj (nodup_ix hN e1 (I.ok.inj _ _ _ e hc▸hi))
  ·by_cases hcc:c'=c
   ·subst hcc;exact⟨_,hc'⟩
   ·obtain⟨w2,z2⟩:=I.cell y c' e
    exact⟨w2,z2.sameBut hs hcc⟩
  ·obtain⟨e,n,ne,nf,d⟩:=I.pin p hp
   refine⟨(hs.2 p.1 ?_).trans e,n,ne,nf,d⟩
   intro q
   rw[q,hoc] at e
   have q':oc=p.2:=lJ0 e
   exact d w' (by rw[<-q'];exact hocd)
theorem jVl {M:Model} {A:Around} {E:Value->Shared->Prop} {i:Nat} {x:Str} {v:V} {u:Value} {Q:Unit->Shared->Prop} (I:Inv X pins σ H s) (hN:X.N.Nodup) (hi:X.N[i]? =some x) (hx:Loc X.env.scope x) (r:RelV v u)
  (h:∀s',Inv X pins (σ.set i (some v)) H s'->Q () s') (hf:X.fn x=true\/X.env.scope.names.lookup x=some .local:=by first | exact .inl rfl | exact .inr rfl | assumption):wpAny M A (storeName X.env x u) Q E s:=
 store_ok2 I hN hi hx r (fun s' I' _=>h s' I') hf
theorem Inv.call' {s':Shared} {ch:List Addr} (I:Inv X pins σ H s) (ho:s'.os=s.os) (u:Un (frs X.stack) ch H H' s.heap s'.heap) (hok:HOk X.prog X.w H' s'.heap) (hg:AllBare s'.gens)
  (hch:∀b∈ch,(b∈X.ex\/X.s₀.heap.objs.size<=b)/\b≠X.env.locals/\(∀x c,X.env.cells.lookup x=some c->c≠b)/\∀p∈X.pn++pins,p.1≠b):Inv X pins σ H' s':=by
 obtain⟨h',g',d',t',o'⟩:=s'
 have e:o'=s.os:=ho
 subst e
 exact I.call (g':=g') (t':=t') (d':=d') u hok hg hch
end
noncomputable abbrev XK:=Value->Option Addr->Hp->Prop
noncomputable abbrev St:=List (Option V)
noncomputable abbrev VK:=V->Hp->Prop
noncomputable abbrev TE:=St->Hp->VK->Prop
noncomputable abbrev TT:=St->Hp->(Bool->Hp->Prop)->Prop
noncomputable abbrev TA:=St->Hp->(List V->Hp->Prop)->Prop
structure Ends where
 nx:St->Hp->Prop
 rt:VK
 bk:St->Hp->Prop:=fun _ _=>False
 ct:St->Hp->Prop:=fun _ _=>False
noncomputable abbrev TS:=Ends->St->Hp->Prop
def EP (X:Cx) (pins:List (Addr×Obj)) (σ:St) (Q:VK) (u:Value) (s':Shared):Prop:=∃v H',Inv X pins σ H' s'/\RelV v u/\Q v H'
def TP (X:Cx) (pins:List (Addr×Obj)) (σ:St) (Q:Bool->Hp->Prop) (b:Bool) (s':Shared):Prop:=∃H',Inv X pins σ H' s'/\Q b H'
def SP (X:Cx) (pins:List (Addr×Obj)) (D:Ends) (f:Flow) (s':Shared):Prop:=
 match f with
 | .next=>∃ σ' H',Inv X pins σ' H' s'/\D.nx σ' H'
 | .brk=>∃ σ' H',Inv X pins σ' H' s'/\D.bk σ' H'
 | .cont=>∃ σ' H',Inv X pins σ' H' s'/\D.ct σ' H'
 | .ret u=>∃v σ' H',Inv X pins σ' H' s'/\RelV v u/\D.rt v H'
def PE (X:Cx) (e:Expr) (t:TE):Prop:=
 ∀(pins:List (Addr×Obj)) (s:Shared) (σ:St) (H:Hp) (Q:VK),Inv X pins σ H s->t σ H Q->wpAny (model X.prog X.w) X.A (eval e X.env) (EP X pins σ Q) X.xe s
def PW (X:Cx) (e:Expr) (t:TT):Prop:=
 ∀(whole:Sem Value) (pins:List (Addr×Obj)) (s:Shared) (σ:St) (H:Hp) (Q:Bool->Hp->Prop),Inv X pins σ H s->t σ H Q->wpAny (model X.prog X.w) X.A (isTrue e X.env whole) (TP X pins σ Q) X.xe s
def PSs (X:Cx) (st:List Stmt) (t:TS):Prop:=
 ∀(pins:List (Addr×Obj)) (s:Shared) (σ:St) (H:Hp) (D:Ends),Inv X pins σ H s->t D σ H->wpAny (model X.prog X.w) X.A (execs st X.env) (SP X pins D) X.xe s
theorem thn {α:Type} {t:Sem α} {Q Q':α->Shared->Prop} {M:Model} {A:Around} {E:Value->Shared->Prop} {s:Shared} (h:wpAny M A t Q E s) (hQ:∀a s,Q a s->Q' a s):wpAny M A t Q' E s:=wpAny_mono h hQ fun _ _ x=>x
section
variable {X:Cx}
noncomputable def tVar (i:Nat):TE:=fun σ H Q=>∃v,σ[i]? =some (some v)/\Q v H
noncomputable def tC (v:V):TE:=fun _ H Q=>Q v H
theorem pe_var {i:Nat} {x:Str} {pos:Pos} (hN:X.N[i]? =some x) (hv:Vis X.env.scope x) (hd:(x == ("__debug__":Str))=false:=by decide) (hcd:(x == ("__classdict__":Str))=false:=by decide):PE X (.Name x pos) (tVar i):=by
 intro pins s σ H Q I h
 obtain⟨v,e,h⟩:=h
 obtain⟨m,hn,hl⟩:=I.loc
 obtain⟨u,r,l⟩:=hl i x v hN e hv
 have fin:EP X pins σ Q u s:=⟨v,H,I,r,h⟩
 rcases l with ⟨hk,hm⟩ | ⟨hk,c,hc,hcell⟩
 ·exact wpAny_Name (wpAny_loadName_local I.ok.kind hk hn hm fin) hd
 ·rcases hk with hk | hk
  ·exact wpAny_Name (wpAny_loadName_cell I.ok.kind hk hc hcell fin) hd
  ·exact wpAny_Name (wpAny_loadName_free I.ok.kind hk hc hcell fin hcd) hd
theorem pe_int {i j pos}:PE X (.Constant (.int i) j pos) (tC (.int i)):=fun _ _ _ H _ I h=>wpAny_Constant_int ⟨.int i,H,I.tok _,⟨_,rfl⟩,h⟩
theorem pe_bl {b j pos}:PE X (.Constant (.bool b) j pos) (tC (.bl b)):=fun _ _ _ H _ I h=>Constant_bool ⟨.bl b,H,I,rfl,h⟩
theorem pe_non {j pos}:PE X (.Constant .none j pos) (tC .non):=fun _ _ _ H _ I h=>Constant_none ⟨.non,H,I,rfl,h⟩
theorem pe_str {x j pos}:PE X (.Constant (.str x) j pos) (tC (.str x)):=fun _ _ _ H _ I h=>Calls.Constant_str ⟨.str x,H,I.tok _,⟨_,rfl⟩,h⟩
def Gl (X:Cx) (x:Str):Prop:=X.env.kindOf x=some .globalImplicit
theorem ld_glob {E:Value->Shared->Prop} {pins:List (Addr×Obj)} {s:Shared} {σ:St} {H:Hp} {x:Str} {u:Value} {pos:Pos} {Q:Value->Shared->Prop} (I:Inv X pins σ H s) (hg:Gl X x) (hm:X.mg x=some u) (h:Q u s)
  (hd:(x == ("__debug__":Str))=false:=by decide):wpAny (model X.prog X.w) X.A (eval (.Name x pos) X.env) Q E s:=
 Calls.Name_function_global I.ok.kind hg (Calls.loadGlobal_global (by rw[I.ok.glob];exact I.mod.glob.keeps I.bk) hm h) hd
theorem jXr {E:Value->Shared->Prop} {pins:List (Addr×Obj)} {s:Shared} {σ:St} {H:Hp} {x:Str} {u:Value} {pos:Pos} {Q:Value->Shared->Prop} (I:Inv X pins σ H s) (hg:Gl X x) (hm:X.mg x=none) (hv:bootBuiltins x=some u) (h:Q u s)
  (hn:x≠"__name__":=by decide) (hd:(x == ("__debug__":Str))=false:=by decide):wpAny (model X.prog X.w) X.A (eval (.Name x pos) X.env) Q E s:=by
 obtain⟨mb,h1,h2⟩:=I.mod.blt
 exact Calls.Name_function_global I.ok.kind hg (Calls.loadGlobal_builtin (by rw[I.ok.glob];exact I.mod.glob.keeps I.bk) hm (by rw[I.ok.blt];exact h1.keeps I.bk) ((h2 x hn).trans hv) h) hd
theorem pe_bltn {x:Str} {v:V} {u:Value} {pos:Pos} (hg:Gl X x) (hm:X.mg x=none) (hv:bootBuiltins x=some u) (r:RelV v u) (hn:x≠"__name__":=by decide) (hd:(x == ("__debug__":Str))=false:=by decide):PE X (.Name x pos) (tC v):=
 fun _ _ _ H _ I h=>jXr I hg hm hv ⟨v,H,I,r,h⟩ hn hd
variable {a b:Expr} {ta tb:TE} {pos:Pos}
noncomputable def tB (t:TE):TT:=fun σ H Q=>t σ H fun x H1=>∃c,x= .bl c/\Q c H1
variable {tA tB':TT} {rest:List Expr}
noncomputable def tAnd (t u:TT):TT:=fun σ H Q=>t σ H fun c H1=>if c=true then u σ H1 Q else Q false H1
noncomputable def tOr (t u:TT):TT:=fun σ H Q=>t σ H fun c H1=>if c=true then Q true H1 else u σ H1 Q
noncomputable def tNot (t:TT):TT:=fun σ H Q=>t σ H fun c H1=>Q (!c) H1
noncomputable def kUn (ta tb:TE):TE:=fun σ H Q=>ta σ H fun x H1=>∃c,x= .bl c/\if c=true then tb σ H1 Q else Q (.bl false) H1
noncomputable def tOrV (ta tb:TE):TE:=fun σ H Q=>ta σ H fun x H1=>∃c,x= .bl c/\if c=true then Q (.bl true) H1 else tb σ H1 Q
noncomputable def tNotV (ta:TE):TE:=fun σ H Q=>ta σ H fun x H1=>∃c,x= .bl c/\Q (.bl (!c)) H1
noncomputable def tIf (t:TT) (ta tb:TE):TE:=fun σ H Q=>t σ H fun c H1=>if c=true then ta σ H1 Q else tb σ H1 Q
end
def SqL (K:PySem.W.Frag) (H:Hp) (a:Addr) (xs:List V):Prop:=
 Rd H a (.lst xs)\/
  ∃(o:Obj) (its:Array Value) (n:Nat),K.lookup a=some o/\o.cls= .type "list"/\o.dict=none/\o.data= .seq its n/\its.size<=sizeLine/\Vals xs its.toList
def SqT (K:PySem.W.Frag) (H:Hp) (a:Addr) (xs:List V):Prop:=
 Rd H a (.tup xs)\/
  ∃(o:Obj) (its:Array Value) (n:Nat),K.lookup a=some o/\o.cls= .type "tuple"/\o.data= .seq its n/\its.size<=sizeLine/\Vals xs its.toList
noncomputable def absV:Value->Option V
 | .none=>some .non
 | .bool b=>some (.bl b)
 | .int i _=>some (.int i)
 | .str x _=>some (.str x)
 | .bytes b _=>some (.byt b)
 | .float b _=>some (.flt b)
 | .ref a=>some (.ref a)
 | .type n=>some (.ty n)
 | _=>none
theorem RelV.abs {x:V} {u:Value} (r:RelV x u):absV u=some x:=by
 cases x with
 | non=>cases r;rfl
 | bl _=>cases r;rfl
 | int _=>obtain⟨t,rfl⟩:=r;rfl
 | str _=>obtain⟨t,rfl⟩:=r;rfl
 | byt _=>obtain⟨t,rfl⟩:=r;rfl
 | flt _=>obtain⟨t,rfl⟩:=r;rfl
 | ref _=>cases r;rfl
 | ty _=>cases r;rfl
theorem RelV.inj {x y:V} {u:Value} (r:RelV x u) (q:RelV y u):x=y:=lJ0 (r.abs.symm.trans q.abs)
theorem Vals.inj {xs ys:List V} {us:List Value} (h:Vals xs us) (g:Vals ys us):xs=ys:=by
 induction h generalizing ys with
 | nil=>(cases g;rfl)
 | cons r _ ih=>(cases g with | cons r' t'=>rw[r.inj r',ih t'])
section
variable {X:Cx} {pins:List (Addr×Obj)} {σ:St} {H:Hp} {s:Shared} {a:Addr} {xs ys:List V}
theorem SqL.of {K:PySem.W.Frag} (h:H a=some (.lst xs)):SqL K H a xs:= .inl (.inl h)
theorem SqT.of {K:PySem.W.Frag} (h:H a=some (.tup xs)):SqT K H a xs:= .inl (.inl h)
theorem Inv.list (I:Inv X pins σ H s) (h:SqL X.K H a xs):∃its:List Value,Vals xs its/\PlainL s.heap a its.toArray/\xs.length<=sizeLine:=by
 rcases h with h | ⟨o,its,n,hk,hc,hd,hs,hz,r⟩
 ·obtain⟨z,its,n,r,e⟩:=h.ok I.hok
  exact⟨its,r,⟨_,n,e,rfl,rfl,rfl⟩,z⟩
 ·refine⟨its.toList,r,⟨o,n,I.kIn a o hk,hc,hd,by simpa using hs⟩,?_⟩
  have e:=r.length
  simp only[Array.length_toList] at e
  omega
theorem Inv.tuple (I:Inv X pins σ H s) (h:SqT X.K H a xs):∃its:List Value,Vals xs its/\IsTup s.heap a its.toArray/\xs.length<=sizeLine:=by
 rcases h with h | ⟨o,its,n,hk,hc,hs,hz,r⟩
 ·obtain⟨z,its,r,p⟩:=h.ok I.hok
  exact⟨its,r,p.is,z⟩
 ·refine⟨its.toList,r,⟨o,I.kIn a o hk,hc,n,by simpa using hs⟩,?_⟩
  have e:=r.length
  simp only[Array.length_toList] at e
  omega
theorem Inv.list_inj (I:Inv X pins σ H s) (h:SqL X.K H a xs) (h':SqL X.K H a ys):xs=ys:=by
 obtain⟨its,r,⟨o,n,e,_,_,d⟩,_⟩:=I.list h
 obtain⟨its',r',⟨o',n',e',_,_,d'⟩,_⟩:=I.list h'
 rw[e] at e';cases e'
 rw[d] at d'
 injection d' with d1 _
 have:its=its':=by simpa using congrArg Array.toList d1
 subst this
 exact r.inj r'
theorem Inv.tuple_inj (I:Inv X pins σ H s) (h:SqT X.K H a xs) (h':SqT X.K H a ys):xs=ys:=by
 obtain⟨its,r,⟨o,e,_,n,d⟩,_⟩:=I.tuple h
 obtain⟨its',r',⟨o',e',_,n',d'⟩,_⟩:=I.tuple h'
 rw[e] at e';cases e'
 rw[d] at d'
 injection d' with d1 _
 have:its=its':=by simpa using congrArg Array.toList d1
 subst this
 exact r.inj r'
end
noncomputable abbrev Cx.wish (X:Cx) (E:Value->Shared->Prop):Cx:={X with xe:=E}
noncomputable abbrev Cx.nox (X:Cx):Cx:=X.wish fun _ _=>False
theorem Cx.Ok.wish {X:Cx} (ok:X.Ok) (E:Value->Shared->Prop):(X.wish E).Ok:=
 ⟨ok.mod,ok.kind,ok.glob,ok.blt,ok.above,ok.inj,ok.has,ok.cab,ok.hd,ok.gd,ok.frames,ok.stk,ok.exf,ok.bs,ok.bsz,ok.noex,ok.exfs,ok.funs,ok.frf⟩
theorem Cx.Ok.unwish {X:Cx} {E:Value->Shared->Prop} (ok:(X.wish E).Ok):X.Ok:=
 ⟨ok.mod,ok.kind,ok.glob,ok.blt,ok.above,ok.inj,ok.has,ok.cab,ok.hd,ok.gd,ok.frames,ok.stk,ok.exf,ok.bs,ok.bsz,ok.noex,ok.exfs,ok.funs,ok.frf⟩
section
variable {X:Cx} {pins:List (Addr×Obj)} {σ:St} {H:Hp} {s:Shared} {E:Value->Shared->Prop}
theorem Inv.wish (I:Inv X pins σ H s) (E:Value->Shared->Prop):Inv (X.wish E) pins σ H s:=⟨I.ok.wish E,I.os,I.bare,I.base,I.loc,I.cell,I.free,I.freeC,I.pin,I.hok,I.len⟩
theorem Inv.unwish (I:Inv (X.wish E) pins σ H s):Inv X pins σ H s:=⟨I.ok.unwish,I.os,I.bare,I.base,I.loc,I.cell,I.free,I.freeC,I.pin,I.hok,I.len⟩
theorem SP.unwish {D:Ends} {f:Flow} {s':Shared} (h:SP (X.wish E) pins D f s'):SP X pins D f s':=by
 cases f with
 | next=>obtain⟨σ',H',I,q⟩:=h;exact⟨σ',H',I.unwish,q⟩
 | brk=>obtain⟨σ',H',I,q⟩:=h;exact⟨σ',H',I.unwish,q⟩
 | cont=>obtain⟨σ',H',I,q⟩:=h;exact⟨σ',H',I.unwish,q⟩
 | ret u=>obtain⟨v,σ',H',I,r,q⟩:=h;exact⟨v,σ',H',I.unwish,r,q⟩
theorem PSs.nox {st:List Stmt} {t:TS} (h:PSs X.nox st t):PSs X st t:=fun pins s σ H D I hw=>
 wpAny_mono (h pins s σ H D (I.wish _) hw) (fun _ _ q=>q.unwish) fun _ _ z=>False.elim z
end
section
variable {X:Cx} {st:Stmt} {rest:List Stmt} {t u:TS} {e:Expr} {te:TE} {pos:Pos}
noncomputable def jK5:TS:=fun D σ H=>D.nx σ H
noncomputable def tSeq (t u:TS):TS:=fun D σ H=>t {D with nx:=u D} σ H
theorem Inv.quiet {pins:List (Addr×Obj)} {σ:St} {H:Hp} {s:Shared} (I:Inv X pins σ H s):interactive X.env=false:=by simp[interactive,I.ok.kind]
noncomputable def jUk (te:TE):TS:=fun D σ H=>te σ H fun _ H1=>D.nx σ H1
noncomputable def tRet (te:TE):TS:=fun D σ H=>te σ H D.rt
noncomputable def tRetN:TS:=fun D _ H=>D.rt .non H
noncomputable def tIfS (c:TT) (t u:TS):TS:=fun D σ H=>c σ H fun b H1=>if b=true then t D σ H1 else u D σ H1
end
noncomputable abbrev TG:=V->St->Hp->(St->Hp->Prop)->Prop
noncomputable abbrev TGs:=List V->St->Hp->(St->Hp->Prop)->Prop
noncomputable abbrev TSet:=V->V->V->Hp->(Hp->Prop)->Prop
def PSet (X:Cx) (t:TSet):Prop:=
 ∀(pins:List (Addr×Obj)) (s:Shared) (σ:St) (H:Hp) (o i v:V) (ov iv u:Value) (Q:Hp->Prop),Inv X pins σ H s->RelV o ov->RelV i iv->RelV v u->t o i v H Q->
  wpAny (model X.prog X.w) X.A (setItem ov iv u) (fun _ s'=>∃H',Inv X pins σ H' s'/\Q H') X.xe s
section
variable {X:Cx} {pos:Pos}
noncomputable def jJj (i:Nat):TG:=fun v σ H Q=>Q (σ.set i (some v)) H
noncomputable def gNil:TGs:=fun vs σ H Q=>vs=[]/\Q σ H
noncomputable def jKb (t:TG) (u:TGs):TGs:=fun vs σ H Q=>∃v r,vs=v::r/\t v σ H fun σ' H'=>u r σ' H' Q
noncomputable def gTup (K:PySem.W.Frag) (n:Nat) (t:TGs):TG:=fun v σ H Q=>∃a xs,v= .ref a/\SqT K H a xs/\xs.length=n/\t xs σ H Q
noncomputable def gSub (to ti:TE) (t:TSet):TG:=fun v σ H Q=>to σ H fun o H1=>ti σ H1 fun i H2=>t o i v H2 fun H3=>Q σ H3
noncomputable def tAsg (te:TE) (g:TG):TS:=fun D σ H=>te σ H fun x H1=>g x σ H1 D.nx
noncomputable def tPar (i j:Nat) (ta:TA):TS:=fun D σ H=>ta σ H fun vs H1=>∃v w,vs=[v,w]/\D.nx ((σ.set i (some v)).set j (some w)) H1
end
section
variable {X:Cx} {pos:Pos}
noncomputable def kQu (c:TT) (tb:TS):TS:=fun D σ H=>∃W:Nat->St->Hp->Prop,(∃m,W m σ H)/\∀m σ H,W m σ H->
 c σ H fun b H1=>if b=true then ∃N:St->Hp->Prop,(∀ σ' H',N σ' H'->∃m',m'<m/\W m' σ' H')/\tb {D with nx:=N,ct:=N,bk:=D.nx} σ H1 else D.nx σ H1
end
structure It where
 go:Nat->Hp->Prop
 yld:Nat->Hp->V->Hp->Prop
 stop:Nat->Hp->Prop
def FpOk (X:Cx) (pins:List (Addr×Obj)) (H:Hp) (b:Addr):Prop:=
 H b=none/\b≠X.env.locals/\b∉X.fs/\(b∈X.ex\/X.s₀.heap.objs.size<=b)/\(∀x c,X.env.cells.lookup x=some c->c≠b)/\∀p∈X.pn++pins,p.1≠b
theorem Inv.fpOk {X:Cx} {pins:List (Addr×Obj)} {σ:St} {H H':Hp} {s:Shared} {b:Addr} (I:Inv X pins σ H s) (hb:s.heap.objs.size<=b) (hn:H' b=none):FpOk X pins H' b:=by
 refine⟨hn,Nat.ne_of_gt (lJv I.lt hb),I.nofs hb,.inr (lJo I.sz hb),fun x c e z=> ?_,fun p hp z=> ?_⟩
 ·obtain⟨v,q⟩:=I.cell x c e
  exact absurd (lJv q.lt (by rw[z];exact hb)) (lK0 _)
 ·exact absurd (lJv (Heap.lt_size (I.pin p hp).1) (by rw[z];exact hb)) (lK0 _)
structure Turn (P:Program) (w:World) (K:PySem.W.Frag) (tg:Expr) (J:It) (fp:List Addr) (it:Addr) (tn:Nat->Heap->Prop):Prop where
 mem:it∈fp
 obj:∀i h,tn i h->∀b∈fp,∃o,h.get? b=some o/\∀v,o.data≠ .cell v
 keep:∀i h h',tn i h->(∀b∈fp,∀o,h.get? b=some o->h'.get? b=some o)->tn i h'
 item:∀(X:Cx),X.prog=P->X.w=w->X.K=K->X.calm=true->∀(i:Nat) (pins:List (Addr×Obj)) (s:Shared) (σ:St) (H:Hp) (E:Value->Shared->Prop),Inv X pins σ H s->(∀b∈fp,FpOk X pins H b)->tn i s.heap->J.go i H->
  wpAny (model P w) X.A (pyNext (.ref it)) (fun r s1=>∃u,r=some u/\
   wpAny (model P w) X.A (letOwnedTupleGo tg (.ref it) u) (fun _ s2=>∃x H',Inv X pins σ H' s2/\RelV x u/\J.yld i H x H'/\tn (i+1) s2.heap/\∀b∈fp,H' b=none) E s1) E s
 done:∀(X:Cx),X.prog=P->X.w=w->X.K=K->X.calm=true->∀(i:Nat) (pins:List (Addr×Obj)) (s:Shared) (σ:St) (H:Hp) (E:Value->Shared->Prop),Inv X pins σ H s->(∀b∈fp,FpOk X pins H b)->tn i s.heap->J.stop i H->
  wpAny (model P w) X.A (pyNext (.ref it)) (fun r s1=>r=none/\Inv X pins σ H s1) E s
 self:∀(A:Around) (i:Nat) (s:Shared) (Q:Value->Shared->Prop) (E:Value->Shared->Prop),tn i s.heap->Q (.ref it) s->wpAny (model P w) A (pyIter (.ref it)) Q E s
noncomputable abbrev TI:=St->Hp->(It->Hp->Prop)->Prop
def PIE (X:Cx) (pins:List (Addr×Obj)) (σ:St) (tg:Expr) (R:It->Hp->Prop) (itv:Value) (s2:Shared):Prop:=
 ∃(it:Addr) (fp:List Addr) (tn:Nat->Heap->Prop) (J:It) (H':Hp),itv= .ref it/\Inv X pins σ H' s2/\Turn X.prog X.w X.K tg J fp it tn/\tn 0 s2.heap/\(∀b∈fp,FpOk X pins H' b)/\R J H'
theorem go_of {M:Model} {A:Around} {E:Value->Shared->Prop} {s:Shared} {tg:Expr} {it:Addr} {u:Value} {o:Obj} {n:String} {vs:Array Value} {Q:Unit->Shared->Prop} (ho:s.heap.get? it=some o) (hc:o.cls= .type n) (hd:o.data= .fields vs)
  (hn:["enumerate","zip","dict_itemiterator","dict_reverseitemiterator","odict_iterator","itertools.zip_longest","itertools.pairwise"].contains n=false) (hQ:Q () s):wpAny M A (letOwnedTupleGo tg (.ref it) u) Q E s:=by
 unfold letOwnedTupleGo
 cases tg<;>first
  | exact wpAny_pure hQ
  | (cases u<;>first
    | exact wpAny_pure hQ
    | (refine wpAny_bind (wpAny_load ho ?_)
       rw[hc,hd]
       show wpAny M A (if (["enumerate","zip","dict_itemiterator","dict_reverseitemiterator","odict_iterator","itertools.zip_longest","itertools.pairwise"].contains n&&vs[0]? == some (rawInt _))=true then _ else _) Q E s
       rw[if_neg (by intro h;rw[hn,Bool.false_and] at h;cases h)]
       exact wpAny_pure hQ))
noncomputable def Itl (K:PySem.W.Frag) (a:Addr):It:=
 ⟨fun i H=>∃xs x,SqL K H a xs/\xs[i]? =some x,fun i H x H'=>H'=H/\∀xs,SqL K H a xs->xs[i]? =some x,fun i H=>∃xs,SqL K H a xs/\xs.length<=i⟩
noncomputable def Itt (K:PySem.W.Frag) (a:Addr):It:=
 ⟨fun i H=>∃xs x,SqT K H a xs/\xs[i]? =some x,fun i H x H'=>H'=H/\∀xs,SqT K H a xs->xs[i]? =some x,fun i H=>∃xs,SqT K H a xs/\xs.length<=i⟩
noncomputable def Itr (lo:Int) (n:Nat):It:=⟨fun i _=>i<n,fun i H x H'=>H'=H/\x= .int (lo+i),fun i _=>n<=i⟩
theorem turn_list {P:Program} {w:World} {K:PySem.W.Frag} {tg:Expr} (a it:Addr):Turn P w K tg (Itl K a) [it] it (fun i h=>h.IsListIter it a i) where
 mem:=by simp
 obj:=fun i h st b hb=>by
  have e:b=it:=by simpa using hb
  subst e
  obtain⟨o,e,c,d⟩:=st
  exact⟨o,e,fun v z=>by rw[d] at z;cases z⟩
 keep:=fun i h h' st k=>st.at fun o e=>k it (by simp) o e
 item:=by
  intro X hP hw hK hc i pins s σ H E I hf st hg
  subst hP hw hK
  obtain⟨xs,x,hq,hx⟩:=hg
  obtain⟨its,rv,p,hz⟩:=I.list hq
  obtain⟨u,hu,ru⟩:=rv.get hx
  obtain⟨f0,f1,f2,f3,f4,f5⟩:=hf it (by simp)
  refine wpAny_pyNext_list_item st p.isList (x:=u) (by simpa using hu) fun h' st' sb=> ?_
  have I1:Inv X pins σ H {s with heap:=h'}:=I.turned (t':=s.toks) (fun b o hb e=>(sb.2 b hb).trans e) f0 f1 f3 f4 f5
  obtain⟨o,e,c,d⟩:=id st'
  exact⟨u,rfl,go_of (s:={s with heap:=h'}) e c d (by decide) ⟨x,H,I1,ru,⟨rfl,fun ys hy=>by rw[I.list_inj hy hq];exact hx⟩,st',fun b hb=>(hf b hb).1⟩⟩
 done:=by
  intro X hP hw hK hc i pins s σ H E I hf st hg
  subst hP hw hK
  obtain⟨xs,hq,hx⟩:=hg
  obtain⟨its,rv,p,hz⟩:=I.list hq
  obtain⟨f0,f1,f2,f3,f4,f5⟩:=hf it (by simp)
  have hl:=rv.length
  exact wpAny_pyNext_list_end (I.ok.hd hc) st p.isList (by simp;omega) fun h' eb=>⟨rfl,I.turned (t':=s.toks) (fun b o hb e=>eb b o hb e) f0 f1 f3 f4 f5⟩
 self:=fun _ _ _ _ _ st h=>wpAny_pyIter_listiter st h
theorem turn_tuple {P:Program} {w:World} {K:PySem.W.Frag} {tg:Expr} (a it:Addr):Turn P w K tg (Itt K a) [it] it (fun i h=>h.IsTupleIter it a i) where
 mem:=by simp
 obj:=fun i h st b hb=>by
  have e:b=it:=by simpa using hb
  subst e
  obtain⟨o,e,c,d⟩:=st
  exact⟨o,e,fun v z=>by rw[d] at z;cases z⟩
 keep:=fun i h h' st k=>st.at fun o e=>k it (by simp) o e
 item:=by
  intro X hP hw hK hc i pins s σ H E I hf st hg
  subst hP hw hK
  obtain⟨xs,x,hq,hx⟩:=hg
  obtain⟨its,rv,p,hz⟩:=I.tuple hq
  obtain⟨u,hu,ru⟩:=rv.get hx
  obtain⟨f0,f1,f2,f3,f4,f5⟩:=hf it (by simp)
  refine wpAny_pyNext_tuple_item st (show s.heap.IsTuple a its.toArray from p) (x:=u) (by simpa using hu) fun h' st' sb=> ?_
  have I1:Inv X pins σ H {s with heap:=h'}:=I.turned (t':=s.toks) (fun b o hb e=>(sb.2 b hb).trans e) f0 f1 f3 f4 f5
  obtain⟨o,e,c,d⟩:=id st'
  exact⟨u,rfl,go_of (s:={s with heap:=h'}) e c d (by decide) ⟨x,H,I1,ru,⟨rfl,fun ys hy=>by rw[I.tuple_inj hy hq];exact hx⟩,st',fun b hb=>(hf b hb).1⟩⟩
 done:=by
  intro X hP hw hK hc i pins s σ H E I hf st hg
  subst hP hw hK
  obtain⟨xs,hq,hx⟩:=hg
  obtain⟨its,rv,p,hz⟩:=I.tuple hq
  obtain⟨f0,f1,f2,f3,f4,f5⟩:=hf it (by simp)
  have hl:=rv.length
  exact wpAny_pyNext_tuple_end (I.ok.hd hc) st (show s.heap.IsTuple a its.toArray from p) (by simp;omega) fun h' eb=>⟨rfl,I.turned (t':=s.toks) (fun b o hb e=>eb b o hb e) f0 f1 f3 f4 f5⟩
 self:=fun _ _ _ _ _ st h=>wpAny_pyIter_tupleiter st h
theorem turn_range {P:Program} {w:World} {K:PySem.W.Frag} {tg:Expr} (it:Addr) (lo:Int) (n:Nat):Turn P w K tg (Itr lo n) [it] it (fun i h=>IsRangeIter h it (lo+(i:Nat)*1) ((n:Int)-(i:Nat)) 1) where
 mem:=by simp
 obj:=fun i h st b hb=>by
  have e:b=it:=by simpa using hb
  subst e
  exact⟨_,st,fun v z=>by
   have z':Data.fields _=Data.cell v:=z
   cases z'⟩
 keep:=fun i h h' st k=>k it (by simp) _ st
 item:=by
  intro X hP hw hK hc i pins s σ H E I hf st hg
  subst hP hw hK
  obtain⟨f0,f1,f2,f3,f4,f5⟩:=hf it (by simp)
  have W:=Walks.range (prog:=X.prog) (w:=X.w) (I.ok.hd hc) it lo 1 n
  refine W.item i s _ _ hg st fun v h' tk hv st' kk=> ?_
  obtain⟨t,rfl⟩:=hv
  have I1:Inv X pins σ H {s with heap:=h',toks:=tk}:=I.turned (fun b o hb e=>kk b o (by simpa using hb) e) f0 f1 f3 f4 f5
  refine⟨_,rfl,go_of (s:={s with heap:=h',toks:=tk}) (n:="range_iterator") st' rfl rfl (by decide) ⟨.int (lo+i),H,I1,⟨t,?_⟩,⟨rfl,rfl⟩,st',fun b hb=>(hf b hb).1⟩⟩
  rw[Int.mul_one]
 done:=by
  intro X hP hw hK hc i pins s σ H E I hf st hg
  subst hP hw hK
  obtain⟨f0,f1,f2,f3,f4,f5⟩:=hf it (by simp)
  exact wpAny_pyNext_range_end (I.ok.hd hc) st (by have:n<=i:=hg;omega) fun h' eb=>⟨rfl,I.turned (t':=s.toks) (fun b o hb e=>eb b o hb e) f0 f1 f3 f4 f5⟩
 self:=fun _ _ _ _ _ st h=>wpAny_pyIter_rangeiter st h
section
variable {X:Cx} {tg:Expr}
theorem range_it {pins:List (Addr×Obj)} {σ:St} {H:Hp} {s:Shared} {R:It->Hp->Prop} {E:Value->Shared->Prop} {lo hi:Int} {t u v:Tok} {tk:Nat} (I:Inv X pins σ H s) (h1: -(2^62)<=lo) (h2:lo<2^62) (h3: -(2^62)<=hi) (h4:hi<2^62)
  (q:R (Itr lo (hi-lo).toNat) H):wpAny (model X.prog X.w) X.A (pyIter (.ref s.heap.objs.size)) (PIE X pins σ tg R) E {s with heap:=s.heap.push {cls:= .type "range",data:= .fields #[.int lo t,.int hi u,.int 1 v]},toks:=tk}:=by
 refine wpAny_pyIter_range (IsRange.new ..) (small_one h1 h2 h3 h4) ?_
 have I1:Inv X pins σ H {s with heap:=s.heap.push {cls:= .type "range",data:= .fields #[.int lo t,.int hi u,.int 1 v]},toks:=tk}:=I.kept fun b o e=>Heap.get?_push_of_some _ e
 refine⟨(s.heap.push {cls:= .type "range",data:= .fields #[.int lo t,.int hi u,.int 1 v]}).objs.size,[(s.heap.push {cls:= .type "range",data:= .fields #[.int lo t,.int hi u,.int 1 v]}).objs.size],_,_,H,rfl,
  I1.kept (t':=tk) fun b o e=>Heap.get?_push_of_some _ e,turn_range _ lo (hi-lo).toNat,?_,fun b hb=> ?_,q⟩
 ·have e1:lo+((0:Nat):Int)*1=lo:=by simp
  have e2:(((hi-lo).toNat:Nat):Int)-((0:Nat):Int)=Builtin.Range.rangeSize lo hi 1:=by rw[rangeSize_one];split<;>omega
  show IsRangeIter _ _ (lo+((0:Nat):Int)*1) ((((hi-lo).toNat:Nat):Int)-((0:Nat):Int)) 1
  rw[e1,e2]
  exact Heap.get?_push_size _ rfl
 ·have e:b=(s.heap.push {cls:= .type "range",data:= .fields #[.int lo t,.int hi u,.int 1 v]}).objs.size:=by simpa using hb
  subst e
  exact I1.fpOk (lJd _) (I1.hok.fresh (lJd _))
noncomputable def jKv (ta:TA):TI:=fun σ H R=>ta σ H fun vs H1=>∃j:Int,vs=[.int j]/\ -(2^62)<=j/\j<2^62/\R (Itr 0 j.toNat) H1
noncomputable def iRng2 (ta:TA):TI:=fun σ H R=>ta σ H fun vs H1=>∃i j:Int,vs=[.int i,.int j]/\(-(2^62)<=i/\i<2^62/\ -(2^62)<=j/\j<2^62)/\R (Itr i (j-i).toNat) H1
noncomputable def tFor (wi:TI) (g:TG) (tb:TS):TS:=fun D σ H=>wi σ H fun J H1=>∃W:Nat->Nat->St->Hp->Prop,(∃m,W 0 m σ H1)/\∀i m σ H,W i m σ H->
 (J.stop i H/\D.nx σ H)\/(J.go i H/\∃N:St->Hp->Prop,(∀ σ' H',N σ' H'->∃m',m'<m/\W (i+1) m' σ' H')/\∀x H',J.yld i H x H'->g x σ H' fun σ2 H2=>tb {D with nx:=N,ct:=N,bk:=D.nx} σ2 H2)
noncomputable def jYq (fp:List Addr) (h:Heap):List (Addr×Obj):=fp.filterMap fun b=>(h.get? b).map fun o=>(b,o)
theorem jYh {fp:List Addr} {h:Heap} {b:Addr} {o:Obj} (hb:b∈fp) (e:h.get? b=some o):(b,o)∈jYq fp h:=lQf.mpr ⟨b,hb,by rw[e];rfl⟩
theorem of_pinsAt {fp:List Addr} {h:Heap} {p:Addr×Obj} (hp:p∈jYq fp h):p.1∈fp/\h.get? p.1=some p.2:=by
 obtain⟨b,hb,e⟩:=lQf.mp hp
 cases q:h.get? b with
 | none=>rw[q] at e;cases e
 | some o=>
  rw[q] at e
  have e':(b,o)=p:=lJ0 e
  subst e'
  exact⟨hb,q⟩
theorem Inv.pinned {pins:List (Addr×Obj)} {σ:St} {H:Hp} {s:Shared} {fp:List Addr} (I:Inv X pins σ H s) (hf:∀b∈fp,FpOk X pins H b) (ho:∀b∈fp,∃o,s.heap.get? b=some o/\∀v,o.data≠ .cell v):Inv X (pins++jYq fp s.heap) σ H s:=
 I.pins_of fun p hp=>(lJu.mp hp).elim (fun z=>I.pin p (lJ2 _ z)) fun z=>by
  obtain⟨hb,e⟩:=of_pinsAt z
  obtain⟨f0,f1,f2,_⟩:=hf p.1 hb
  obtain⟨o,e',d⟩:=ho p.1 hb
  rw[e] at e';cases e'
  exact⟨e,f0,f1,f2,d⟩
theorem Inv.unpinned {pins pl:List (Addr×Obj)} {σ:St} {H:Hp} {s:Shared} (I:Inv X (pins++pl) σ H s):Inv X pins σ H s:=I.pins_of fun p hp=>I.pin p (lJ2 _ (lK5 _ hp))
end
noncomputable abbrev R2:=V->V->Hp->VK->Prop
def OpR (X:Cx) (f:Value->Value->Sem Value) (r:R2):Prop:=
 ∀(pins:List (Addr×Obj)) (s:Shared) (σ:St) (H:Hp) (x y:V) (v u:Value) (Q:VK),Inv X pins σ H s->RelV x v->RelV y u->r x y H Q->
  wpAny (model X.prog X.w) X.A (f v u) (EP X pins σ Q) X.xe s
def UnR (X:Cx) (f:Value->Sem Value) (r:V->Hp->VK->Prop):Prop:=
 ∀(pins:List (Addr×Obj)) (s:Shared) (σ:St) (H:Hp) (x:V) (v:Value) (Q:VK),Inv X pins σ H s->RelV x v->r x H Q->
  wpAny (model X.prog X.w) X.A (f v) (EP X pins σ Q) X.xe s
def kQt (X:Cx) (f:Value) (r:List V->Hp->VK->Prop):Prop:=
 ∀(pins:List (Addr×Obj)) (s:Shared) (σ:St) (H:Hp) (xs:List V) (us:List Value) (Q:VK),Inv X pins σ H s->Vals xs us->r xs H Q->
  wpAny (model X.prog X.w) X.A (call f us) (EP X pins σ Q) X.xe s
def TruR (X:Cx) (r:V->Hp->(Bool->Hp->Prop)->Prop):Prop:=
 ∀(pins:List (Addr×Obj)) (s:Shared) (σ:St) (H:Hp) (x:V) (v:Value) (Q:Bool->Hp->Prop),Inv X pins σ H s->RelV x v->r x H Q->
  wpAny (model X.prog X.w) X.A (truthy v) (TP X pins σ Q) X.xe s
noncomputable def tOp (r:R2) (ta tb:TE):TE:=fun σ H Q=>ta σ H fun x H1=>tb σ H1 fun y H2=>r x y H2 Q
noncomputable def tUn (r:V->Hp->VK->Prop) (ta:TE):TE:=fun σ H Q=>ta σ H fun x H1=>r x H1 Q
noncomputable def rI (C:Int->Int->Prop) (g:Int->Int->V):R2:=fun x y H Q=>∃i j,x= .int i/\y= .int j/\C i j/\Q (g i j) H
noncomputable def rI0 (g:Int->Int->V):R2:=fun x y H Q=>∃i j,x= .int i/\y= .int j/\Q (g i j) H
noncomputable def rU (g:Int->V):V->Hp->VK->Prop:=fun x H Q=>∃i,x= .int i/\Q (g i) H
section
variable {X:Cx} {a b c:Expr} {ta tb tc:TE} {pos:Pos}
theorem opI {f:Value->Value->Sem Value} {C:Int->Int->Prop} {g:Int->Int->Int}
  (rule:∀(i j:Int) (t u:Tok) (s:Shared) (Q:Value->Shared->Prop) (E:Value->Shared->Prop),C i j->Q (.int (g i j) s.toks) {s with toks:=s.toks+1}->wpAny (model X.prog X.w) X.A (f (.int i t) (.int j u)) Q E s):
  OpR X f (rI C fun i j=> .int (g i j)):=by
 intro pins s σ H x y v u Q I rx ry h
 obtain⟨i,j,rfl,rfl,hc,q⟩:=h
 obtain⟨t,rfl⟩:=rx
 obtain⟨t',rfl⟩:=ry
 exact rule i j t t' s _ _ hc ⟨.int (g i j),H,I.tok _,⟨_,rfl⟩,q⟩
theorem opI0 {f:Value->Value->Sem Value} {g:Int->Int->Int}
  (rule:∀(i j:Int) (t u:Tok) (s:Shared) (Q:Value->Shared->Prop) (E:Value->Shared->Prop),Q (.int (g i j) s.toks) {s with toks:=s.toks+1}->wpAny (model X.prog X.w) X.A (f (.int i t) (.int j u)) Q E s):
  OpR X f (rI0 fun i j=> .int (g i j)):=by
 intro pins s σ H x y v u Q I rx ry h
 obtain⟨i,j,rfl,rfl,q⟩:=h
 obtain⟨t,rfl⟩:=rx
 obtain⟨t',rfl⟩:=ry
 exact rule i j t t' s _ _ ⟨.int (g i j),H,I.tok _,⟨_,rfl⟩,q⟩
theorem opB0 {f:Value->Value->Sem Value} {g:Int->Int->Bool}
  (rule:∀(i j:Int) (t u:Tok) (s:Shared) (Q:Value->Shared->Prop) (E:Value->Shared->Prop),Q (.bool (g i j)) s->wpAny (model X.prog X.w) X.A (f (.int i t) (.int j u)) Q E s):
  OpR X f (rI0 fun i j=> .bl (g i j)):=by
 intro pins s σ H x y v u Q I rx ry h
 obtain⟨i,j,rfl,rfl,q⟩:=h
 obtain⟨t,rfl⟩:=rx
 obtain⟨t',rfl⟩:=ry
 exact rule i j t t' s _ _ ⟨.bl (g i j),H,I,rfl,q⟩
def CDiv (i j:Int):Prop:=0<j/\j<1073741824
def CPow (i j:Int):Prop:=0<=j/\j<=1000000/\i.natAbs<2^64
def CMul (i j:Int):Prop:=(-(2^64)<i/\i<2^64)\/(-(2^64)<j/\j<2^64)
theorem CMul.ok {i j:Int} (h:CMul i j):IntMulOk i j:=by
 rcases h with ⟨h1,h2⟩ | ⟨h1,h2⟩
 ·exact .of_left (intBits_le_64 h1 h2)
 ·exact .of_right (intBits_le_64 h1 h2)
theorem op_add:OpR X (binaryOp .Add) (rI0 fun i j=> .int (i+j)):=opI0 fun _ _ _ _ _ _ _ q=>add_int q
theorem op_sub:OpR X (binaryOp .Sub) (rI0 fun i j=> .int (i-j)):=opI0 fun _ _ _ _ _ _ _ q=>sub_int q
theorem op_mul:OpR X (binaryOp .Mult) (rI CMul fun i j=> .int (i*j)):=opI fun _ _ _ _ _ _ _ hc q=>mul_int q hc.ok
theorem op_fdiv:OpR X (binaryOp .FloorDiv) (rI CDiv fun i j=> .int (i / j)):=opI fun i j _ _ _ _ _ hc q=>by
 have h1:(0:Int)<j:=hc.1
 have h2:j<1073741824:=hc.2
 exact floordiv_int (by omega) (by rw[Int.fdiv_eq_ediv_of_nonneg i (by omega)];exact q) (.inl (PyProof.noPylong_small (by omega)))
theorem op_mod:OpR X (binaryOp .Mod) (rI (fun _ j=>0<j) fun i j=> .int (i%j)):=opI fun i j _ _ _ _ _ hc q=>by
 have h1:(0:Int)<j:=hc
 exact mod_int' (by omega) (by rw[Int.fmod_eq_emod_of_nonneg i (by omega)];exact q)
theorem op_pow:OpR X (binaryOp .Pow) (rI CPow fun i j=> .int (i^j.toNat)):=opI fun _ _ _ _ _ _ _ hc q=>pow_int_small hc.1 hc.2.1 hc.2.2 q
theorem unI {f:Value->Sem Value} {g:Int->Int}
  (rule:∀(i:Int) (t:Tok) (s:Shared) (Q:Value->Shared->Prop) (E:Value->Shared->Prop),Q (.int (g i) s.toks) {s with toks:=s.toks+1}->wpAny (model X.prog X.w) X.A (f (.int i t)) Q E s):
  UnR X f (rU fun i=> .int (g i)):=by
 intro pins s σ H x v Q I rx h
 obtain⟨i,rfl,q⟩:=h
 obtain⟨t,rfl⟩:=rx
 exact rule i t s _ _ ⟨.int (g i),H,I.tok _,⟨_,rfl⟩,q⟩
theorem un_neg:UnR X (unaryOp .USub) (rU fun i=> .int (-i)):=unI fun _ _ _ _ _ q=>neg_int q
end
section
variable {X:Cx} {a b c:Expr} {ta tb tc:TE} {pos:Pos}
theorem fin_bl {pins:List (Addr×Obj)} {σ:St} {H:Hp} {s:Shared} {Q:VK} {k k':Bool} (I:Inv X pins σ H s) (q:Q (.bl k) H) (e:k=k'):EP X pins σ Q (.bool k') s:=by
 subst e
 exact⟨.bl k,H,I,rfl,q⟩
theorem op_lt:OpR X (compareOp .Lt) (rI0 fun i j=> .bl (decide (i<j))):=opB0 fun _ _ _ _ _ _ _ q=>lt_int q
theorem op_le:OpR X (compareOp .LtE) (rI0 fun i j=> .bl (decide (i<=j))):=opB0 fun _ _ _ _ _ _ _ q=>le_int q
theorem op_gt:OpR X (compareOp .Gt) (rI0 fun i j=> .bl (decide (j<i))):=opB0 fun _ _ _ _ _ _ _ q=>gt_int q
theorem op_ge:OpR X (compareOp .GtE) (rI0 fun i j=> .bl (decide (j<=i))):=opB0 fun _ _ _ _ _ _ _ q=>ge_int q
theorem op_isN:OpR X (compareOp .Is) (fun x y H Q=>y= .non/\Q (.bl (decide (x= .non))) H):=by
 intro pins s σ H x y v u Q I rx ry h
 obtain⟨rfl,q⟩:=h
 cases ry
 refine is_none_gen (fin_bl I q ?_)
 cases x<;>first
  | (cases rx;rfl)
  | (obtain⟨t,rfl⟩:=rx;rfl)
theorem nomark (b:Expr) {op:CmpOp} (h:op≠ .In:=by decide) (h2:op≠ .NotIn:=by decide):behindInMarks op b=false:=by
 have e1:(op == CmpOp.In)=false:=by cases op<;>first | rfl | exact absurd rfl h
 have e2:(op == CmpOp.NotIn)=false:=by cases op<;>first | rfl | exact absurd rfl h2
 cases b<;>simp[behindInMarks,e1,e2]
noncomputable def jKe (t:TE):TT:=fun σ H Q=>t σ H fun x H'=>∃k,x= .bl k/\Q k H'
noncomputable def tChain (r r':R2) (ta tb tc:TE):TE:=fun σ H Q=>ta σ H fun x H1=>tb σ H1 fun y H2=>r x y H2 fun z H3=>∃k,z= .bl k/\
 (if k=true then tc σ H3 fun w' H4=>r' y w' H4 Q else Q (.bl false) H3)
def TruV (K:PySem.W.Frag) (x:V) (H:Hp) (k:Bool):Prop:=
 match x with
 | .non=>k=false
 | .bl b=>k=b
 | .int i=>k=(i != 0)
 | .str y=>y.length<=sizeLine/\k=((y.length:Int) != 0)
 | .byt y=>y.size<=sizeLine/\k=((y.size:Int) != 0)
 | .ref p=>(∃xs,SqL K H p xs/\k= !xs.isEmpty)\/(∃xs,SqT K H p xs/\k= !xs.isEmpty)\/∃kvs,H p=some (.dK kvs)/\k= !kvs.isEmpty
 | _=>False
theorem isEmpty_kv {κ:Type} {kvs:List (κ×V)} {vs:List (κ×Value)} (r:KV kvs vs):(!vs.isEmpty)= !kvs.isEmpty:=by
 cases r<;>rfl
theorem kQ3 {xs:List V} {its:List Value} (r:Vals xs its):(!its.toArray.isEmpty)= !xs.isEmpty:=by
 cases r<;>simp
theorem kQ1:(sizeLine:Nat)<2^63:=by rw[sizeLine_eq];decide
theorem tru_ok:TruR X (fun x H Q=>∃k,TruV X.K x H k/\Q k H):=by
 intro pins s σ H x v Q I rx h
 obtain⟨k,e,q⟩:=h
 have hl:=kQ1
 have hs:sizeLine=16777216:=sizeLine_eq
 cases x with
 | non=>
  cases rx
  have e':k=false:=e
  subst e'
  exact truthy_none ⟨H,I,q⟩
 | bl b=>
  cases rx
  have e':k=b:=e
  subst e'
  exact wpAny_truthy_bool ⟨H,I,q⟩
 | int i=>
  obtain⟨t,rfl⟩:=rx
  have e':k=(i != 0):=e
  subst e'
  exact PySem.P.truthy_int ⟨H,I,q⟩
 | str y=>
  obtain⟨t,rfl⟩:=rx
  obtain⟨hy,e'⟩:y.length<=sizeLine/\k=((y.length:Int) != 0):=e
  subst e'
  exact PySem.P.truthy_str (by omega) ⟨H,I.tok _,q⟩
 | byt y=>
  obtain⟨t,rfl⟩:=rx
  obtain⟨hy,e'⟩:y.size<=sizeLine/\k=((y.size:Int) != 0):=e
  subst e'
  exact PySem.W.truthy_bytes (by omega) ⟨H,I.tok _,q⟩
 | ref p=>
  cases rx
  have e':(∃xs,SqL X.K H p xs/\k= !xs.isEmpty)\/(∃xs,SqT X.K H p xs/\k= !xs.isEmpty)\/∃kvs,H p=some (.dK kvs)/\k= !kvs.isEmpty:=e
  rcases e' with ⟨xs,hx,e'⟩ | ⟨xs,hx,e'⟩ | ⟨kvs,hx,e'⟩
  ·subst e'
   obtain⟨its,r,pl,hz⟩:=I.list hx
   have hlen:=r.length
   exact wpAny_truthy_list pl.isList (by simp only[lJi];omega) ⟨H,I.tok _,by rw[kQ3 r];exact q⟩
  ·subst e'
   obtain⟨its,r,pl,hz⟩:=I.tuple hx
   have hlen:=r.length
   exact truthy_tuple pl (by simp only[lJi];omega) ⟨H,I.tok _,by rw[kQ3 r];exact q⟩
  ·subst e'
   obtain⟨hz,hS,vs,r,m⟩:kvs.length<=sizeLine/\(p == sysModules)=false/\∃vs,KV kvs vs/\s.heap.DictOf (jUj X.prog X.w) p vs:=I.hok p _ hx
   have hlen:kvs.length=vs.length:=Paired.length r
   exact wpAny_truthy_dict hS m (by omega) ⟨H,I.tok _,by rw[isEmpty_kv r];exact q⟩
 | _=>exact (show False from e).elim
theorem vals1 {x:V} {us:List Value} (r:Vals [x] us):∃u,us=[u]/\RelV x u:=by
 cases r with
 | cons r1 r2=>cases r2;exact⟨_,rfl,r1⟩
theorem vals2 {x y:V} {us:List Value} (r:Vals [x,y] us):∃u w',us=[u,w']/\RelV x u/\RelV y w':=by
 cases r with
 | cons r1 r2=>
  cases r2 with
  | cons r3 r4=>cases r4;exact⟨_,_,rfl,r1,r3⟩
theorem call_abs:kQt X (.builtin "abs") (fun xs H Q=>∃i,xs=[.int i]/\Q (.int (if i<0 then -i else i)) H):=by
 intro pins s σ H xs us Q I r h
 obtain⟨i,rfl,q⟩:=h
 obtain⟨u,rfl,t,rfl⟩:=vals1 r
 exact call_abs_int fun u tk=>⟨.int (if i<0 then -i else i),H,I.tok _,⟨_,rfl⟩,q⟩
theorem call_max2 (hc:X.calm=true):kQt X (.builtin "max") (fun xs H Q=>∃i j,xs=[.int i,.int j]/\Q (.int (if j>i then j else i)) H):=by
 intro pins s σ H xs us Q I r h
 obtain⟨i,j,rfl,q⟩:=h
 obtain⟨u,w',rfl,⟨t,rfl⟩,⟨t',rfl⟩⟩:=vals2 r
 refine max_two_ints (I.ok.hd hc) fun h' tk k=>⟨_,H,I.kept k,?_,q⟩
 by_cases hj:j>i
 ·rw[if_pos hj,if_pos hj];exact⟨_,rfl⟩
 ·rw[if_neg hj,if_neg hj];exact⟨_,rfl⟩
theorem call_min2 (hc:X.calm=true):kQt X (.builtin "min") (fun xs H Q=>∃i j,xs=[.int i,.int j]/\Q (.int (if j<i then j else i)) H):=by
 intro pins s σ H xs us Q I r h
 obtain⟨i,j,rfl,q⟩:=h
 obtain⟨u,w',rfl,⟨t,rfl⟩,⟨t',rfl⟩⟩:=vals2 r
 refine min_two_ints (I.ok.hd hc) fun h' tk k=>⟨_,H,I.kept k,?_,q⟩
 by_cases hj:j<i
 ·rw[if_pos hj,if_pos hj];exact⟨_,rfl⟩
 ·rw[if_neg hj,if_neg hj];exact⟨_,rfl⟩
theorem call_int1:kQt X (.type "int") (fun xs H Q=>(∃i,xs=[.int i]/\Q (.int i) H)\/∃k,xs=[.bl k]/\Q (.int (if k then 1 else 0)) H):=by
 intro pins s σ H xs us Q I r h
 rcases h with ⟨i,rfl,q⟩ | ⟨k,rfl,q⟩
 ·obtain⟨u,rfl,t,rfl⟩:=vals1 r
  exact call_int_int ⟨.int i,H,I,⟨_,rfl⟩,q⟩
 ·obtain⟨u,rfl,r1⟩:=vals1 r
  cases r1
  exact call_int_bool ⟨.int (if k then 1 else 0),H,I.tok _,⟨_,rfl⟩,q⟩
theorem call_divmod:kQt X (.builtin "divmod") (fun xs H Q=>∃i j,xs=[.int i,.int j]/\CDiv i j/\∀p,H p=none->Q (.ref p) (upd H p (.tup [.int (i / j),.int (i%j)]))):=by
 intro pins s σ H xs us Q I r h
 obtain⟨i,j,rfl,⟨h1,h2⟩,q⟩:=h
 obtain⟨u,w',rfl,⟨t,rfl⟩,⟨t',rfl⟩⟩:=vals2 r
 refine divmod_int (by omega) ?_ (.inl (PyProof.noPylong_small (by omega)))
 rw[Int.fdiv_eq_ediv_of_nonneg i (by omega),Int.fmod_eq_emod_of_nonneg i (by omega)]
 have hn:H s.heap.objs.size=none:=I.hok.fresh (lJd _)
 refine⟨.ref s.heap.objs.size,_,?_,rfl,q _ hn⟩
 refine I.laid (fun b o e=>Heap.get?_push_of_some _ e) (lJd _) ⟨by simp only[lJz,List.length_nil];rw[sizeLine_eq];decide,[.int (i / j) s.toks,.int (i%j) (s.toks+1)],.cons ⟨_,rfl⟩ (.cons ⟨_,rfl⟩ .nil),?_⟩
 exact⟨_,Heap.get?_push_size s.heap rfl,rfl,0,rfl,rfl⟩
end
section
variable {prog:Program} {w:World} {A:Around} {E:Value->Shared->Prop} {s:Shared} {K:PySem.W.Frag} {x dx C f:Addr} {mA:Str->Option Value} {name:Str} {v:Value}
end
theorem RelO.some_of {v:V} {o:Option Value} (r:RelO (some v) o):∃u,o=some u/\RelV v u:=by
 cases o with
 | none=>exact (show False from r).elim
 | some u=>exact⟨u,rfl,r⟩
section
variable {P:Program} {w:World} {H H':Hp} {h h':Heap} {a C dx:Addr} {fs fs':List (Str×V)}
end
section
variable {X:Cx} {pins:List (Addr×Obj)} {σ:St} {H:Hp} {s:Shared} {a C dx:Addr} {fs:List (Str×V)} {f:Str} {v:V} {A:Around} {E:Value->Shared->Prop}
end
section
variable {X:Cx} {o e value:Expr} {f:Str} {pos pos' tpos:Pos} {ta tv:TE}
noncomputable def rSub:V->V->Hp->VK->Prop:=fun x y H Q=>∃i j,x= .int i/\y= .int j/\Q (.int (i-j)) H
end
section
variable {X:Cx} {pins:List (Addr×Obj)} {σ:St} {H:Hp} {s:Shared} {A:Around} {E:Value->Shared->Prop} {Q:Value->Shared->Prop} {c:Value} {b:Bool}
end
structure Room (k:Nat) (A:Around):Prop where
 hd:A.handled=none
 gd:A.guards=some []
 dp:A.depth+3*k+5<recursionLimit
 un:A.units+16*k+200<cLine
theorem Room.mono {j k:Nat} {A:Around} (r:Room k A) (h:j<=k):Room j A:=⟨r.hd,r.gd,by have:=r.dp;omega,by have:=r.un;omega⟩
theorem Room.deeper {k:Nat} {A:Around} (r:Room (k+1) A) (env:Env):Room k (A.deeper env):=
 ⟨r.hd,r.gd,by have:=r.dp;show A.depth+1+3*k+5<_;omega,by have:=r.un;show A.units+3+16*k+200<_;omega⟩
theorem Room.depth {k:Nat} {A:Around} (r:Room k A):A.depth<recursionLimit:=by have:=r.dp;omega
theorem Room.units {k:Nat} {A:Around} (r:Room k A):A.units+64<cLine:=by have:=r.un;omega
noncomputable def tNil:TA:=fun _ H Q=>Q [] H
noncomputable def jJa (ta:TE) (tr:TA):TA:=fun σ H Q=>ta σ H fun x H1=>tr σ H1 fun xs H2=>Q (x::xs) H2
section
variable {X:Cx} {e:Expr} {es:List Expr} {te:TE} {t:TA} {pos:Pos}
noncomputable def tTup (t:TA):TE:=fun σ H Q=>t σ H fun xs H1=>xs.length<=sizeLine/\∀p,H1 p=none->Q (.ref p) (upd H1 p (.tup xs))
noncomputable def tLst (t:TA):TE:=fun σ H Q=>t σ H fun xs H1=>xs.length<=sizeLine/\∀p,H1 p=none->Q (.ref p) (upd H1 p (.lst xs))
end
noncomputable abbrev Sp:=List V->Hp->VK->XK->Prop
noncomputable abbrev CXT:=List Env->Hp->Shared->XK->Value->Shared->Prop
structure Env0 (P:Program) (w:World) (K:PySem.W.Frag) (mg:Str->Option Value) (base:Heap) (A:Around) (outer:List Env) (s:Shared) (H:Hp):Prop where
 frames:A.frames=some outer
 mod:Mod K mg base
 bs:∀b o,base.get? b=some o->s.heap.get? b=some o/\H b=none
 bsz:base.objs.size<=s.heap.objs.size
 funs:s.heap.FunFrames base outer
 frf:∀b∈frs outer,H b=none
 hok:HOk P w H s.heap
 bare:AllBare s.gens
def CE (outer:List Env) (P:Program) (w:World) (H:Hp) (s:Shared) (Q:VK) (u:Value) (s':Shared):Prop:=
 ∃v H',s'.os=s.os/\AllBare s'.gens/\Un (frs outer) [] H H' s.heap s'.heap/\HOk P w H' s'.heap/\RelV v u/\Q v H'
def CR (CX:CXT) (outer:List Env) (P:Program) (w:World) (H:Hp) (s:Shared) (Q:VK) (E:XK) (r:Result) (s':Shared):Prop:=
 match r with
 | .ok (.ret u)=>CE outer P w H s Q u s'
 | .ok _=>False
 | .error e=>CX outer H s E e s'
structure FnOk (P:Program) (w:World) (K:PySem.W.Frag) (mg:Str->Option Value) (base:Heap) (CX:CXT) (k:Nat) (f:Addr) (fd:FuncData) (ps:List Str) (sp:Sp):Prop where
 len:∀vs H Q E,sp vs H Q E->vs.length=ps.length
 run:∀(A:Around) (outer:List Env) (s:Shared) (H:Hp) (args:Args) (us:List Value) (vs:List V) (Q:VK) (E:XK),Room k A->Env0 P w K mg base A outer s H->BindsTo s fd args (ps.zip us)->Vals vs us->sp vs H Q E->
  codeAny (model P w) A (.call (.ref f) args) (CR CX outer P w H s Q E) s
section
variable {X:Cx} {pins:List (Addr×Obj)} {σ:St} {H:Hp} {s s':Shared}
theorem Inv.env0 (I:Inv X pins σ H s):Env0 X.prog X.w X.K X.mg X.base X.A X.stack s H:=
 ⟨I.ok.frames,I.ok.mod,I.bs,lJo I.ok.bsz I.sz,I.stack,I.stkFree,I.hok,I.bare⟩
theorem Inv.after {Q:VK} {u:Value} (I:Inv X pins σ H s) (h:CE X.stack X.prog X.w H s Q u s'):EP X pins σ Q u s':=by
 obtain⟨v,H',os,bare,un,hok,r,q⟩:=h
 obtain⟨hh,g,d,t,os'⟩:=s'
 obtain rfl:os'=s.os:=os
 exact⟨v,H',I.call (h':=hh) (g':=g) (d':=d) (t':=t) (ch:=[]) un hok bare (fun b z=>absurd z (by simp)),r,q⟩
end
noncomputable def jJo (sp:Sp) (dvs:List V) (E:XK) (t:TA):TE:=fun σ H Q=>t σ H fun vs H1=>sp (vs++dvs) H1 Q E
def Binds (K:PySem.W.Frag) (fd:FuncData) (ps:List Str) (ds:List Value):Prop:=
 ∀(s:Shared) (us:List Value),K.In s.heap->(us++ds).length=ps.length->BindsTo s fd ⟨us,[]⟩ (ps.zip (us++ds))
theorem Binds.all {K:PySem.W.Frag} {fd:FuncData} {ps:List Str} (h:∀us:List Value,us.length=ps.length->bindArgs fd ⟨us,[]⟩=pure (ps.zip us)):Binds K fd ps []:=fun s us _ hl=>by
 rw[List.append_nil] at hl ⊢
 exact .of_eq (h us hl)
def Passes (CX:CXT) (X:Cx) (E:XK):Prop:=∀(pins:List (Addr×Obj)) (σ:St) (H:Hp) (s:Shared) (e:Value) (s':Shared),Inv X pins σ H s->CX X.stack H s E e s'->X.xe e s'
section
variable {X:Cx} {CX:CXT} {k:Nat} {f C:Addr} {fd:FuncData} {ps:List Str} {sp:Sp} {dvs:List V} {ds:List Value} {E:XK} {x m:Str} {p pos apos:Pos} {e o:Expr} {es:List Expr} {ta:TE} {t:TA}
theorem run_fn {pins:List (Addr×Obj)} {σ:St} {H:Hp} {s:Shared} {Q:VK} {us:List Value} {vs:List V} (F:FnOk X.prog X.w X.K X.mg X.base CX k f fd ps sp) (hr:Room k X.A) (hb:Binds X.K fd ps ds) (hd:Vals dvs ds) (hx:Passes CX X E)
  (I:Inv X pins σ H s) (r:Vals vs us) (h:sp (vs++dvs) H Q E):wpAny (model X.prog X.w) X.A (call (.ref f) us) (EP X pins σ Q) X.xe s:=by
 have r2:Vals (vs++dvs) (us++ds):=r.append hd
 have hl:(us++ds).length=ps.length:=by rw[<-r2.length];exact F.len _ _ _ _ h
 refine wpAny_call (codeAny_mono (F.run X.A X.stack s H ⟨us,[]⟩ (us++ds) (vs++dvs) Q E hr I.env0 (hb s us I.kIn hl) r2 h) fun r s' hq=> ?_)
 cases r with
 | error e=>exact hx pins σ H s e s' I hq
 | ok fl=>
  cases fl with
  | ret u=>exact I.after hq
  | next=>exact False.elim hq
  | brk=>exact False.elim hq
  | cont=>exact False.elim hq
end
section
variable {X:Cx} {CX:CXT} {k:Nat} {f C:Addr} {fd:FuncData} {ps ks:List Str} {sp:Sp} {E:XK} {x m:Str} {p pos apos kpos:Pos} {e o:Expr} {es:List Expr} {kws:List Keyword} {te ta:TE} {t tk:TA} {nm:Option Str}
variable {g:List Value->List Value->List Value} {gV:List V->List V->List V}
end
structure FnScope (N P:List Str) (sc:Scope):Prop where
 kind:sc.kind= .function
 co:sc.isCoroutine=false
 gen:sc.isGenerator=false
 nd:N.Nodup
 pre:N.take P.length=P
 par:∀x∈P,sc.names.lookup x=some .local\/sc.names.lookup x=some .cell
 nofree:∀y∈sc.names,y.2≠ .free
theorem bindL_out {kindOf:Str->Option NameKind} {x:Str}:∀ {binds:List (Str×Value)} {m:Str->Option Value},(∀v,(x,v)∉binds)->bindL kindOf binds m x=m x
 | [],_,_=>rfl
 | (n,v)::r,m,h=>by
  unfold bindL
  rw[bindL_out fun w hw=>h w (lKa _ hw)]
  split
  ·have:x≠n:=by rintro rfl;exact h v lKb
   simp[this]
  ·rfl
theorem bindC_out {kindOf:Str->Option NameKind} {x:Str}:∀ {binds:List (Str×Value)} {m:Str->Option Value},(∀v,(x,v)∉binds)->bindC kindOf binds m x=m x
 | [],_,_=>rfl
 | (n,v)::r,m,h=>by
  unfold bindC
  rw[bindC_out fun w hw=>h w (lKa _ hw)]
  split
  ·rfl
  ·have:x≠n:=by rintro rfl;exact h v lKb
   simp[this]
theorem bindL_get {kindOf:Str->Option NameKind} {x:Str} {v:Value}:∀ {P:List Str} {vs:List Value} {i:Nat} {m:Str->Option Value},P.Nodup->P[i]? =some x->vs[i]? =some v->kindOf x=some .local->
  bindL kindOf (P.zip vs) m x=some v
 | [],_,_,_,_,h,_,_=>by simp at h
 | _::_,[],_,_,_,_,h,_=>by simp at h
 | p::P,w::vs,0,m,nd,h1,h2,hk=>by
  simp at h1 h2;subst h1;subst h2
  show bindL kindOf ((p,w)::P.zip vs) m p=_
  unfold bindL
  rw[bindL_out fun v hv=>(lKc.mp nd).1 (List.of_mem_zip hv).1,if_pos hk]
  simp
 | p::P,w::vs,i+1,m,nd,h1,h2,hk=>by
  show bindL kindOf ((p,w)::P.zip vs) m x=_
  unfold bindL
  exact bindL_get (i:=i) (lKc.mp nd).2 (by simpa using h1) (by simpa using h2) hk
theorem bindC_get {kindOf:Str->Option NameKind} {x:Str} {v:Value}:∀ {P:List Str} {vs:List Value} {i:Nat} {m:Str->Option Value},P.Nodup->P[i]? =some x->vs[i]? =some v->kindOf x≠some .local->
  bindC kindOf (P.zip vs) m x=some v
 | [],_,_,_,_,h,_,_=>by simp at h
 | _::_,[],_,_,_,_,h,_=>by simp at h
 | p::P,w::vs,0,m,nd,h1,h2,hk=>by
  simp at h1 h2;subst h1;subst h2
  show bindC kindOf ((p,w)::P.zip vs) m p=_
  unfold bindC
  rw[bindC_out fun v hv=>(lKc.mp nd).1 (List.of_mem_zip hv).1,if_neg hk]
  simp
 | p::P,w::vs,i+1,m,nd,h1,h2,hk=>by
  show bindC kindOf ((p,w)::P.zip vs) m x=_
  unfold bindC
  exact bindC_get (i:=i) (lKc.mp nd).2 (by simpa using h1) (by simpa using h2) hk
noncomputable def start (N:List Str) (vs:List V):St:=vs.map some++List.replicate (N.length-vs.length) none
noncomputable def cxOf (CX:CXT) (P:Program) (w:World) (K:PySem.W.Frag) (mg:Str->Option Value) (base:Heap) (N:List Str) (qual:Str) (scope:Scope) (f:Addr) (cd:Value) (A:Around) (outer:List Env) (s:Shared) (H:Hp) (E:XK):Cx where
 prog:=P
 w:=w
 K:=K
 mg:=mg
 base:=base
 A:=A.deeper (envOfC qual scope s.heap.objs.size f cd)
 N:=N
 s₀:=s
 H₀:=H
 env:=envOfC qual scope s.heap.objs.size f cd
 outer:=outer
 stack:=envOfC qual scope s.heap.objs.size f cd::outer
 ex:=[]
 calm:=true
 fn:=fun _=>true
 pn:=[]
 xe:=fun e s'=>wpAny (model P w) (A.deeper (envOfC qual scope s.heap.objs.size f cd)) (leaving (envOfC qual scope s.heap.objs.size f cd) e) (fun _ s''=>CX outer H s E e s'') (fun e' s''=>CX outer H s E e' s'') s'
theorem cell_has {sc:Scope} {n:Nat} {x:Str} (h:sc.names.lookup x=some .cell):∃c,(cellsFrom n sc.names []).lookup x=some c:=by
 have q:=PySem.W.cellsFrom_some sc.names n [] (.inl h)
 exact Option.isSome_iff_exists.mp q
theorem inv_start {CX:CXT} {P:Program} {w:World} {K:PySem.W.Frag} {mg:Str->Option Value} {base:Heap} {N ps:List Str} {qual:Str} {scope:Scope} {f:Addr} {cd:Value} {A:Around} {outer:List Env} {s s1:Shared} {H:Hp} {E:XK} {us:List Value} {vs:List V}
  (S:FnScope N ps scope) (hd:A.handled=none/\A.guards=some []) (e0:Env0 P w K mg base A outer s H) (hl:vs.length=ps.length) (r:Vals vs us)
  (x:InCallC s s.heap.objs.size (bindL (envOfC qual scope s.heap.objs.size f cd).kindOf (ps.zip us) fun _=>none) (cellsFrom (s.heap.objs.size+1) scope.names []) (bindC (envOfC qual scope s.heap.objs.size f cd).kindOf (ps.zip us) fun _=>none) s1):
  Inv (cxOf CX P w K mg base N qual scope f cd A outer s H E) [] (start N vs) H s1:=by
 have hpl:ps.length<=N.length:=by have:=congrArg List.length S.pre;rw[lKm] at this;omega
 obtain⟨h1,tk,rfl,hk⟩:=x.done
 have noA:∀b:Addr,b∉(cxOf CX P w K mg base N qual scope f cd A outer s H E).ex:=fun b z=>absurd (show b∈([]:List Addr) from z) (by simp)
 refine⟨⟨e0.mod,S.kind,rfl,rfl,lJd _,fun y z c h1 h2=> ?_,fun y hy=> ?_,fun y c _ h=> ?_,fun _=>hd.1,fun _=>hd.2,Around.frames_deeper e0.frames,.inr ⟨rfl,rfl⟩,fun b z=>absurd z (noA b),e0.bs,e0.bsz,fun b _ _=>noA b,fun b z=>absurd z (noA b),e0.funs,e0.frf⟩,
  rfl,e0.bare,Un.kept hk,⟨_,x.toInCall.ns,fun i y v h1 h2 h3=> ?_⟩,fun y c h=>⟨_,x.cell y c h⟩,e0.hok.fresh (lJd _),fun y c h=> ?_,fun p hp=>absurd (show p∈([]:List (Addr×Obj)) from hp) (by simp),e0.hok.kept hk,?_⟩
 ·exact name_of_addr x.apart (PySem.mem_of_lookup h1) (PySem.mem_of_lookup h2)
 ·have hy:scope.names.lookup y=some .cell\/scope.names.lookup y=some .free:=hy
  rcases hy with hy | hy
  ·exact cell_has hy
  ·exact absurd rfl (S.nofree _ (PySem.mem_of_lookup hy))
 ·exact Nat.le_of_lt (x.above y c (PySem.mem_of_lookup h))
 ·have hi:i<vs.length:=by
   unfold start at h2
   by_cases hi:i<vs.length
   ·exact hi
   ·rw[lKn (by simpa using hi)] at h2
    rw[lQj] at h2
    split at h2<;>cases h2
  have ha:vs[i]? =some v:=by
   unfold start at h2
   rw[lJy (by simpa using hi),lJf] at h2
   cases e:vs[i]? with
   | none=>rw[e] at h2;cases h2
   | some a=>rw[e] at h2;cases h2;rfl
  obtain⟨u,hu,rv⟩:=r.get ha
  have hp:ps[i]? =some y:=by
   rw[<-S.pre,List.getElem?_take_of_lt (by omega)];exact h1
  have ndP:ps.Nodup:=by rw[<-S.pre];exact S.nd.sublist (List.take_sublist _ _)
  refine⟨u,rv,?_⟩
  rcases S.par y (lJg hp) with k | k
  ·exact .inl ⟨k,bindL_get ndP hp hu k⟩
  ·obtain⟨c,e⟩:=cell_has (n:=s.heap.objs.size+1) k
   refine .inr ⟨.inl k,c,e,?_⟩
   have q:=x.cell y c e
   rw[bindC_get ndP hp hu (by show scope.names.lookup y≠_;rw[k];decide)] at q
   exact q
 ·exact e0.hok.fresh (Nat.le_of_lt (x.above y c (PySem.mem_of_lookup h)))
 ·unfold start
  show _=N.length
  rw[lJl,lJb,List.length_replicate]
  omega
theorem fn_of {CX:CXT} {P:Program} {w:World} {K:PySem.W.Frag} {mg:Str->Option Value} {base:Heap} {k:Nat} {f:Addr} {name qual:Str} {params:Arguments} {body:List Stmt} {scope:Scope} {dV kV doc pm cdv ct oc:Value} {an od:Option Addr}
  {osl:Array (Option Value)} {N ps:List Str} {sp:Sp} (lk:K.lookup f=some ⟨oc,od,.func (PySem.W.fnOf name qual params body scope dV kV doc pm an cdv ct),osl⟩) (hcd:PySem.W.codeIn K cdv qual=true) (S:FnScope N ps scope)
  (len:∀vs H Q E,sp vs H Q E->vs.length=ps.length)
  (hbody:∀(A:Around) (outer:List Env) (s:Shared) (H:Hp) (vs:List V) (Q:VK) (E:XK),Room k (A.deeper (envOfC qual scope s.heap.objs.size f cdv))->sp vs H Q E->
   ∃t,PSs (cxOf CX P w K mg base N qual scope f cdv A outer s H E) body t/\t {nx:=fun _ H'=>Q .non H',rt:=Q} (start N vs) H):
  FnOk P w K mg base CX (k+1) f (PySem.W.fnOf name qual params body scope dV kV doc pm an cdv ct) ps sp:=by
 refine⟨len,fun A outer s H args us vs Q E hr e0 hb r hsp=> ?_⟩
 have hl:=len _ _ _ _ hsp
 have KX:K.In s.heap:=e0.mod.kin.keeps fun b o e=>(e0.bs b o e).1
 have lim:s.heap.NoLimit:=e0.mod.nolimit.keeps fun b o e=>(e0.bs b o e).1
 have hkind:∀y∈ps.zip us,scope.names.lookup y.1=some .local\/(scope.names.lookup y.1=some .cell/\((cellsFrom (s.heap.objs.size+1) scope.names []).lookup y.1).isSome=true):=fun ⟨n,v⟩ hy=>by
  rcases S.par n (List.of_mem_zip hy).1 with q | q
  ·exact .inl q
  ·exact .inr ⟨q,PySem.W.cellsFrom_some _ _ _ (.inl q)⟩
 refine codeAny_call_function hr.depth (KX _ _ lk) rfl S.co S.gen rfl (PySem.W.codeRec_of KX hcd) (hb _ _ _ _ ?_)
 refine wpAny_newFunctionEnv_cells S.kind hkind fun env he s1 x=> ?_
 subst he
 refine⟨lim.keeps x.toInCall.keep,codeAny_func ?_⟩
 obtain⟨t,ht,hq⟩:=hbody A outer s H vs Q E (hr.deeper _) hsp
 have I:Inv (cxOf CX P w K mg base N qual scope f cdv A outer s H E) [] (start N vs) H s1:=inv_start S ⟨hr.hd,hr.gd⟩ e0 hl r x
 refine wpAny_mono (ht [] s1 (start N vs) H _ I hq) (fun fl s' hs=> ?_) fun e s' hs=>hs
 have fin:∀ {σ':St} {H':Hp} {v:V} {u:Value},Inv (cxOf CX P w K mg base N qual scope f cdv A outer s H E) [] σ' H' s'->RelV v u->Q v H'->CE outer P w H s Q u s':=
  fun {σ' H' v u} J rv q=>⟨v,H',J.os,J.bare,J.base,J.hok,rv,q⟩
 cases fl with
 | ret u=>
  obtain⟨v,σ',H',J,rv,q⟩:=hs
  exact fin J rv q
 | next=>
  obtain⟨σ',H',J,q⟩:=hs
  exact fin (v:=V.non) (u:=Value.none) J rfl q
 | brk=>
  obtain⟨_,_,_,q⟩:=hs
  exact False.elim q
 | cont=>
  obtain⟨_,_,_,q⟩:=hs
  exact False.elim q
section
variable {X:Cx} {x:Str} {p pos:Pos} {e:Expr} {es:List Expr} {t:TA} {id T:String} {r:List V->Hp->VK->Prop}
noncomputable def tCB (r:List V->Hp->VK->Prop) (t:TA):TE:=fun σ H Q=>t σ H fun vs H1=>r vs H1 Q
end
end L2
namespace HT
open PySem PyProof.Rows
theorem eqAt_int (A:Around) (s:Shared) (a:Int) (t:Tok) (c:Int) (u:Tok):∃e,SeqAt.EqAt A s (.int a t) (.int c u) e/\(e=true↔a=c):=
 ⟨(a == c),SeqAt.EqAt.int_int a t c u,by simp⟩
section
open PySem.SeqAt
open PySem.AutoSeq1 (wpAny_loadPart')
open PySem.MeetsSeq PySem.MeetsSeq2 PySem.MeetsSeq3
end
section
variable {prog:Program} {w:World} {A:Around} {E:Value->Shared->Prop} {s:Shared}
theorem cat_tup {t b:Addr} {vs ws:List Value} {Q:Value->Shared->Prop} (ht:IsTup s.heap t vs.toArray) (hb:IsTup s.heap b ws.toArray) (hv:vs≠[])
  (h1:ws=[]->Q (.ref t) s) (h2:ws≠[]->Q (.ref s.heap.objs.size) {s with heap:=s.heap.push {cls:= .type "tuple",data:= .seq (vs++ws).toArray} })
  (hsz:vs.length+ws.length<=sizeLine):wpAny (model prog w) A (binaryOp .Add (.ref t) (.ref b)) Q E s:=by
 obtain⟨⟨cls,dd,data,sl⟩,ho,hc,n,hd⟩:=id ht
 obtain⟨⟨cls2,dd2,data2,sl2⟩,ho2,hc2,n2,hd2⟩:=id hb
 simp only at hc hd hc2 hd2
 subst hc hd hc2 hd2
 have e:vs.toArray++ws.toArray=(vs++ws).toArray:=by simp
 by_cases hw:ws=[]
 ·exact concat_meets ⟨_,ho,rfl⟩ ⟨_,ho2,rfl⟩ noFill_tuple_add seq_tuple_add PySem.F.slot_tuple_add PySem.F.entry_tuple_add (PySem.F.args_tuple_add_2 _ _)
   (tuple_addW1 t b vs.toArray ws.toArray n n2 dd dd2 sl sl2 (by simpa using hv) (by simp[hw])) ⟨ho,ho2,h1 hw⟩
 ·refine concat_meets ⟨_,ho,rfl⟩ ⟨_,ho2,rfl⟩ noFill_tuple_add seq_tuple_add PySem.F.slot_tuple_add PySem.F.entry_tuple_add (PySem.F.args_tuple_add_2 _ _)
   (tuple_addW2 t b vs.toArray ws.toArray n n2 dd dd2 sl sl2 (by simpa using hv) (by simpa using hw) (by rw[lJi,lJi];exact hsz)) ⟨ho,ho2,?_⟩
  rw[e]
  exact h2 hw
noncomputable def sIx (n d:Nat):Option Int->Nat
 | none=>d
 | some v=>if v<0 then (v+(n:Int)).toNat else min v.toNat n
theorem sIx_none (n d:Nat):sIx n d none=d:=rfl
theorem sIx_nat (n d k:Nat):sIx n d (some (k:Int))=min k n:=by
 show (if (k:Int)<0 then ((k:Int)+(n:Int)).toNat else min (k:Int).toNat n)=min k n
 rw[if_neg (by omega),Int.toNat_natCast]
theorem sIx_le (n d:Nat) (hd:d<=n) (o:Option Int):sIx n d o<=n:=by
 cases o with
 | none=>exact hd
 | some v=>
  show (if v<0 then (v+(n:Int)).toNat else min v.toNat n)<=n
  by_cases hv:v<0
  ·rw[if_pos hv];omega
  ·rw[if_neg hv];exact Nat.min_le_right _ _
theorem clip_eq (v:Int) (n d:Nat):(if v<0 then max (v+(n:Int)) 0 else min v (n:Int))=((sIx n d (some v):Nat):Int):=by
 show (if v<0 then max (v+(n:Int)) 0 else min v (n:Int))=(((if v<0 then (v+(n:Int)).toNat else min v.toNat n):Nat):Int)
 by_cases hv:v<0
 ·simp only[if_pos hv];omega
 ·simp only[if_neg hv];omega
theorem adjust_gen (lo hi:Option Int) (n:Nat):Builtin.Slice.sliceAdjust lo hi 1 (n:Int)=(((sIx n 0 lo:Nat):Int),((sIx n n hi:Nat):Int)):=by
 have h1:¬ ((1:Int)<0):=by omega
 unfold Builtin.Slice.sliceAdjust
 simp only[h1,if_false]
 refine Prod.ext ?_ ?_
 ·cases lo with
  | none=>rfl
  | some v=>exact clip_eq v n 0
 ·cases hi with
  | none=>rfl
  | some v=>exact clip_eq v n n
theorem places_gen (i j:Nat):Builtin.Slice.slicePlaces (i:Int) (j:Int) 1=j-i:=by
 unfold Builtin.Slice.slicePlaces
 have h1:(1:Int)>0:=by omega
 simp only[h1,if_true,Int.ediv_one]
 split<;>omega
theorem kQv {v:Value} {o:Option Int} {Q:Option Int->Shared->Prop} (p:IsPart v o) (h:Q o s):wpAny (model prog w) A (Builtin.Slice.slicePartIndex v) Q E s:=by
 cases p with
 | none=>exact slicePart_none h
 | int i t=>exact slicePart_int h
theorem jXq {sl:Addr} {vl vu:Value} {lo hi:Option Int} {n:Nat} {Q:Int×Int×Nat->Shared->Prop} (hs:s.heap.IsSliceOf sl vl vu .none) (pl:IsPart vl lo) (pu:IsPart vu hi)
  (h:Q (((sIx n 0 lo:Nat):Int),1,sIx n n hi-sIx n 0 lo) s):wpAny (model prog w) A (Builtin.Slice.sliceApplied (.ref sl) (pure (n:Int))) Q E s:=by
 obtain⟨os,hos,hcs,hds⟩:=id hs
 unfold Builtin.Slice.sliceApplied Builtin.Slice.sliceFields
 refine wpAny_bind (wpAny_bind (wpAny_field hos hds (x:=vl) rfl (wpAny_bind (wpAny_field hos hds (x:=vu) rfl (wpAny_bind (wpAny_field hos hds (x:= .none) rfl (wpAny_pure ?_)))))))
 refine wpAny_bind (slicePart_none ?_)
 show wpAny _ _ (if ((1:Int) == 0)=true then _ else _) _ _ s
 rw[if_neg (by decide)]
 refine wpAny_bind (kQv pl (wpAny_bind (kQv pu (wpAny_bind (wpAny_pure ?_)))))
 show wpAny _ _ (match Builtin.Slice.sliceAdjust lo hi 1 (n:Int) with | (lo,hi)=>pure (lo,(1:Int),Builtin.Slice.slicePlaces lo hi 1)) _ _ s
 rw[adjust_gen lo hi n]
 show wpAny _ _ (pure (((sIx n 0 lo:Nat):Int),(1:Int),Builtin.Slice.slicePlaces ((sIx n 0 lo:Nat):Int) ((sIx n n hi:Nat):Int) 1)) _ _ s
 rw[places_gen]
 exact wpAny_pure h
theorem pick_gen (xs:Array Value) (i k:Nat):((List.range k).filterMap fun (m:Nat)=>xs[((i:Int)+(m:Int)*1).toNat]?).toArray=((xs.toList.drop i).take k).toArray:=by
 have e:(fun (m:Nat)=>xs[((i:Int)+(m:Int)*1).toNat]?)=fun m=>xs[i+m]? :=by
  funext m
  have:((i:Int)+(m:Int)*1).toNat=i+m:=by omega
  rw[this]
 rw[e]
 have:=pick_run xs i k
 rw[List.filterMap_map] at this
 have e2:((fun x=>xs[x]?)∘fun x=>i+x)=fun m=>xs[i+m]? :=rfl
 rw[e2] at this
 rw[this]
theorem getItem_tuple_cut {t sl:Addr} {items:Array Value} {vl vu:Value} {lo hi:Option Int} {Q:Value->Shared->Prop} (ht:IsTup s.heap t items) (hs:s.heap.IsSliceOf sl vl vu .none) (pl:IsPart vl lo) (pu:IsPart vu hi)
  (hw:¬ (sIx items.size 0 lo=0/\sIx items.size items.size hi=items.size))
  (h:Q (.ref s.heap.objs.size) {s with heap:=s.heap.push {cls:= .type "tuple",data:= .seq ((items.toList.drop (sIx items.size 0 lo)).take (sIx items.size items.size hi-sIx items.size 0 lo)).toArray} })
  (hsz:items.size<=sizeLine):wpAny (model prog w) A (getItem (.ref t) (.ref sl)) Q E s:=by
 have htake:sizeOk (.seq ((items.toList.drop (sIx items.size 0 lo)).take (sIx items.size items.size hi-sIx items.size 0 lo)).toArray):=by
  show ((items.toList.drop (sIx items.size 0 lo)).take (sIx items.size items.size hi-sIx items.size 0 lo)).toArray.size<=sizeLine
  rw[lJi,lKm,List.length_drop,Array.length_toList]
  omega
 have hj:sIx items.size items.size hi<=items.size:=sIx_le _ _ (lJd _) hi
 obtain⟨os,hos,hcs,hds⟩:=id hs
 have hTs:s.TypeIs (.ref sl) "slice":=⟨os,hos,hcs⟩
 unfold getItem
 try with_reducible refine wpAny_holding ?_
 first | refine wpAny_bind (wpAny_pure ?_) | skip
 refine wpAny_bind (wpAny_sequenceKey ht.typeIs (by decide) ?_)
 refine wpAny_bind (wpAny_callSpecial?_slot (name:=Str.ofString "__getitem__") ht.typeIs PyProof.Rows.slot_tuple_getitem
  (wpAny_call_entry PyProof.Rows.slot_tuple_getitem ht.typeIs entry_tuple_getitem ?_ (args_tuple_getitem _ _)))
 show wpAny _ _ (Builtin.Tuple.tupleItemsOf (.ref t) >>= _) _ _ s
 refine wpAny_bind (tupleItemsOf_ ht ?_)
 refine wpAny_bind (wpAny_typeOf hTs ?_)
 rw[if_pos (by decide)]
 refine wpAny_bind (jXq hs pl pu ?_)
 have hno:¬ ((((sIx items.size 0 lo:Nat):Int) == 0&&(1:Int) == 1&&(sIx items.size items.size hi-sIx items.size 0 lo) == items.size)=true):=by
  intro q
  rw[lJ3,lJ3] at q
  have q1:((sIx items.size 0 lo:Nat):Int)=0:=eq_of_beq q.1.1
  have q2:sIx items.size items.size hi-sIx items.size 0 lo=items.size:=eq_of_beq q.2
  exact hw ⟨by omega,by omega⟩
 show wpAny _ _ (if (((sIx items.size 0 lo:Nat):Int) == 0&&(1:Int) == 1&&(sIx items.size items.size hi-sIx items.size 0 lo) == items.size)=true then _ else _) _ _ s
 rw[if_neg hno,pick_gen]
 first
  | exact wpAny_bind (m:=Builtin.Tuple.tupleExact _) (wpAny_newObj_type (wpAny_pure ⟨_,rfl,wpAny_pure h⟩) htake)
  | exact wpAny_bind (m:=Builtin.Tuple.tupleExact _) (wpAny_newObj_type (wpAny_bind (wpAny_pure (wpAny_pure ⟨_,rfl,wpAny_pure h⟩))) htake)
  | exact wpAny_bind (wpAny_bind (m:=Builtin.Tuple.tupleExact _) (wpAny_newObj_type (wpAny_pure (wpAny_pure ⟨_,rfl,wpAny_pure h⟩)) htake))
  | exact wpAny_bind (wpAny_bind (m:=Builtin.Tuple.tupleExact _) (wpAny_newObj_type (wpAny_pure ⟨_,rfl,wpAny_pure h⟩) htake))
end
end HT
namespace L2
open PySem PySem.Spec PyProof.Rows
noncomputable abbrev TO:=St->Hp->(Option Int->Hp->Prop)->Prop
noncomputable def jJs:TO:=fun _ H Q=>Q none H
noncomputable def jKf (t:TE):TO:=fun σ H Q=>t σ H fun x H1=>∃i,x= .int i/\Q (some i) H1
theorem kQ5 {ns:List Int}:∀ {us:List Value},Vals (ns.map V.int) us->IntsAre us ns:=by
 induction ns with
 | nil=>intro us r;rw[List.map_nil] at r;cases r;exact .nil
 | cons n ns ih=>
  intro us r
  rw[lJ4] at r
  cases r with
  | cons r1 r2=>
   obtain⟨t,e⟩:=r1
   subst e
   exact .cons n t (ih r2)
section
variable {X:Cx} {e:Expr} {te:TE} {lo hi:Option Expr} {tl th:TO} {pos p2:Pos}
def SlR (X:Cx) (r:V->Option Int->Option Int->Hp->VK->Prop):Prop:=
 ∀(pins:List (Addr×Obj)) (s:Shared) (σ:St) (H:Hp) (x:V) (v vl vu:Value) (lo hi:Option Int) (sl:Addr) (Q:VK),Inv X pins σ H s->RelV x v->s.heap.IsSliceOf sl vl vu .none->IsPart vl lo->IsPart vu hi->r x lo hi H Q->
  ∃T id,typeLookup (.type T) "__getitem__"=pure (some (.builtin id))/\s.TypeIs v T/\wpAny (model X.prog X.w) X.A (getItem v (.ref sl)) (EP X pins σ Q) X.xe s
noncomputable def tSl (r:V->Option Int->Option Int->Hp->VK->Prop) (te:TE) (tl th:TO):TE:=fun σ H Q=>te σ H fun x H1=>tl σ H1 fun l H2=>th σ H2 fun u H3=>r x l u H3 Q
noncomputable def cutV (xs:List V) (lo hi:Option Int):List V:=(xs.drop (HT.sIx xs.length 0 lo)).take (HT.sIx xs.length xs.length hi-HT.sIx xs.length 0 lo)
theorem kKw (xs:List V) (lo hi:Option Int):(cutV xs lo hi).length<=xs.length:=by
 unfold cutV
 rw[lKm,List.length_drop]
 omega
noncomputable def rSlT (K:PySem.W.Frag):V->Option Int->Option Int->Hp->VK->Prop:=fun x lo hi H Q=>∃a xs,x= .ref a/\SqT K H a xs/\
 ¬ (HT.sIx xs.length 0 lo=0/\HT.sIx xs.length xs.length hi=xs.length)/\∀p,H p=none->Q (.ref p) (upd H p (.tup (cutV xs lo hi)))
theorem sl_tup:SlR X (rSlT X.K):=by
 intro pins s σ H x v vl vu lo hi sl Q I rx hs pl pu h
 obtain⟨a,xs,rfl,hx,hw,q⟩:=h
 cases rx
 obtain⟨its,r,ht,hz⟩:=I.tuple hx
 have hlen:its.toArray.size=xs.length:=by rw[lJi];exact r.length.symm
 refine⟨"tuple",_,PyProof.Rows.slot_tuple_getitem.lookup,ht.typeIs,?_⟩
 refine HT.getItem_tuple_cut ht hs pl pu (by rw[hlen];exact hw) ?_ (by rw[hlen];exact hz)
 rw[hlen]
 refine⟨.ref s.heap.objs.size,_,I.laid (t':=s.toks) (o:= .tup (cutV xs lo hi)) (fun b ob q=>Heap.get?_push_of_some _ q) (lJd _) ?_,rfl,q _ (I.hok.fresh (lJd _))⟩
 exact⟨lJo (kKw xs lo hi) hz,_,(r.drop (HT.sIx xs.length 0 lo)).take (HT.sIx xs.length xs.length hi-HT.sIx xs.length 0 lo),TupD.new _ _⟩
noncomputable def rCatT (K:PySem.W.Frag):R2:=fun x y H Q=>∃a b xs ys,x= .ref a/\y= .ref b/\SqT K H a xs/\SqT K H b ys/\xs≠[]/\xs.length+ys.length<=sizeLine/\
 (ys=[]->Q (.ref a) H)/\(ys≠[]->∀p,H p=none->Q (.ref p) (upd H p (.tup (xs++ys))))
theorem Vals.nil_iff {xs:List V} {us:List Value} (r:Vals xs us):us=[]↔xs=[]:=by
 cases r with
 | nil=>simp
 | cons _ _=>simp
theorem op_catT:OpR X (binaryOp .Add) (rCatT X.K):=by
 intro pins s σ H x y v u Q I rx ry h
 obtain⟨a,b,xs,ys,rfl,rfl,ha,hb,hx,hz,q1,q2⟩:=h
 cases rx
 cases ry
 obtain⟨its,r1,p1,_⟩:=I.tuple ha
 obtain⟨its2,r2,p2,_⟩:=I.tuple hb
 refine HT.cat_tup p1 p2 (fun z=>hx (r1.nil_iff.mp z)) (fun z=>⟨.ref a,H,I,rfl,q1 (r2.nil_iff.mp z)⟩) (fun z=> ?_) (by rw[<-r1.length,<-r2.length];exact hz)
 refine⟨.ref s.heap.objs.size,_,I.laid (t':=s.toks) (o:= .tup (xs++ys)) (fun b ob q=>Heap.get?_push_of_some _ q) (lJd _) ?_,rfl,q2 (fun w=>z (r2.nil_iff.mpr w)) _ (I.hok.fresh (lJd _))⟩
 exact⟨by rw[lJl];exact hz,_,r1.append r2,TupD.new _ _⟩
end
noncomputable def ixN (n:Nat) (i:Int):Option Nat:=if 0<=i then (if i<n then some i.toNat else none) else if -(n:Int)<=i then some (i+n).toNat else none
noncomputable def atI {α:Type} (xs:List α) (i:Int):Option α:=(ixN xs.length i).bind fun j=>xs[j]?
theorem ixN_seq {n:Nat} {i:Int} {j:Nat} (h:ixN n i=some j):seqIndex? i n=some j/\j<n/\ -(n:Int)<=i/\i<n:=by
 unfold ixN at h
 by_cases h0:0<=i
 ·rw[if_pos h0] at h
  by_cases h1:i<n
  ·rw[if_pos h1] at h
   have e:i.toNat=j:=lJ0 h
   exact⟨by rw[seqIndex_of h0 h1,e],by omega,by omega,h1⟩
  ·rw[if_neg h1] at h;cases h
 ·rw[if_neg h0] at h
  by_cases h1: -(n:Int)<=i
  ·rw[if_pos h1] at h
   have e:(i+n).toNat=j:=lJ0 h
   exact⟨by rw[seqIndex_neg (by omega) h1,e],by omega,h1,by omega⟩
  ·rw[if_neg h1] at h;cases h
theorem atI_get {α:Type} {xs:List α} {i:Int} {v:α} (h:atI xs i=some v):∃j,seqIndex? i xs.length=some j/\xs[j]? =some v/\j<xs.length/\ -(xs.length:Int)<=i/\i<xs.length:=by
 unfold atI at h
 cases e:ixN xs.length i with
 | none=>rw[e] at h;cases h
 | some j=>
  rw[e] at h
  obtain⟨h1,h2,h3,h4⟩:=ixN_seq e
  exact⟨j,h1,h,h2,h3,h4⟩
theorem atI_nat {α:Type} {xs:List α} {j:Nat} {v:α} (h:xs[j]? =some v):atI xs (j:Int)=some v:=by
 have hj:j<xs.length:=(lJa.mp h).1
 have e:ixN xs.length (j:Int)=some j:=by
  unfold ixN
  rw[if_pos (by omega),if_pos (by omega)];simp
 unfold atI;rw[e];exact h
def PlainIx (b:Expr):Prop:=∀o i,subscripted b false o i=operate [o,i] (getItem o i)
def IxR (X:Cx) (r:R2):Prop:=
 ∀(value slice:Expr) (pins:List (Addr×Obj)) (s:Shared) (σ:St) (H:Hp) (x y:V) (v u:Value) (Q:VK),Inv X pins σ H s->RelV x v->RelV y u->r x y H Q->
  subscripted slice false v u=operate [v,u] (getItem v u)->wpAny (model X.prog X.w) X.A (subscriptTail value slice v u) (EP X pins σ Q) X.xe s
def MtR (X:Cx) (id:String) (r:V->List V->Hp->VK->Prop):Prop:=
 ∀(pins:List (Addr×Obj)) (s:Shared) (σ:St) (H:Hp) (x:V) (xs:List V) (v:Value) (us:List Value) (Q:VK),Inv X pins σ H s->RelV x v->Vals xs us->r x xs H Q->
  wpAny (model X.prog X.w) X.A (call (.builtin id) (v::us)) (EP X pins σ Q) X.xe s
section
variable {X:Cx} {a b:Expr} {ta tb:TE} {pos:Pos}
theorem IxR.or {r r':R2} (h:IxR X r) (h':IxR X r'):IxR X (fun x y H Q=>r x y H Q\/r' x y H Q):=by
 intro value slice pins s σ H x y v u Q I rx ry q hs
 rcases q with q | q
 ·exact h value slice pins s σ H x y v u Q I rx ry q hs
 ·exact h' value slice pins s σ H x y v u Q I rx ry q hs
noncomputable def rIxL (K:PySem.W.Frag):R2:=fun x y H Q=>∃p xs i v,x= .ref p/\y= .int i/\SqL K H p xs/\atI xs i=some v/\Q v H
noncomputable def rIxT (K:PySem.W.Frag):R2:=fun x y H Q=>∃p xs i v,x= .ref p/\y= .int i/\SqT K H p xs/\atI xs i=some v/\Q v H
noncomputable def rIxS:R2:=fun x y H Q=>∃z i c,x= .str z/\y= .int i/\z.length<=sizeLine/\atI z.cps.toList i=some c/\Q (.str ⟨#[c]⟩) H
theorem ix_list:IxR X (rIxL X.K):=by
 intro value slice pins s σ H x y v u Q I rx ry h hs
 obtain⟨p,xs,i,z,rfl,rfl,hq,he,q⟩:=h
 cases rx
 obtain⟨t,rfl⟩:=ry
 obtain⟨its,r,pl,hz⟩:=I.list hq
 obtain⟨j,h1,h2,h3,h4,h5⟩:=atI_get he
 obtain⟨w,ew,rw'⟩:=r.get h2
 have hl:=r.length
 have hn:=kQ1
 have fin:EP X pins σ Q w s:=⟨z,H,I,rw',q⟩
 by_cases h0:0<=i
 ·have hj:i.toNat=j:=by
   rw[seqIndex_of h0 h5] at h1
   exact lJ0 h1
  exact item_listR pl.isList h0 (by omega) (by rw[hj];simpa using ew) fin hs
 ·have hj:(i+(its.toArray.size:Int)).toNat=j:=by
   rw[seqIndex_neg (by omega) h4] at h1
   rw[lJi,<-hl]
   exact lJ0 h1
  exact subscriptTail_builtinR (x:=w) pl.isList.typeIs slot_list_getitem.lookup
   (wpAny_getItem_list_neg (Q:=fun r s'=>r=w/\EP X pins σ Q r s') pl.isList (by omega) (by rw[lJi]<;>omega) (by omega) (by rw[hj];simpa using ew) ⟨rfl,fin⟩) hs
theorem ix_tup:IxR X (rIxT X.K):=by
 intro value slice pins s σ H x y v u Q I rx ry h hs
 obtain⟨p,xs,i,z,rfl,rfl,hq,he,q⟩:=h
 cases rx
 obtain⟨t,rfl⟩:=ry
 obtain⟨its,r,pl,hz⟩:=I.tuple hq
 obtain⟨j,h1,h2,h3,h4,h5⟩:=atI_get he
 obtain⟨w,ew,rw'⟩:=r.get h2
 have hl:=r.length
 have hn:=kQ1
 have fin:EP X pins σ Q w s:=⟨z,H,I,rw',q⟩
 exact subscriptTail_builtinR (x:=w) pl.typeIs slot_tuple_getitem.lookup
  (getItem_tuple (j:=j) (Q:=fun r s'=>r=w/\EP X pins σ Q r s') pl (by omega) (by omega) (by rw[lJi,<-hl];exact h1) (by simpa using ew) ⟨rfl,fin⟩) hs
noncomputable def rIx (K:PySem.W.Frag):R2:=fun x y H Q=>rIxL K x y H Q\/rIxT K x y H Q\/rIxS x y H Q
theorem mapSeq_set (its:List Value) (n j:Nat) (u:Value):Obj.mapSeq (·.setIfInBounds j u) {cls:= .type "list",data:= .seq its.toArray n}={cls:= .type "list",data:= .seq (its.set j u).toArray n}:=by
 simp[Obj.mapSeq]
theorem Inv.lst {pins:List (Addr×Obj)} {σ:St} {H:Hp} {s:Shared} {p:Addr} {xs:List V} (I:Inv X pins σ H s) (h:H p=some (.lst xs)):
  ∃(its:List Value) (n:Nat),Vals xs its/\s.heap.get? p=some {cls:= .type "list",data:= .seq its.toArray n}/\xs.length<=sizeLine:=by
 obtain⟨z,its,n,r,e⟩:=I.hok p _ h
 exact⟨its,n,r,e,z⟩
theorem Inv.lstUpd {pins:List (Addr×Obj)} {σ:St} {H:Hp} {s:Shared} {p:Addr} {xs ys:List V} {its its':List Value} {n n':Nat} {f:Obj->Obj} (I:Inv X pins σ H s) (h:H p=some (.lst xs))
  (ho:s.heap.get? p=some {cls:= .type "list",data:= .seq its.toArray n}) (hf:f {cls:= .type "list",data:= .seq its.toArray n}={cls:= .type "list",data:= .seq its'.toArray n'}) (r:Vals ys its') (hz:ys.length<=sizeLine) (t:Nat):
  Inv X pins σ (upd H p (.lst ys)) {s with heap:=s.heap.update p f,toks:=t}:=by
 have e:(s.heap.update p f).get? p=some {cls:= .type "list",data:= .seq its'.toArray n'}:=by
  rw[Heap.get?_update_self f ho (by rw[hf]<;>rfl),hf]
 refine I.write (x:=p) (e:=p) (by rw[h];trivial) (.inl rfl) (fun b u hb q=>(Heap.get?_update_other _ _ (Ne.symm hb)).trans q) ⟨_,e⟩ ?_
 exact⟨hz,its',n',r,e⟩
noncomputable def rSetL:V->V->V->Hp->(Hp->Prop)->Prop:=fun o i v H Q=>∃p xs k j,o= .ref p/\i= .int k/\H p=some (.lst xs)/\ixN xs.length k=some j/\Q (upd H p (.lst (xs.set j v)))
theorem set_list:PSet X rSetL:=by
 intro pins s σ H o i v ov iv u Q I ro ri rv h
 obtain⟨p,xs,k,j,rfl,rfl,hp,hj,q⟩:=h
 cases ro
 obtain⟨t,rfl⟩:=ri
 obtain⟨its,n,r,ho,hz⟩:=I.lst hp
 obtain⟨h1,h2,h3,h4⟩:=ixN_seq hj
 have hl:=r.length
 have hn:=kQ1
 have I':Inv X pins σ (upd H p (.lst (xs.set j v))) {s with heap:=s.heap.update p (Obj.mapSeq (·.setIfInBounds j u))}:=
  I.lstUpd hp ho (mapSeq_set its n j u) (r.set rv j) (by rw[lKo];exact hz) s.toks
 by_cases h0:0<=k
 ·have hk:k.toNat=j:=by
   rw[seqIndex_of h0 h4] at h1
   exact lJ0 h1
  exact PySem.W.ki_setAt ho h0 (by omega) (by rw[lJi,<-hl];exact h4) (by rw[hk];exact⟨_,I',q⟩)
 ·have hk:(k+(its.toArray.size:Int)).toNat=j:=by
   rw[seqIndex_neg (by omega) h3] at h1
   rw[lJi,<-hl]
   exact lJ0 h1
  exact PySem.W.ki_setBack ho (by omega) (by rw[lJi,<-hl];exact h3) (by omega) (by rw[hk];exact⟨_,I',q⟩)
theorem slice_bounds (lo hi:Option Int) (n:Nat):(sliceBounds lo hi none n).1=((HT.sIx n 0 lo:Nat):Int)/\(sliceBounds lo hi none n).2.1=((HT.sIx n n hi:Nat):Int)/\(sliceBounds lo hi none n).2.2=1:=by
 refine⟨?_,?_,rfl⟩
 ·cases lo with
  | none=>simp[sliceBounds,HT.sIx]
  | some i=>
   simp only[sliceBounds,HT.sIx,Option.getD_none,show (1:Int)>0 by decide,if_true]
   by_cases h:i<0
   ·simp only[h,if_true]<;>omega
   ·simp only[h,if_false]<;>omega
 ·cases hi with
  | none=>simp[sliceBounds,HT.sIx]
  | some i=>
   simp only[sliceBounds,HT.sIx,Option.getD_none,show (1:Int)>0 by decide,if_true]
   by_cases h:i<0
   ·simp only[h,if_true]<;>omega
   ·simp only[h,if_false]<;>omega
theorem kUq (its:List Value) (lo hi:Option Int):slicePick its.toArray lo hi none=((its.drop (HT.sIx its.length 0 lo)).take (HT.sIx its.length its.length hi-HT.sIx its.length 0 lo)).toArray:=by
 obtain⟨h1,h2,h3⟩:=slice_bounds lo hi its.toArray.size
 unfold slicePick
 rw[h1,h2,h3]
 simp only[sliceRange_one,pick_run,lJi]<;>rfl
noncomputable def rSlL (K:PySem.W.Frag):V->Option Int->Option Int->Hp->VK->Prop:=fun x lo hi H Q=>∃a xs,x= .ref a/\SqL K H a xs/\∀p,H p=none->Q (.ref p) (upd H p (.lst (cutV xs lo hi)))
theorem sl_list:SlR X (rSlL X.K):=by
 intro pins s σ H x v vl vu lo hi sl Q I rx hs pl pu h
 obtain⟨a,xs,rfl,hx,q⟩:=h
 cases rx
 obtain⟨its,r,ht,hz⟩:=I.list hx
 have hlen:=r.length
 refine⟨"list",_,slot_list_getitem.lookup,ht.isList.typeIs,?_⟩
 refine wpAny_getItem_list_slice ht.isList hs pl pu .none (by simp) ?_ (by rw[lJi]<;>omega)
 rw[kUq,<-hlen]
 refine⟨.ref s.heap.objs.size,_,I.laid (t':=s.toks) (o:= .lst (cutV xs lo hi)) (fun b ob q=>Heap.get?_push_of_some _ q) (lJd _) ?_,rfl,q _ (I.hok.fresh (lJd _))⟩
 exact⟨lJo (kKw xs lo hi) hz,_,0,(r.drop (HT.sIx xs.length 0 lo)).take (HT.sIx xs.length xs.length hi-HT.sIx xs.length 0 lo),Heap.get?_push_size _ rfl⟩
noncomputable def kQs:V->Bool
 | .non=>true
 | .bl _=>true
 | .int _=>true
 | .str _=>true
 | _=>false
noncomputable def eqV:V->V->Bool
 | .non,.non=>true
 | .bl a,.bl b=>a == b
 | .bl a,.int b=>(if a then 1 else 0) == b
 | .int a,.bl b=>a == (if b then 1 else 0)
 | .int a,.int b=>a == b
 | .str a,.str b=>a == b
 | _,_=>false
theorem eqAt_V {A:Around} {s:Shared} {y x:V} {u v:Value} (ry:RelV y u) (rx:RelV x v) (fy:kQs y=true) (fx:kQs x=true):SeqAt.EqAt A s u v (eqV y x):=by
 cases y with
 | non=>
  cases ry
  cases x with
  | non=>cases rx;exact SeqAt.EqAt.same _
  | bl b=>cases rx;exact SeqAt.EqAt.none_bool b
  | int b=>obtain⟨t,rfl⟩:=rx;exact SeqAt.EqAt.none_int b t
  | str b=>obtain⟨t,rfl⟩:=rx;exact SeqAt.EqAt.none_str b t
  | _=>exact absurd (show false=true from fx) lJe
 | bl a=>
  cases ry
  cases x with
  | non=>cases rx;exact SeqAt.EqAt.bool_none a
  | bl b=>cases rx;exact SeqAt.EqAt.bool_bool a b
  | int b=>obtain⟨t,rfl⟩:=rx;exact SeqAt.EqAt.bool_int a b t
  | str b=>obtain⟨t,rfl⟩:=rx;exact SeqAt.EqAt.bool_str a b t
  | _=>exact absurd (show false=true from fx) lJe
 | int a=>
  obtain⟨t',rfl⟩:=ry
  cases x with
  | non=>cases rx;exact SeqAt.EqAt.int_none a t'
  | bl b=>cases rx;exact SeqAt.EqAt.int_bool a t' b
  | int b=>obtain⟨t,rfl⟩:=rx;exact SeqAt.EqAt.int_int a t' b t
  | str b=>obtain⟨t,rfl⟩:=rx;exact SeqAt.EqAt.int_str a t' b t
  | _=>exact absurd (show false=true from fx) lJe
 | str a=>
  obtain⟨t',rfl⟩:=ry
  cases x with
  | non=>cases rx;exact SeqAt.EqAt.str_none a t'
  | bl b=>cases rx;exact SeqAt.EqAt.str_bool a t' b
  | int b=>obtain⟨t,rfl⟩:=rx;exact SeqAt.EqAt.str_int a t' b t
  | str b=>obtain⟨t,rfl⟩:=rx;exact SeqAt.EqAt.str_str a t' b t
  | _=>exact absurd (show false=true from fx) lJe
 | _=>exact absurd (show false=true from fy) lJe
noncomputable def eqU (x:V) (u:Value):Bool:=match u with
 | .none=>eqV .non x
 | .bool b=>eqV (.bl b) x
 | .int i _=>eqV (.int i) x
 | .str z _=>eqV (.str z) x
 | _=>false
theorem eqU_of {x y:V} {u:Value} (r:RelV y u) (f:kQs y=true):eqU x u=eqV y x:=by
 cases y with
 | non=>cases r;rfl
 | bl b=>cases r;rfl
 | int i=>obtain⟨t,rfl⟩:=r;rfl
 | str z=>obtain⟨t,rfl⟩:=r;rfl
 | _=>exact absurd (show false=true from f) lJe
theorem kK0 {x:V}:∀ {xs:List V} {us:List Value},Vals xs us->xs.all kQs=true->us.any (eqU x)=xs.any fun y=>eqV y x
 | _,_,.nil,_=>rfl
 | y::xs,u::us,.cons r t,f=>by
  rw[lKp,lJ3] at f
  rw[lKi,lKi,eqU_of r f.1,kK0 t f.2]
theorem jYi {A:Around} {s:Shared} {x:V} {v:Value} (rx:RelV x v) (fx:kQs x=true):∀ {xs:List V} {us:List Value},Vals xs us->xs.all kQs=true->∀u∈us,SeqAt.EqAt A s u v (eqU x u)
 | _,_,.nil,_=>fun u hu=>by cases hu
 | y::xs,u::us,.cons r t,f=>fun u' hu=>by
  rw[lKp,lJ3] at f
  rcases (lJk.mp hu) with rfl | hu
  ·rw[eqU_of r f.1];exact eqAt_V r rx f.1 fx
  ·exact jYi rx fx t f.2 u' hu
noncomputable def inV (x:V) (xs:List V):Bool:=xs.any fun y=>eqV y x
noncomputable def rIn (K:PySem.W.Frag) (neg:Bool):R2:=fun x y H Q=>∃p xs,y= .ref p/\(SqL K H p xs\/SqT K H p xs)/\kQs x=true/\xs.all kQs=true/\Q (.bl (if neg then !inV x xs else inV x xs)) H
theorem op_in_seq:OpR X (compareOp .In) (rIn X.K false):=by
 intro pins s σ H x y v u Q I rx ry h
 obtain⟨p,xs,rfl,hq,fx,fs,q⟩:=h
 cases ry
 rcases hq with hq | hq
 ·obtain⟨its,r,pl,hz⟩:=I.list hq
  refine SeqAt.in_listAt (eqU x) pl.isList (fun w hw=>jYi rx fx r fs w (by simpa using hw)) ⟨.bl _,H,I,rfl,?_⟩
  rw[show its.toArray.any (eqU x)=its.any (eqU x) by simp,kK0 r fs]
  exact q
 ·obtain⟨its,r,pl,hz⟩:=I.tuple hq
  refine SeqAt.in_tupleAt (eqU x) pl (fun w hw=>jYi rx fx r fs w (by simpa using hw)) ⟨.bl _,H,I,rfl,?_⟩
  rw[show its.toArray.any (eqU x)=its.any (eqU x) by simp,kK0 r fs]
  exact q
theorem op_notIn_seq:OpR X (compareOp .NotIn) (rIn X.K true):=by
 intro pins s σ H x y v u Q I rx ry h
 obtain⟨p,xs,rfl,hq,fx,fs,q⟩:=h
 cases ry
 rcases hq with hq | hq
 ·obtain⟨its,r,pl,hz⟩:=I.list hq
  refine SeqAt.notIn_listAt (eqU x) pl.isList (fun w hw=>jYi rx fx r fs w (by simpa using hw)) ⟨.bl _,H,I,rfl,?_⟩
  rw[show its.toArray.any (eqU x)=its.any (eqU x) by simp,kK0 r fs]
  exact q
 ·obtain⟨its,r,pl,hz⟩:=I.tuple hq
  refine SeqAt.notIn_tupleAt (eqU x) pl (fun w hw=>jYi rx fx r fs w (by simpa using hw)) ⟨.bl _,H,I,rfl,?_⟩
  rw[show its.toArray.any (eqU x)=its.any (eqU x) by simp,kK0 r fs]
  exact q
theorem call_len_seq:kQt X (.builtin "len") (fun xs H Q=>∃p ys,xs=[.ref p]/\(SqL X.K H p ys\/SqT X.K H p ys)/\Q (.int ys.length) H):=by
 intro pins s σ H xs us Q I r h
 obtain⟨p,ys,rfl,hq,q⟩:=h
 obtain⟨u,rfl,rx⟩:=vals1 r
 cases rx
 have hn:=kQ1
 rcases hq with hq | hq
 ·obtain⟨its,r',pl,hz⟩:=I.list hq
  have hlen:=r'.length
  exact Calls.call_len_list pl.isList (by simp only[lJi]<;>omega) ⟨.int ys.length,H,I.tok _,⟨s.toks+1,by rw[lJi,hlen]⟩,q⟩
 ·obtain⟨its,r',pl,hz⟩:=I.tuple hq
  have hlen:=r'.length
  exact len_tuple pl (by simp only[lJi]<;>omega) ⟨.int ys.length,H,I.tok _,⟨s.toks+1,by rw[lJi,hlen]⟩,q⟩
theorem call_list_of:kQt X (.type "list") (fun xs H Q=>∃p ys,xs=[.ref p]/\(SqL X.K H p ys\/SqT X.K H p ys)/\∀l,H l=none->Q (.ref l) (upd H l (.lst ys))):=by
 intro pins s σ H xs us Q I r h
 obtain⟨p,ys,rfl,hq,q⟩:=h
 obtain⟨u,rfl,rx⟩:=vals1 r
 cases rx
 have fin:∀(its:List Value),Vals ys its->ys.length<=sizeLine->∀(h':Heap) (c':Nat),(∀b o',s.heap.get? b=some o'->h'.get? b=some o')->
   h'.get? s.heap.objs.size=some {cls:= .type "list",dict:=none,data:= .seq its.toArray c',slots:= #[]}->EP X pins σ Q (.ref s.heap.objs.size) {s with heap:=h'}:=fun its r' hz h' c' kp e=>
  ⟨.ref s.heap.objs.size,_,I.laid (t':=s.toks) kp (lJd _) (show ObjOk X.prog X.w _ h' _ (.lst ys) from⟨hz,its,c',r',e⟩),rfl,q _ (I.hok.fresh (lJd _))⟩
 rcases hq with hq | hq
 ·obtain⟨its,r',pl,hz⟩:=I.list hq
  have hlen:=r'.length
  obtain⟨o,ho,hc,n,hd⟩:=pl.isList
  exact call_list_seq p (.inl rfl) ho hc hd (fun h' c' kp e=>fin its r' hz h' c' kp e) (by simp only[lJi]<;>omega)
 ·obtain⟨its,r',pl,hz⟩:=I.tuple hq
  have hlen:=r'.length
  obtain⟨o,ho,hc,n,hd⟩:=pl
  exact call_list_seq p (.inr rfl) ho hc hd (fun h' c' kp e=>fin its r' hz h' c' kp e) (by simp only[lJi]<;>omega)
theorem kVx:kQt X (.type "tuple") (fun xs H Q=>∃p ys,xs=[.ref p]/\((SqL X.K H p ys/\∀l,H l=none->Q (.ref l) (upd H l (.tup ys)))\/(SqT X.K H p ys/\Q (.ref p) H))):=by
 intro pins s σ H xs us Q I r h
 obtain⟨p,ys,rfl,h⟩:=h
 obtain⟨u,rfl,rx⟩:=vals1 r
 cases rx
 rcases h with ⟨hq,q⟩ | ⟨hq,q⟩
 ·obtain⟨its,r',pl,hz⟩:=I.list hq
  have hlen:=r'.length
  refine call_tuple_list pl.isList (fun h' kp=> ?_) (by simp only[lJi]<;>omega)
  have I1:Inv X pins σ H {s with heap:=h'}:=I.kept (t':=s.toks) kp
  have I2:Inv X pins σ (upd H h'.objs.size (.tup ys)) {s with heap:=h'.push {cls:= .type "tuple",data:= .seq its.toArray} }:=
   I1.laid (t':=s.toks) (fun b o e=>Heap.get?_push_of_some _ e) (lJd _) (show ObjOk X.prog X.w _ _ _ (.tup ys) from⟨hz,its,r',TupD.new _ _⟩)
  exact⟨.ref h'.objs.size,_,I2,rfl,q _ (I1.hok.fresh (lJd _))⟩
 ·obtain⟨its,r',pl,hz⟩:=I.tuple hq
  exact call_tuple_same pl ⟨.ref p,H,I,rfl,q⟩
def tyV (K:PySem.W.Frag) (T:String) (x:V) (H:Hp):Prop:=match x with
 | .str _=>T="str"
 | .int _=>T="int"
 | .ref p=>(T="list"/\∃xs,SqL K H p xs)\/(T="tuple"/\∃o,K.lookup p=some o/\o.cls= .type "tuple"/\o.dict=none)\/
   (T="dict"/\((∃kvs,H p=some (.dK kvs))\/∃kvs,H p=some (.dT kvs)))\/(T="set"/\∃S n,H p=some (.set S n))
 | _=>False
theorem tyV_is {pins:List (Addr×Obj)} {σ:St} {H:Hp} {s:Shared} {T:String} {x:V} {v:Value} (I:Inv X pins σ H s) (r:RelV x v) (ty:tyV X.K T x H):
  s.TypeIs v T/\∀a,v= .ref a->∃ob,s.heap.get? a=some ob/\ob.dict=none:=by
 cases x with
 | str z=>
  obtain⟨t,rfl⟩:=r
  cases (show T="str" from ty)
  exact⟨typeIs_str s z t,fun _ e=>nomatch e⟩
 | int i=>
  obtain⟨t,rfl⟩:=r
  cases (show T="int" from ty)
  exact⟨typeIs_int s i t,fun _ e=>nomatch e⟩
 | ref p=>
  cases r
  rcases ty with ⟨rfl,xs,hq⟩ | ⟨rfl,o,hk,hc,hd⟩ | ⟨rfl,hk⟩ | ⟨rfl,S,n,hk⟩
  ·obtain⟨its,_,pl,_⟩:=I.list hq
   refine⟨pl.isList.typeIs,fun a e=> ?_⟩
   cases e
   obtain⟨o,n,e,c,hd,_⟩:=pl
   exact⟨o,e,hd⟩
  ·refine⟨⟨o,I.kIn p o hk,hc⟩,fun a e=> ?_⟩
   cases e
   exact⟨o,I.kIn _ o hk,hd⟩
  ·have z:∃o,s.heap.get? p=some o/\o.ExactDict:=by
    rcases hk with ⟨kvs,hk⟩ | ⟨kvs,hk⟩
    ·obtain⟨_,_,_,_,o,_,_,e,ex,_⟩:=I.hok p _ hk
     exact⟨o,e,ex⟩
    ·obtain⟨_,_,_,_,o,_,_,e,ex,_⟩:=I.hok p _ hk
     exact⟨o,e,ex⟩
   obtain⟨o,e,ex⟩:=z
   refine⟨⟨o,e,ex.1⟩,fun a e2=> ?_⟩
   cases e2
   exact⟨o,e,ex.2.1⟩
  ·obtain⟨o,_,_,_,e,ex,_⟩:=I.hok p _ hk
   refine⟨⟨o,e,ex.1⟩,fun a e2=> ?_⟩
   cases e2
   exact⟨o,e,ex.2.1⟩
 | _=>exact False.elim ty
noncomputable def tBM (K:PySem.W.Frag) (T:String) (r:V->List V->Hp->VK->Prop) (to:TE) (t:TA):TE:=fun σ H Q=>to σ H fun x H1=>tyV K T x H1/\t σ H1 fun xs H2=>r x xs H2 Q
variable {o e:Expr} {es:List Expr} {to:TE} {t:TA} {name:Str} {apos cpos:Pos} {T id:String} {r:V->List V->Hp->VK->Prop}
end
def MtM (X:Cx) (id:String) (r:V->List V->Hp->VK->Prop):Prop:=
 ∀(pins:List (Addr×Obj)) (s:Shared) (σ:St) (H:Hp) (x:V) (xs:List V) (v:Value) (us:List Value) (Q:VK),Inv X pins σ H s->RelV x v->Vals xs us->r x xs H Q->
  wpAny (model X.prog X.w) X.A (call (.builtin id) (v::us)) (EP X pins σ Q) X.xe s
theorem Vals.one {x:V} {us:List Value} (h:Vals [x] us):∃u,us=[u]/\RelV x u:=by
 cases h with | cons r t=>(cases t;exact⟨_,rfl,r⟩)
theorem Vals.two {x y:V} {us:List Value} (h:Vals [x,y] us):∃u v,us=[u,v]/\RelV x u/\RelV y v:=by
 cases h with | cons r t=>(cases t with | cons q t=>(cases t;exact⟨_,_,rfl,r,q⟩))
theorem Vals.reverse {xs:List V} {us:List Value} (h:Vals xs us):Vals xs.reverse us.reverse:=by
 induction h with
 | nil=>exact .nil
 | cons r t ih=>rw[lKq,lKq];exact Vals.append ih (.cons r .nil)
theorem Vals.rep {xs:List V} {us:List Value} (h:Vals xs us):∀k:Nat,Vals (List.replicate k xs).flatten (List.replicate k us).flatten
 | 0=> .nil
 | k+1=>by
  rw[lKd,lKd,lKv,lKv]
  exact Vals.append h (Vals.rep h k)
theorem foldl_rep (its:List Value):∀(k:Nat) (acc:List Value),
  List.foldl (fun x1 x2=>x1++x2) acc.toArray (List.replicate k its.toArray)=(acc++(List.replicate k its).flatten).toArray
 | 0,acc=>by simp
 | k+1,acc=>by
  have e:acc.toArray++its.toArray=(acc++its).toArray:=by simp
  have e2:(acc++its)++(List.replicate k its).flatten=acc++(List.replicate (k+1) its).flatten:=by
   rw[lKd,lKv,List.append_assoc]
  rw[<-e2,<-foldl_rep its k (acc++its),<-e,lKd,List.foldl_cons]
section
variable {X:Cx} {pins:List (Addr×Obj)} {σ:St} {H:Hp} {s:Shared} {l b:Addr} {xs ys zs:List V}
theorem Inv.lset {its its':List Value} {n:Nat} {f:Array Value->Array Value} {t':Nat} (I:Inv X pins σ H s) (hH:H l=some (.lst xs))
  (e:s.heap.get? l=some {cls:= .type "list",data:= .seq its.toArray n}) (hf:f its.toArray=its'.toArray) (hv:Vals ys its') (hz:ys.length<=sizeLine):
  Inv X pins σ (upd H l (.lst ys)) {s with heap:=s.heap.update l (Obj.mapSeq f),toks:=t'}:=by
 have q:=PySem.IsL.update e f
 rw[hf] at q
 refine I.write (x:=l) (e:=l) (by rw[hH];exact trivial) (.inl rfl) (fun b' u hb hu=>(Heap.get?_update_other s.heap (Obj.mapSeq f) (Ne.symm hb)).trans hu) ⟨_,q⟩ ?_
 exact⟨hz,its',_,hv,q⟩
theorem Inv.lnew {its:List Value} {t':Nat} (I:Inv X pins σ H s) (hv:Vals ys its) (hz:ys.length<=sizeLine):
  Inv X pins σ (upd H s.heap.objs.size (.lst ys)) {s with heap:=s.heap.push {cls:= .type "list",data:= .seq its.toArray},toks:=t'}:=
 I.laid (fun _ _ q=>Heap.get?_push_of_some _ q) (lJd _) ⟨hz,its,0,hv,Heap.get?_push_size _ rfl⟩
theorem Inv.fresh (I:Inv X pins σ H s):H s.heap.objs.size=none:=I.hok.fresh (lJd _)
theorem Inv.lstM (I:Inv X pins σ H s) (hH:H l=some (.lst xs)):xs.length<=sizeLine/\∃(its:List Value) (n:Nat),Vals xs its/\xs.length=its.length/\s.heap.get? l=some {cls:= .type "list",data:= .seq its.toArray n}:=by
 obtain⟨z,its,n,r,e⟩:=I.hok l _ hH
 exact⟨z,its,n,r,r.length,e⟩
theorem notLongL {n:Nat} (h:n<=sizeLine):Builtin.List.listTooLong n=false:=by
 unfold Builtin.List.listTooLong
 exact decide_eq_false (by omega)
end
section
variable {X:Cx}
noncomputable def jKr:V->List V->Hp->VK->Prop:=fun x vs H Q=>∃l xs y,x= .ref l/\vs=[y]/\H l=some (.lst xs)/\xs.length<sizeLine/\Q .non (upd H l (.lst (xs++[y])))
theorem mt_append:MtM X "list.append" jKr:=by
 intro pins s σ H x vs v us Q I rx rv h
 obtain⟨l,xs,y,rfl,rfl,hH,hz,q⟩:=h
 cases rx
 obtain⟨u,rfl,ru⟩:=rv.one
 obtain⟨z,its,n,r,hl,e⟩:=I.lstM hH
 refine call_meets F.slot_list_append ⟨_,e,rfl⟩ F.entry_list_append (F.args_list_append_2 _ _) (PySem.list_append l its.toArray n u (by rw[lJi];omega)) ⟨e,?_⟩
 refine⟨.non,_,I.lset (its':=its++[u]) hH e (by simp) (r.append (.cons ru .nil)) ?_,rfl,q⟩
 rw[lJl,List.length_singleton]
 omega
noncomputable def rCat:R2:=fun x y H Q=>∃l b xs zs,x= .ref l/\y= .ref b/\H l=some (.lst xs)/\H b=some (.lst zs)/\xs.length+zs.length<=sizeLine/\∀p,H p=none->Q (.ref p) (upd H p (.lst (xs++zs)))
theorem op_cat:OpR X (binaryOp .Add) rCat:=by
 intro pins s σ H x y v u Q I rx ry h
 obtain⟨l,b,xs,zs,rfl,rfl,hH,hB,hz,q⟩:=h
 cases rx
 cases ry
 obtain⟨z,its,n,r,hl,e⟩:=I.lstM hH
 obtain⟨z2,its2,n2,r2,hl2,e2⟩:=I.lstM hB
 refine PySem.P.add_list e e2 ?_ (by rw[lJi,lJi];omega)
 have ea:its.toArray++its2.toArray=(its++its2).toArray:=by simp
 rw[ea]
 exact⟨.ref _,_,I.lnew (t':=s.toks) (r.append r2) (by rw[lJl];omega),rfl,q _ I.fresh⟩
noncomputable def rRep:R2:=fun x y H Q=>∃l k xs,x= .ref l/\y= .int k/\H l=some (.lst xs)/\ -(2^63)<=k/\k<2^63/\xs.length*k.toNat<=sizeLine/\
 ∀p,H p=none->Q (.ref p) (upd H p (.lst (List.replicate k.toNat xs).flatten))
theorem len_rep {α:Type} (xs:List α) (k:Nat):(List.replicate k xs).flatten.length=k*xs.length:=by
 induction k with
 | zero=>simp
 | succ k ih=>rw[lKd,lKv,lJl,ih,lKw,Nat.add_comm]
theorem op_rep:OpR X (binaryOp .Mult) rRep:=by
 intro pins s σ H x y v u Q I rx ry h
 obtain⟨l,k,xs,rfl,rfl,hH,h1,h2,hz,q⟩:=h
 cases rx
 obtain⟨t,rfl⟩:=ry
 obtain⟨z,its,n,r,hl,e⟩:=I.lstM hH
 have hlen:its.toArray.size*k.toNat<=sizeLine:=by rw[lJi,<-hl];exact hz
 have hcap:¬ its.toArray.size*k.toNat>(2^63-1) / 8:=by
  have:(sizeLine:Nat)<=(2^63-1) / 8:=by decide
  omega
 have hfit:¬ (!Builtin.List.listFitsIndex k)=true:=by
  rw[fitsIndex_both h1 h2]
  exact lJe
 have hlong:¬ Builtin.List.listTooLong (its.toArray.size*k.toNat)=true:=by
  rw[notLongL hlen]
  exact lJe
 have hnew:List.foldl (fun x1 x2=>x1++x2) #[] (List.replicate (if its.toArray.isEmpty=true then 0 else k.toNat) its.toArray)=(List.replicate k.toNat its).flatten.toArray:=by
  have f0:∀m:Nat,List.foldl (fun x1 x2=>x1++x2) #[] (List.replicate m its.toArray)=(List.replicate m its).flatten.toArray:=fun m=>by
   have:=foldl_rep its m []
   rw[List.nil_append] at this
   exact this
  rw[f0]
  cases its with
  | nil=>simp
  | cons a r'=>rw[if_neg (by simp)]
 refine wpAny_binaryOp_repeat_ref (T:="list") (U:="int") (by decide) ⟨_,e,rfl⟩ (fun s'=>typeIs_int s' k t) noFill_list_mul F.fills_int_mul F.slot_int_rmul repeat_list F.slot_int_index.lookup
  (call_meets F.slot_int_rmul (typeIs_int s k t) F.entry_int_rmul (F.args_int_rmul_2 _ _) (int___rmul___int_list k t l its.toArray n)
   ⟨e,rfl,⟨_,e,rfl⟩,call_meets F.slot_list_mul ⟨_,e,rfl⟩ F.entry_list_mul (F.args_list_mul_2 _ _) (AutoListH.list___mul___list_int_3 l its.toArray n k t hfit hcap hlong) ⟨e,?_⟩⟩)
 rw[hnew]
 exact⟨.ref _,_,I.lnew (t':=s.toks) (r.rep k.toNat) (by rw[len_rep,Nat.mul_comm];exact hz),rfl,q _ I.fresh⟩
end
section
variable {prog:Program} {w:World} {A:Around} {E:Value->Shared->Prop} {s:Shared}
end
section
variable {X:Cx}
end
section
variable {κ:Type} [DecidableEq κ]
noncomputable def valV (kvs:List (κ×V)) (k:κ):Option V:=(kvs.find? fun kv=>decide (kv.1=k)).map (·.2)
noncomputable def putK (kvs:List (κ×V)) (k:κ) (v:V):List (κ×V):=
 if (kvs.any fun kv=>decide (kv.1=k))=true then kvs.map (fun kv=>if kv.1=k then (kv.1,v) else kv) else kvs++[(k,v)]
theorem kJn {p:κ×V} {r:List (κ×V)} {k:κ} (e:p.1=k):valV (p::r) k=some p.2:=by simp[valV,lKe,e]
theorem kJo {p:κ×V} {r:List (κ×V)} {k:κ} (e:¬ p.1=k):valV (p::r) k=valV r k:=by simp[valV,lKe,e]
theorem valV_any (k:κ):∀kvs:List (κ×V),(kvs.any fun kv=>decide (kv.1=k))=(valV kvs k).isSome
 | []=>rfl
 | p::r=>by
  rw[lKi]
  by_cases e:p.1=k
  ·simp only[kJn e,decide_eq_true e,Bool.true_or,Option.isSome_some]
  ·rw[kJo e,decide_eq_false e,Bool.false_or];exact valV_any k r
theorem jYu (kvs:List (κ×V)) (k:κ) (v:V):(putK kvs k v).length<=kvs.length+1:=by
 unfold putK
 split
 ·rw[lJb];omega
 ·rw[lJl,lJz,List.length_nil];omega
theorem RelO.isSome_eq {o:Option V} {u:Option Value} (r:RelO o u):o.isSome=u.isSome:=by
 cases o with
 | none=>cases u with
  | none=>rfl
  | some _=>exact (show False from r).elim
 | some _=>cases u with
  | none=>exact (show False from r).elim
  | some _=>rfl
theorem KV.val {kvs:List (κ×V)} {vs:List (κ×Value)} (r:KV kvs vs) (k:κ):RelO (valV kvs k) (valueAt vs k):=by
 unfold KV at r
 induction r with
 | nil=>exact True.intro
 | @cons p q ps qs h t ih=>
  obtain⟨h1,h2⟩:=h
  by_cases e:p.1=k
  ·have e':q.1=k:=h1.symm.trans e
   have b:valueAt (q::qs) k=some q.2:=by simp[valueAt,lKe,e']
   rw[kJn e,b];exact h2
  ·have e':¬ q.1=k:=fun z=>e (h1.trans z)
   have b:valueAt (q::qs) k=valueAt qs k:=by simp[valueAt,lKe,e']
   rw[kJo e,b];exact ih
theorem KV.any {kvs:List (κ×V)} {vs:List (κ×Value)} (r:KV kvs vs) (k:κ):(kvs.any fun kv=>decide (kv.1=k))=vs.any fun kv=>decide (kv.1=k):=by
 unfold KV at r
 induction r with
 | nil=>rfl
 | cons h t ih=>rw[lKi,lKi,ih,h.1]
theorem KV.repl {kvs:List (κ×V)} {vs:List (κ×Value)} (r:KV kvs vs) (k:κ) {y:V} {u:Value} (ry:RelV y u):
  KV (kvs.map fun kv=>if kv.1=k then (kv.1,y) else kv) (vs.map fun kv=>if kv.1=k then (kv.1,u) else kv):=by
 unfold KV at r ⊢
 induction r with
 | nil=>exact .nil
 | @cons p q ps qs h t ih=>
  rw[lJ4,lJ4]
  refine .cons ?_ ih
  obtain⟨h1,h2⟩:=h
  by_cases e:p.1=k
  ·rw[if_pos e,if_pos (h1.symm.trans e)];exact⟨h1,ry⟩
  ·rw[if_neg e,if_neg (fun z=>e (h1.trans z))];exact⟨h1,h2⟩
theorem KV.put {kvs:List (κ×V)} {vs:List (κ×Value)} (r:KV kvs vs) (k:κ) {y:V} {u:Value} (ry:RelV y u):KV (putK kvs k y) (stored vs k u):=by
 unfold putK stored
 rw[r.any k]
 by_cases e:(vs.any fun kv=>decide (kv.1=k))=true
 ·rw[if_pos e,if_pos e];exact r.repl k ry
 ·rw[if_neg e,if_neg e];exact Paired.snoc r ⟨rfl,ry⟩
theorem KV.length {kvs:List (κ×V)} {vs:List (κ×Value)} (r:KV kvs vs):kvs.length=vs.length:=Paired.length r
end
theorem kV_is {P:Program} {w:World} {k:Key} {u:Value} (r:RelV (kV k) u):(jUj P w).is k u=true:=by
 cases k with
 | inl i=>obtain⟨t,e⟩:=(show ∃t,u=Value.int i t from r);subst e;exact mixKind_int P w i t
 | inr x=>obtain⟨t,e⟩:=(show ∃t,u=Value.str x t from r);subst e;exact mixKind_str P w x t
noncomputable abbrev KT (H:Hp):List (TKey×V)->List (TKey×Addr×Value)->Prop:=Paired fun p q=>p.1=q.1/\TKeyAt H p.1 q.2.1/\RelV p.2 q.2.2
theorem KT.val {H:Hp} {kvs:List (TKey×V)} {xs:List (TKey×Addr×Value)} (r:KT H kvs xs) (k:TKey):RelO (valV kvs k) ((atKey xs k).map (·.2)):=by
 induction r with
 | nil=>exact True.intro
 | @cons p q ps qs h t ih=>
  obtain⟨h1,_,h2⟩:=h
  by_cases e:p.1=k
  ·have e':q.1=k:=h1.symm.trans e
   have b:atKey (q::qs) k=some q.2:=by simp[atKey,lKe,e']
   rw[kJn e,b];exact h2
  ·have e':¬ q.1=k:=fun z=>e (h1.trans z)
   have b:atKey (q::qs) k=atKey qs k:=by simp[atKey,lKe,e']
   rw[kJo e,b];exact ih
theorem KT.repl {H:Hp} {kvs:List (TKey×V)} {xs:List (TKey×Addr×Value)} (r:KT H kvs xs) (k:TKey) {y:V} {u:Value} (ry:RelV y u):
  KT H (kvs.map fun kv=>if kv.1=k then (kv.1,y) else kv) (xs.map (putAt k u)):=by
 induction r with
 | nil=>exact .nil
 | @cons p q ps qs h t ih=>
  rw[lJ4,lJ4]
  refine .cons ?_ ih
  obtain⟨h1,h2,h3⟩:=h
  unfold putAt
  by_cases e:p.1=k
  ·rw[if_pos e,if_pos (h1.symm.trans e)];exact⟨h1,h2,ry⟩
  ·rw[if_neg e,if_neg (fun z=>e (h1.trans z))];exact⟨h1,h2,h3⟩
theorem KT.put {H:Hp} {kvs:List (TKey×V)} {xs:List (TKey×Addr×Value)} (r:KT H kvs xs) (k:TKey) {b:Addr} {y:V} {u:Value} (hb:TKeyAt H k b) (ry:RelV y u):
  KT H (putK kvs k y) (storedH xs k b u):=by
 have e:(kvs.any fun kv=>decide (kv.1=k))=(atKey xs k).isSome:=by
  rw[valV_any,(r.val k).isSome_eq,Option.isSome_map]
 unfold putK storedH
 rw[e]
 by_cases q:(atKey xs k).isSome=true
 ·rw[if_pos q,if_pos q];exact r.repl k ry
 ·rw[if_neg q,if_neg q];exact Paired.snoc r ⟨rfl,hb,ry⟩
theorem KT.keeps {H H':Hp} {kvs:List (TKey×V)} {xs:List (TKey×Addr×Value)} (r:KT H kvs xs) (ht:∀b ys,H b=some (.tup ys)->H' b=some (.tup ys)):KT H' kvs xs:=
 Paired.mapP r fun _ _ z=>⟨z.1,z.2.1.mono ht,z.2.2⟩
section
variable {P:Program} {w:World} {H:Hp} {h:Heap} {a:Addr}
theorem rd_of {u:HO} (ok:HOk P w H h) (e:Rd H a u):ObjOk P w H h a u:=e.ok ok
theorem dk_rd {kvs:List (Key×V)} (ok:HOk P w H h) (e:Rd H a (.dK kvs)):kvs.length<=sizeLine/\(a == sysModules)=false/\∃vs,KV kvs vs/\h.DictOf (jUj P w) a vs:=
 show ObjOk P w H h a (.dK kvs) from rd_of ok e
theorem dk_of {kvs:List (Key×V)} (ok:HOk P w H h) (e:H a=some (.dK kvs)):kvs.length<=sizeLine/\(a == sysModules)=false/\∃vs,KV kvs vs/\h.DictOf (jUj P w) a vs:=dk_rd ok (.inl e)
theorem items_of {K:Type} [DecidableEq K] {c:Nat} {T:KeyV P w K c} {R:K->V->Prop} (hR:∀k x u,R k x->RelV x u->T.is h k u):∀ {ks:List K} {xs:List V} {us:List Value},Paired R ks xs->Vals xs us->ItemsV T h ks us
 | _,_,_,.nil,.nil=> .nil
 | _,_,_,.cons r t,.cons q z=> .cons (hR _ _ _ r q) (items_of hR t z)
theorem tupV_of {K:Type} [DecidableEq K] {c:Nat} {T:KeyV P w K c} {R:K->V->Prop} {ks:List K} {xs:List V} {p:Addr} (ok:HOk P w H h) (hR:∀k x u,R k x->RelV x u->T.is h k u) (e:H p=some (.tup xs)) (r:Paired R ks xs):IsTupV T h ks (.ref p):=by
 obtain⟨_,its,q,o,h1,h2,n,h3,_⟩:=(show ObjOk P w H h p (.tup xs) from ok p _ e)
 exact⟨p,o,its.toArray,n,rfl,h1,h2,h3,by simpa using items_of hR r q⟩
theorem r1_of (ok:HOk P w H h) (k:K1) (x:V) (u:Value) (r:Rk1 H k x) (q:RelV x u):(vk1 P w).is h k u:=by
 cases k with
 | inl k=>cases (show x=kV k from r);exact kV_is (P:=P) (w:=w) q
 | inr ks=>
  obtain⟨p,vs,rfl,e,t⟩:=(show ∃p vs,x= .ref p/\H p=some (.tup vs)/\Paired (fun k v=>v=kV k) ks vs from r)
  cases (show u=Value.ref p from q)
  exact tupV_of (T:=atomVK P w) ok (fun k x u r q=>by subst r;exact kV_is (P:=P) (w:=w) q) e t
theorem r2_of (ok:HOk P w H h) (k:K2) (x:V) (u:Value) (r:Rk2 H k x) (q:RelV x u):(vk2 P w).is h k u:=by
 cases k with
 | inl k=>cases (show x=kV k from r);exact kV_is (P:=P) (w:=w) q
 | inr ks=>
  obtain⟨p,vs,rfl,e,t⟩:=(show ∃p vs,x= .ref p/\H p=some (.tup vs)/\Paired (Rk1 H) ks vs from r)
  cases (show u=Value.ref p from q)
  exact tupV_of (T:=vk1 P w) ok (r1_of ok) e t
theorem kKj {ks:TKey} (ok:HOk P w H h) (e:TKeyAt H ks a):(jUx P w).is h ks a:=by
 obtain⟨vs,h1,t⟩:=e
 exact tupV_of (T:=vk2 P w) ok (r2_of ok) h1 t
theorem dt_rd {kvs:List (TKey×V)} (ok:HOk P w H h) (e:Rd H a (.dT kvs)):kvs.length<=sizeLine/\(a == sysModules)=false/\
  ∃xs,KT H kvs xs/\h.DictOfH (jUx P w) a xs:=by
 obtain⟨z,y,xs,r,o,es,ep,h1,h2,h3,h4,h5⟩:=(show ObjOk P w H h a (.dT kvs) from rd_of ok e)
 refine⟨z,y,xs,r,o,es,ep,h1,h2,h3,h4,fun x hx=> ?_,h5⟩
 have all:∀ {l:List (TKey×V)} {m:List (TKey×Addr×Value)},KT H l m->∀x∈m,(jUx P w).is h x.1 x.2.1:=by
  intro l m q
  induction q with
  | nil=>intro x hx;exact nomatch hx
  | @cons p q ps qs hq t ih=>
   intro x hx
   rcases (lJk.mp hx) with e | hx
   ·subst e
    exact kKj ok (by rw[<-hq.1];exact hq.2.1)
   ·exact ih x hx
 exact all r x hx
theorem dt_of {kvs:List (TKey×V)} (ok:HOk P w H h) (e:H a=some (.dT kvs)):kvs.length<=sizeLine/\(a == sysModules)=false/\
  ∃xs,KT H kvs xs/\h.DictOfH (jUx P w) a xs:=dt_rd ok (.inl e)
end
def DGet (H:Hp) (a:Addr) (y:V) (r:Option V):Prop:=
 (∃kvs k,Rd H a (.dK kvs)/\y=kV k/\r=valV kvs k)\/∃kvs k b,Rd H a (.dT kvs)/\y= .ref b/\TKeyAt H k b/\r=valV kvs k
def DPut (H:Hp) (a:Addr) (y v:V) (H':Hp):Prop:=
 (∃kvs k,H a=some (.dK kvs)/\y=kV k/\kvs.length<sizeLine/\H'=upd H a (.dK (putK kvs k v)))\/
 ∃kvs k b,H a=some (.dT kvs)/\y= .ref b/\TKeyAt H k b/\kvs.length<sizeLine/\H'=upd H a (.dT (putK kvs k v))
theorem DGet.k {H:Hp} {a:Addr} {kvs:List (Key×V)} {k:Key} (e:H a=some (.dK kvs)):DGet H a (kV k) (valV kvs k):= .inl ⟨kvs,k,.inl e,rfl,rfl⟩
theorem DGet.t {H:Hp} {a b:Addr} {kvs:List (TKey×V)} {k:TKey} (e:H a=some (.dT kvs)) (eb:TKeyAt H k b):DGet H a (.ref b) (valV kvs k):= .inr ⟨kvs,k,b,.inl e,rfl,eb,rfl⟩
theorem DPut.k {H:Hp} {a:Addr} {kvs:List (Key×V)} {k:Key} {v:V} (e:H a=some (.dK kvs)) (hl:kvs.length<sizeLine):DPut H a (kV k) v (upd H a (.dK (putK kvs k v))):= .inl ⟨kvs,k,e,rfl,hl,rfl⟩
theorem DPut.t {H:Hp} {a b:Addr} {kvs:List (TKey×V)} {k:TKey} {v:V} (e:H a=some (.dT kvs)) (eb:TKeyAt H k b) (hl:kvs.length<sizeLine):
  DPut H a (.ref b) v (upd H a (.dT (putK kvs k v))):= .inr ⟨kvs,k,b,e,rfl,eb,hl,rfl⟩
section
variable {X:Cx} {pins:List (Addr×Obj)} {σ:St} {H:Hp} {s:Shared} {a:Addr} {y v:V} {u r:Value} {o:Option V} {A:Around} {E:Value->Shared->Prop}
theorem Inv.big (I:Inv X pins σ H s):sysModules<s.heap.objs.size:=by
 have h:mainGlobals<s.heap.objs.size:=(I.mod.glob.keeps I.bk).lt
 exact Nat.lt_trans (by decide) h
theorem d_getItem {Q:Value->Shared->Prop} (hu:A.units+20<cLine) (I:Inv X pins σ H s) (g:DGet H a y (some v)) (ry:RelV y u) (h:∀w' s',Inv X pins σ H s'->RelV v w'->Q w' s'):
  wpAny (model X.prog X.w) A (getItem (.ref a) u) Q E s:=by
 rcases g with ⟨kvs,k,e,ey,l⟩ | ⟨kvs,k,b,e,ey,eb,l⟩
 ·subst ey
  obtain⟨z,hd,vs,rel,dd⟩:=dk_rd I.hok e
  obtain⟨w',hw,rw'⟩:=RelO.some_of (v:=v) (o:=valueAt vs k) (by rw[l];exact rel.val k)
  exact wpAny_getItem_of (kV_is ry) dd.mapOf hw (h w' _ (I.tok _) rw')
 ·subst ey
  cases (show u=Value.ref b from ry)
  obtain⟨z,hd,xs,rel,dd⟩:=dt_rd I.hok e
  obtain⟨w',hw,rw'⟩:=RelO.some_of (v:=v) (o:=(atKey xs k).map (·.2)) (by rw[l];exact rel.val k)
  obtain⟨p,hp,hp2⟩:=lKf.mp hw
  refine wpAny_getItem_heap (jK9 hu) (kKj I.hok eb) dd hp ?_
  rw[hp2]
  exact h w' _ (I.tok _) rw'
theorem d_in {Q:Value->Shared->Prop} (hu:A.units+20<cLine) (I:Inv X pins σ H s) (g:DGet H a y o) (ry:RelV y u) (h:∀s',Inv X pins σ H s'->Q (.bool o.isSome) s'):
  wpAny (model X.prog X.w) A (compareOp .In u (.ref a)) Q E s:=by
 rcases g with ⟨kvs,k,e,ey,l⟩ | ⟨kvs,k,b,e,ey,eb,l⟩
 ·subst ey
  obtain⟨z,hd,vs,rel,dd⟩:=dk_rd I.hok e
  refine wpAny_in_of (kV_is ry) hd dd.mapOf ?_
  rw[<-(rel.val k).isSome_eq,<-l]
  exact h _ (I.tok _)
 ·subst ey
  cases (show u=Value.ref b from ry)
  obtain⟨z,hd,xs,rel,dd⟩:=dt_rd I.hok e
  refine wpAny_in_heap (jK9 hu) (kKj I.hok eb) hd dd ?_
  have q:=(rel.val k).isSome_eq
  rw[Option.isSome_map] at q
  rw[<-q,<-l]
  exact h _ (I.tok _)
theorem d_notIn {Q:Value->Shared->Prop} (hu:A.units+20<cLine) (I:Inv X pins σ H s) (g:DGet H a y o) (ry:RelV y u) (h:∀s',Inv X pins σ H s'->Q (.bool (!o.isSome)) s'):
  wpAny (model X.prog X.w) A (compareOp .NotIn u (.ref a)) Q E s:=by
 rcases g with ⟨kvs,k,e,ey,l⟩ | ⟨kvs,k,b,e,ey,eb,l⟩
 ·subst ey
  obtain⟨z,hd,vs,rel,dd⟩:=dk_rd I.hok e
  refine wpAny_notIn_of (kV_is ry) hd dd.mapOf ?_
  rw[<-(rel.val k).isSome_eq,<-l]
  exact h _ (I.tok _)
 ·subst ey
  cases (show u=Value.ref b from ry)
  obtain⟨z,hd,xs,rel,dd⟩:=dt_rd I.hok e
  refine wpAny_notIn_heap (jK9 hu) (kKj I.hok eb) hd dd ?_
  have q:=(rel.val k).isSome_eq
  rw[Option.isSome_map] at q
  rw[<-q,<-l]
  exact h _ (I.tok _)
theorem kVv {h':Heap} {t':Nat} {ob:HO} (I:Inv X pins σ H s) (mu:Mut (H a)) (hs:Heap.SameBut a s.heap h') (he:∃q,h'.get? a=some q) (new:ObjOk X.prog X.w (upd H a ob) h' a ob):
  Inv X pins σ (upd H a ob) {s with heap:=h',toks:=t'}:=
 I.write (x:=a) (e:=a) mu (.inl rfl) (fun b q hb z=>(hs.2 b hb).trans z) he new
theorem dk_new {P:Program} {w:World} {H':Hp} {h':Heap} {kvs:List (Key×V)} {vs:List (Key×Value)} (z:kvs.length<=sizeLine) (hd:(a == sysModules)=false) (rel:KV kvs vs) (dd:h'.DictOf (jUj P w) a vs):
  ObjOk P w H' h' a (.dK kvs):=⟨z,hd,vs,rel,dd⟩
theorem d_setItem {H':Hp} {Q:Unit->Shared->Prop} (hu:A.units+20<cLine) (I:Inv X pins σ H s) (g:DPut H a y v H') (ry:RelV y u) (rv:RelV v r) (h:∀s',Inv X pins σ H' s'->Q () s'):
  wpAny (model X.prog X.w) A (setItem (.ref a) u r) Q E s:=by
 rcases g with ⟨kvs,k,e,ey,l,eH⟩ | ⟨kvs,k,b,e,ey,eb,l,eH⟩
 ·subst ey eH
  obtain⟨z,hd,vs,rel,dd⟩:=dk_of I.hok e
  have hz:vs.length<=sizeLine:=by rw[<-rel.length];exact z
  have hl:(putK kvs k v).length<=sizeLine:=by have:=jYu kvs k v;omega
  refine wpAny_setItem_pairs (hsz:=hz) (kV_is ry) dd fun h' dd' hs=>h _ ?_
  have he:∃q,h'.get? a=some q:=let ⟨q,_,_,hq,_⟩:=dd';⟨q,hq⟩
  exact kVv I (by rw[e];exact True.intro) hs he (dk_new hl hd (rel.put k rv) dd')
 ·subst ey eH
  cases (show u=Value.ref b from ry)
  obtain⟨z,hd,xs,rel,dd⟩:=dt_of I.hok e
  have hz:xs.length<=sizeLine:=by rw[<-Paired.length rel];exact z
  have hl:(putK kvs k v).length<=sizeLine:=by have:=jYu kvs k v;omega
  refine wpAny_setItem_heap (hsz:=hz) (jK9 hu) (kKj I.hok eb) dd fun h' dd' hs=>h _ ?_
  obtain⟨q,es,ep,hq,h2,h3,h4,_,h5⟩:=dd'
  refine kVv I (by rw[e];exact True.intro) hs ⟨q,hq⟩ ⟨hl,hd,_,(rel.put k eb rv).keeps fun c ys ec=> ?_,q,es,ep,hq,h2,h3,h4,h5⟩
  rw[jKw (ne_of ec e (fun z=>nomatch z))]
  exact ec
end
section
variable {X:Cx} {pins:List (Addr×Obj)} {σ:St} {H:Hp} {s:Shared} {a:Addr} {kvs:List (Key×V)} {k:Key} {u:Value} {A:Around} {E:Value->Shared->Prop}
end
theorem dict_typeIs {X:Cx} {pins:List (Addr×Obj)} {σ:St} {H:Hp} {s:Shared} {a:Addr} {y:V} {o:Option V} (I:Inv X pins σ H s) (g:DGet H a y o):s.TypeIs (.ref a) "dict":=by
 rcases g with ⟨kvs,k,e,_,_⟩ | ⟨kvs,k,b,e,_,_,_⟩
 ·obtain⟨_,_,vs,_,dd⟩:=dk_rd I.hok e
  exact dd.typeIs
 ·obtain⟨_,_,xs,_,dd⟩:=dt_rd I.hok e
  exact dd.typeIs
section
variable {X:Cx} {o i e value:Expr} {pos pos' tpos:Pos} {td ty tv:TE}
end
theorem dk_empty {P:Program} {w:World} {H:Hp} (h:Heap) (hb:sysModules<h.objs.size):ObjOk P w H (h.push {cls:= .type "dict",data:= .dict #[]}) h.objs.size (.dK []):=
 ⟨lJn _,beq_eq_false_iff_ne.mpr (Ne.symm (lJj hb)),[],.nil,Heap.DictOf.new h⟩
theorem dt_empty {P:Program} {w:World} {H:Hp} (h:Heap) (hb:sysModules<h.objs.size):ObjOk P w H (h.push {cls:= .type "dict",data:= .dict #[]}) h.objs.size (.dT []):=
 ⟨lJn _,beq_eq_false_iff_ne.mpr (Ne.symm (lJj hb)),[],.nil,_,#[],0,Heap.get?_push_size _ rfl,⟨rfl,rfl,rfl⟩,rfl,rfl,List.nodup_nil⟩
noncomputable def tDNewK:TE:=fun _ H Q=>∀p,H p=none->Q (.ref p) (upd H p (.dK []))
noncomputable def tDNewT:TE:=fun _ H Q=>∀p,H p=none->Q (.ref p) (upd H p (.dT []))
section
variable {X:Cx} {pos:Pos}
theorem pe_dnewK:PE X (.Dict [] [] pos) tDNewK:=fun pins s σ H Q I h=>
 wpAny_Dict_empty ⟨.ref s.heap.objs.size,_,I.laid (a:=s.heap.objs.size) (o:= .dK []) (t':=s.toks) (fun _ _ q=>Heap.get?_push_of_some _ q) (lJd _) (dk_empty s.heap I.big),rfl,h _ (I.hok.fresh (lJd _))⟩
theorem pe_dnewT:PE X (.Dict [] [] pos) tDNewT:=fun pins s σ H Q I h=>
 wpAny_Dict_empty ⟨.ref s.heap.objs.size,_,I.laid (a:=s.heap.objs.size) (o:= .dT []) (t':=s.toks) (fun _ _ q=>Heap.get?_push_of_some _ q) (lJd _) (dt_empty s.heap I.big),rfl,h _ (I.hok.fresh (lJd _))⟩
end
section
variable {X:Cx} {pins:List (Addr×Obj)} {σ:St} {H:Hp} {s:Shared} {a:Addr} {y d:V} {u r:Value} {o:Option V} {A:Around} {E:Value->Shared->Prop}
end
section
variable {X:Cx} {o e f:Expr} {apos cpos:Pos} {td ty tx:TE}
end
section
variable {X:Cx} {pins:List (Addr×Obj)} {σ:St} {H:Hp} {s:Shared} {a:Addr} {kvs:List (Key×V)} {A:Around} {E:Value->Shared->Prop}
end
section
variable {X:Cx} {pins:List (Addr×Obj)} {σ:St} {H:Hp} {s:Shared} {a:Addr} {y:V} {u:Value} {A:Around} {E:Value->Shared->Prop}
end
end L2
namespace Att
open PySem PySem.W PySem.Calls PyProof.Rows
theorem kKl {P:Params} {h:Heap}:∀(ns:List Int) (vs:List Value),WellAll P h vs (ns.map WData.int)->IntsAre vs ns:=by
 intro ns
 induction ns with
 | nil=>
  intro vs w
  rw[List.map_nil] at w
  cases w
  exact .nil
 | cons n ns ih=>
  intro vs w
  rw[lJ4] at w
  cases w with
  | cons a b=>
   cases a
   exact .cons _ _ (ih _ b)
theorem script_of {l:OpenLaw} {n:Nat} (hn:l.most=some n) {P:Params} {h:Heap} {args:List WData} {vals:List Value}
  (hpre:l.row.toRowW.claim.pre args=true) (hwl:WellAll P h vals args):
  ∃a vs ns,vals=[Value.ref a]/\args=[WData.list (ns.map WData.int)]/\h.get? a=some {cls:= .type "list",data:= .seq vs.toArray}/\IntsAre vs ns/\ns.length<=n:=by
 have hsh:WShape.hasAll [] args [.list .int]=true:=(pre_splitW hpre).1
 have hc:l.pre.holds [] {args:=args}=true:=(pre_splitW hpre).2
 obtain⟨d,r,rfl,h1,h2⟩:=hasAllW_cons hsh
 obtain rfl:=hasAllW_nil h2
 obtain⟨xs,rfl,h3⟩:=hasW_list h1
 obtain⟨ns,rfl⟩:=items_int h3
 have hlen:ns.length<=n:=by
  unfold OpenLaw.pre at hc
  have h4:(WTm.not (.lt (.lit (.int (n:Int))) (.len (.arg 0)))).holds [] {args:=[.list (ns.map .int)]}=true:=by
   have h4:=(holds_andW hc).1
   rw[hn] at h4
   exact h4
  have h5:=condW_of h4 (w_not (w_lt w_lit (w_len_list (w_arg rfl))))
  rw[lJb] at h5
  refine Nat.le_of_not_lt fun q=> ?_
  have q':(n:Int)<((ns.length:Nat):Int):=by omega
  first
   | (rw[decide_eq_true q'] at h5;exact absurd h5 (by decide))
   | (simp at h5;omega)
 cases hwl with
 | cons w1 w2=>
  cases w2
  cases w1 with
  | list ho hall=>exact⟨_,_,ns,rfl,rfl,ho,kKl ns _ hall,hlen⟩
theorem post_true (l:OpenLaw) (args:List WData):l.row.toRowW.claim.post args (.bool true) args=true:=
 postW_of (r:=l.row.toRowW) (X:=(true == true))
  (show WShape.has [] (.bool true) .bool=true by first | rfl | decide | simp[WShape.has,WShape.arms,WShape.armsAll])
  (show (WTm.eq .res (.lit (.bool true))).value [] {args:=args,res:=some (.bool true),after:=args}=some (.bool (true == true)) from w_eq_bool (w_res rfl) w_lit) rfl
theorem attach_call {l:OpenLaw} {n:Nat} {q:Program} {loose:List Str} {XP:(Str->Option Value)->Heap->Prop} {YP:World->Heap->Prop} {d:DefRec}
  (hn:l.most=some n) (hdf:d.params.defaults=[])
  (call:∀(w:World) (s₀ s₁:Shared) (mg mb:Str->Option Value) (fa:Addr) (o:Obj) (pm cd doc:Value) (a:Addr) (vs:List Value) (ns:List Int),
   Ground q loose [] XP w s₀ mg mb s₁.heap->YP w s₁.heap->
   s₁.heap.get? fa=some o->o.data= .func (docDef d.name d.params d.body d.scope pm cd doc)->s₁.heap.CodeRec cd d.name->mg d.name=some (.ref fa)->
   s₁.heap.get? a=some {cls:= .type "list",data:= .seq vs.toArray}->IntsAre vs ns->ns.length<=n->s₁.gens= #[]->
   codeAny (model l.prog w) callerA (.call (.ref fa) ⟨[.ref a],[]⟩) (fun r s'=>r= .ok (.ret (.bool true))/\OldK s₁.heap s'.heap/\s'.os=s₁.os/\AllBare s'.gens) s₁):
  WalkO q loose XP YP l.row.toRowW d [] (fun f vs=>PySem.call f vs):=by
 intro w s₀ s₁ mg mb G Y fa o pm cd doc dV kV ho hd hcd hD hmg hg args vals as hpre hlay hrd hwl hlo
 obtain rfl:dV= .none:=Dflts.none hD hdf
 obtain rfl:kV= .none:=Dflts.noKw hD
 obtain⟨a,vs,ns,rfl,rfl,hobj,hints,hlen⟩:=script_of hn hpre hwl
 refine enter_call (codeAny_mono (call w s₀ s₁ mg mb fa o pm cd doc a vs ns G Y ho (fd_plain hd) hcd hmg hobj hints hlen hg) fun r s' hq=> ?_)
 obtain⟨rfl,h2,h3,h4⟩:=hq
 exact⟨.inl ⟨.bool true,.bool true,[],rfl,fun _=>rfl,.bool true,post_true l _,fun _=>⟨List.Pairwise.nil,fun _ hm=>(nomatch hm)⟩⟩,h2,h3,h4⟩
section
variable {prog:Program} {w:World} {A:Around} {E:Value->Shared->Prop} {s:Shared} {K:Frag}
end
end Att
namespace L2
open PySem PySem.Spec PyProof.Rows
theorem jXu:∀ {vs:List Value} {ns:List Int},IntsAre vs ns->Vals (ns.map V.int) vs
 | _,_,.nil=> .nil
 | _,_,.cons n t h=> .cons ⟨t,rfl⟩ (jXu h)
def Only (H:Hp):Prop:=∀b,H b=none\/∃o xs,H b=some (.frz o (.lst xs))
theorem law_call {P:Program} {w:World} {K:PySem.W.Frag} {mg mb:Str->Option Value} {CX:CXT} {k:Nat} {fa a:Addr} {fd:FuncData} {x:Str} {sp:Sp} {s₁:Shared} {vs:List Value} {ns:List Int}
  (KX:K.In s₁.heap) (hns:s₁.heap.Ns mainGlobals mg) (hb:s₁.heap.Ns builtinsNs mb) (hbb:∀x:Str,x≠"__name__"->mb x=bootBuiltins x) (hlim:s₁.heap.NoLimit) (hg:s₁.gens= #[])
  (ha:s₁.heap.get? a=some {cls:= .type "list",data:= .seq vs.toArray}) (hi:IntsAre vs ns) (hl:ns.length<=sizeLine) (hr:Room k callerA)
  (F:∀base:Heap,K.In base->base.Ns mainGlobals mg->FnOk P w K mg base CX k fa fd [x] sp) (hbind:∀(s:Shared) (u:Value),BindsTo s fd ⟨[u],[]⟩ [(x,u)])
  (hsp:∀H:Hp,Only H->SqL K H a (ns.map V.int)->sp [.ref a] H (fun v _=>v= .bl true) fun _ _ _=>False)
  (hCX:∀H e s',CX [] H s₁ (fun _ _ _=>False) e s'->False):
  codeAny (model P w) callerA (.call (.ref fa) ⟨[.ref a],[]⟩) (fun r s'=>r= .ok (.ret (.bool true))/\OldK s₁.heap s'.heap/\s'.os=s₁.os/\AllBare s'.gens) s₁:=by
 have rv:=jXu hi
 have lenV:=hi.length
 have core:∀H:Hp,Only H->SqL K H a (ns.map V.int)->HOk P w H s₁.heap->(∀b,H b≠none->b=a)->(H a≠none->K.lookup a=none)->
   codeAny (model P w) callerA (.call (.ref fa) ⟨[.ref a],[]⟩) (fun r s'=>r= .ok (.ret (.bool true))/\OldK s₁.heap s'.heap/\s'.os=s₁.os/\AllBare s'.gens) s₁:=by
  intro H hO hS hok hA hK
  have base_of:∀ {b:Addr} {o:Obj},s₁.heap.get? b=some o->H b=none->(hidT s₁.heap H).get? b=some o:=fun e n=>hidT_get e n
  have noA:∀ {b:Addr} {o:Obj} {es:Array DictEntry} {ep:Nat},s₁.heap.get? b=some o->o.data= .dict es ep->H b=none:=fun {b o es ep} e d=>by
   cases q:H b with
   | none=>rfl
   | some u=>
    have e':b=a:=hA b (by rw[q];simp)
    subst e'
    rw[ha] at e;cases e
    have d':Data.seq vs.toArray _=Data.dict es ep:=d
    cases d'
  have nsK:∀ {b:Addr} {m:Str->Option Value},s₁.heap.Ns b m->(hidT s₁.heap H).Ns b m:=fun {b m} ⟨o,es,ep,e,d,r⟩=>⟨o,es,ep,base_of e (noA e d),d,r⟩
  have hKb:K.In (hidT s₁.heap H):=fun b o e=>base_of (KX b o e) (by
   cases q:H b with
   | none=>rfl
   | some u=>
    have e':b=a:=hA b (by rw[q];simp)
    subst e'
    rw[hK (by rw[q];simp)] at e;cases e)
  have hM:Mod K mg (hidT s₁.heap H):=⟨hKb,nsK hns,⟨mb,nsK hb,hbb⟩,let ⟨mc,h1,h2⟩:=hlim;⟨mc,nsK h1,h2⟩⟩
  have e0:Env0 P w K mg (hidT s₁.heap H) callerA [] s₁ H:=⟨rfl,hM,fun b o e=>of_hidT e,Nat.le_of_eq (hidT_size _ _),trivial,fun b hb=>absurd (show b∈([]:List Addr) from hb) (by simp),hok,.of_eq hg⟩
  refine codeAny_mono ((F _ hKb (nsK hns)).run callerA [] s₁ H ⟨[.ref a],[]⟩ [.ref a] [.ref a] _ _ hr e0 (hbind s₁ (.ref a)) (.cons rfl .nil) (hsp H hO hS)) fun r s' h=> ?_
  cases r with
  | error e=>exact (hCX H e s' h).elim
  | ok fl=>
   cases fl with
   | next=>exact False.elim h
   | brk=>exact False.elim h
   | cont=>exact False.elim h
   | ret u=>
    obtain⟨v,H',os,bare,un,hok',r',q⟩:=h
    have q':v= .bl true:=q
    subst q'
    obtain rfl:u=Value.bool true:=r'
    refine⟨rfl,OldK.of_keep fun b o e=> ?_,os,bare⟩
    cases q:H b with
    | none=>exact un.keep b o e q (by intro z;exact absurd (show b∈([]:List Addr) from z) (by simp)) (by simp)
    | some u=>
     rcases hO b with z | ⟨ob,xs,z⟩
     ·rw[q] at z;cases z
     ·have z2:=un.frzs b ob _ z
      obtain⟨e1,_⟩:=hok b _ z
      obtain⟨e2,_⟩:=hok' b _ z2
      rw[e] at e1;cases e1
      exact e2
 cases hk:K.lookup a with
 | some o=>
  have e:=KX a o hk
  rw[ha] at e
  cases e
  refine core (fun _=>none) (fun _=> .inl rfl) (.inr ⟨_,vs.toArray,_,hk,rfl,rfl,rfl,by rw[lJi,lenV];exact hl,by simpa using rv⟩) (fun b u z=>by have z':(none:Option HO)=some u:=z;cases z') (fun b z=>absurd rfl z) fun z=>absurd rfl z
 | none=>
  refine core (fun b=>if b=a then some (.frz {cls:= .type "list",data:= .seq vs.toArray} (.lst (ns.map V.int))) else none) (fun b=> ?_) (.inl (.inr ⟨{cls:= .type "list",data:= .seq vs.toArray},if_pos rfl⟩)) (fun b u z=> ?_) (fun b z=> ?_) fun _=>hk
  ·by_cases hb:b=a
   ·exact .inr ⟨_,_,if_pos hb⟩
   ·exact .inl (if_neg hb)
  ·by_cases hb:b=a
   ·have z':=(if_pos hb).symm.trans z
    cases z'
    subst hb
    exact⟨ha,by rw[lJb];exact hl,vs,_,rv,ha⟩
   ·have z':=(if_neg hb).symm.trans z
    cases z'
  ·by_cases hb:b=a
   ·exact hb
   ·exact absurd (if_neg hb) z
theorem walk_of {l:PySem.W.OpenLaw} {n k:Nat} {q:Program} {loose:List Str} {XP:(Str->Option Value)->Heap->Prop} {YP:World->Heap->Prop} {d:DefRec} {K:Params->PySem.W.Frag} {CX:World->CXT} {sp:World->Sp} {x:Str}
  (hn:l.most=some n) (hn2:n<=sizeLine) (hdf:d.params.defaults=[]) (hr:Room k callerA)
  (hY:∀(w:World) (h:Heap),YP w h->(K w.params).In h)
  (F:∀(w:World) (mg:Str->Option Value) (fa:Addr) (h:Heap),(K w.params).In h->h.Ns mainGlobals mg->mg d.name=some (.ref fa)->
   ∃fd:FuncData,(∀(s:Shared) (u:Value),BindsTo s fd ⟨[u],[]⟩ [(x,u)])/\
    ∀base:Heap,(K w.params).In base->base.Ns mainGlobals mg->FnOk l.prog w (K w.params) mg base (CX w) k fa fd [x] (sp w))
  (hsp:∀(w:World) (H:Hp) (a:Addr) (ns:List Int),ns.length<=n->Only H->SqL (K w.params) H a (ns.map V.int)->sp w [.ref a] H (fun v _=>v= .bl true) fun _ _ _=>False)
  (hCX:∀(w:World) (H:Hp) (s:Shared) (e:Value) (s':Shared),CX w [] H s (fun _ _ _=>False) e s'->False):
  PySem.W.WalkO q loose XP YP l.row.toRowW d [] (fun f vs=>PySem.call f vs):=by
 refine Att.attach_call hn hdf fun w s₀ s₁ mg mb fa o pm cd doc a vs ns G Y ho hd hcd hmg hobj hints hlen hg=> ?_
 have KX:=hY w _ Y
 obtain⟨fd,hb,hF⟩:=F w mg fa _ KX G.T.g hmg
 exact law_call KX G.T.g G.T.b G.T.builtins G.T.nolimit hg hobj hints (lJo hlen hn2) hr hF hb (fun H hO hS=>hsp w H a ns hlen hO hS) fun H e s'=>hCX w H s₁ e s'
noncomputable def jJy (s:Stmt):Arguments:=match s with
 | .FunctionDef _ a _ _ _ _ _ _ _ _=>a
 | _=>{posonlyargs:=[],args:=[],vararg:=none,kwonlyargs:=[],kw_defaults:=[],kwarg:=none,defaults:=[]}
noncomputable def jJw (s:Stmt):List Stmt:=match s with
 | .FunctionDef _ _ b _ _ _ _ _ _ _=>b
 | _=>[]
noncomputable def jJi (s:Stmt):Scope:=match s with
 | .FunctionDef _ _ _ _ _ _ sc _ _ _=>sc
 | _=>{kind:= .function,names:=[],isGenerator:=false,isCoroutine:=false}
noncomputable abbrev CX0:CXT:=fun _ _ _ _ _ _=>False
noncomputable abbrev E0:XK:=fun _ _ _=>False
theorem pass0 {X:Cx}:Passes CX0 X E0:=fun _ _ _ _ _ _ _ h=>h.elim
structure Fun (K:PySem.W.Frag) (x qual:Str) (st:Stmt) (f:Addr) (fd:FuncData):Prop where
 ex:∃(oc:Value) (od:Option Addr) (kV doc pm:Value) (an:Option Addr) (cdv ct:Value) (osl:Array (Option Value)),
  fd=PySem.W.fnOf x qual (jJy st) (jJw st) (jJi st) .none kV doc pm an cdv ct/\K.lookup f=some ⟨oc,od,.func fd,osl⟩/\PySem.W.codeIn K cdv qual=true
 kp:PySem.W.keepIn K (.ref f)=true
section
variable {P:Program} {w:World} {K:PySem.W.Frag} {mg:Str->Option Value} {base:Heap}
theorem Fun.ok {x qual:Str} {st:Stmt} {f:Addr} {fd:FuncData} {N ps:List Str} {k:Nat} {sp:Sp} (F:Fun K x qual st f fd) (S:FnScope N ps (jJi st)) (len:∀vs H Q E,sp vs H Q E->vs.length=ps.length)
  (hbody:∀(cdv:Value) (A:Around) (outer:List Env) (s:Shared) (H:Hp) (vs:List V) (Q:VK) (E:XK),Room k (A.deeper (envOfC qual (jJi st) s.heap.objs.size f cdv))->sp vs H Q E->
   ∃t,PSs (cxOf CX0 P w K mg base N qual (jJi st) f cdv A outer s H E).nox (jJw st) t/\t {nx:=fun _ H'=>Q .non H',rt:=Q} (start N vs) H):FnOk P w K mg base CX0 (k+1) f fd ps sp:=by
 obtain⟨oc,od,kV,doc,pm,an,cdv,ct,osl,rfl,lk,hcd⟩:=F.ex
 refine fn_of lk hcd S len fun A outer s H vs Q E hr hsp=> ?_
 obtain⟨t,h,q⟩:=hbody cdv A outer s H vs Q E hr hsp
 exact⟨t,h.nox,q⟩
theorem Fun.binds {x qual:Str} {st:Stmt} {f:Addr} {fd:FuncData} {ps:List Str} (F:Fun K x qual st f fd)
  (h:∀(kV doc pm:Value) (an:Option Addr) (cdv ct:Value) (us:List Value),us.length=ps.length->bindArgs (PySem.W.fnOf x qual (jJy st) (jJw st) (jJi st) .none kV doc pm an cdv ct) ⟨us,[]⟩=pure (ps.zip us)):Binds K fd ps []:=by
 obtain⟨oc,od,kV,doc,pm,an,cdv,ct,osl,rfl,lk,hcd⟩:=F.ex
 exact .all (h kV doc pm an cdv ct)
theorem jKj {x qual:Str} {st:Stmt} {f:Addr} {oc:Value} {od an:Option Addr} {osl:Array (Option Value)} {kV doc pm cdv ct:Value} (l:K.lookup f=some ⟨oc,od,.func (PySem.W.fnOf x qual (jJy st) (jJw st) (jJi st) .none kV doc pm an cdv ct),osl⟩)
  (c:PySem.W.codeIn K cdv qual=true) (k:PySem.W.keepIn K (.ref f)=true):Fun K x qual st f (PySem.W.fnOf x qual (jJy st) (jJw st) (jJi st) .none kV doc pm an cdv ct):=⟨⟨oc,od,kV,doc,pm,an,cdv,ct,osl,rfl,l,c⟩,k⟩
end
theorem jQl {A:Around} {k:Nat} (hr:Room k A):A.units+20<cLine:=Nat.lt_of_le_of_lt (Nat.add_le_add_left (by decide:20<=64) _) hr.units
section
variable {X:Cx}
end
end L2
set_option Elab.async false
set_option linter.all false
set_option maxRecDepth 100000
set_option maxHeartbeats 5000000
namespace L3
open PySem PySem.Spec PyProof.Rows L2
inductive T where
 | non | bl (b:Bool) | int (i:Int) | str (x:Str) | tup (xs:List T) | scr (xs:List T) | ref (a:Addr) | ty (n:String)
structure Ext (H H':Hp):Prop where
 tup:∀b xs,H b=some (.tup xs)->H' b=some (.tup xs)
 frz:∀b ob u,H b=some (.frz ob u)->H' b=some (.frz ob u)
theorem Ext.refl (H:Hp):Ext H H:=⟨fun _ _ h=>h,fun _ _ _ h=>h⟩
theorem Ext.trans {H H1 H2:Hp} (a:Ext H H1) (b:Ext H1 H2):Ext H H2:=⟨fun c o h=>b.tup c o (a.tup c o h),fun c o u h=>b.frz c o u (a.frz c o u h)⟩
def FrL (K:PySem.W.Frag) (H:Hp) (a:Addr) (xs:List V):Prop:=
 (∃ob,H a=some (.frz ob (.lst xs)))\/
  ∃(o:Obj) (its:Array Value) (n:Nat),K.lookup a=some o/\o.cls= .type "list"/\o.dict=none/\o.data= .seq its n/\its.size<=sizeLine/\Vals xs its.toList
theorem FrL.sq {K:PySem.W.Frag} {H:Hp} {a:Addr} {xs:List V} (h:FrL K H a xs):SqL K H a xs:=by
 rcases h with ⟨ob,h⟩ | h
 ·exact .inl (.inr ⟨ob,h⟩)
 ·exact .inr h
theorem FrL.mono {K:PySem.W.Frag} {H H':Hp} {a:Addr} {xs:List V} (e:Ext H H') (h:FrL K H a xs):FrL K H' a xs:=by
 rcases h with ⟨ob,h⟩ | h
 ·exact .inl ⟨ob,e.frz _ _ _ h⟩
 ·exact .inr h
mutual
noncomputable def Rep (K:PySem.W.Frag) (H:Hp):T->V->Prop
 | .non,v=>v= .non
 | .bl b,v=>v= .bl b
 | .int i,v=>v= .int i
 | .str x,v=>v= .str x
 | .ref a,v=>v= .ref a
 | .ty n,v=>v= .ty n
 | .tup xs,v=>∃a vs,v= .ref a/\H a=some (.tup vs)/\Reps K H xs vs
 | .scr xs,v=>∃a vs,v= .ref a/\FrL K H a vs/\Reps K H xs vs
noncomputable def Reps (K:PySem.W.Frag) (H:Hp):List T->List V->Prop
 | [],vs=>vs=[]
 | x::xs,vs=>∃v ws,vs=v::ws/\Rep K H x v/\Reps K H xs ws
end
mutual
theorem Rep.mono {K:PySem.W.Frag} {H H':Hp} (e:Ext H H'):∀(x:T) {v:V},Rep K H x v->Rep K H' x v
 | .non,_,h=>h
 | .bl _,_,h=>h
 | .int _,_,h=>h
 | .str _,_,h=>h
 | .ref _,_,h=>h
 | .ty _,_,h=>h
 | .tup xs,_,⟨a,vs,r1,r2,r3⟩=>⟨a,vs,r1,e.tup _ _ r2,Reps.mono e xs r3⟩
 | .scr xs,_,⟨a,vs,r1,r2,r3⟩=>⟨a,vs,r1,r2.mono e,Reps.mono e xs r3⟩
theorem Reps.mono {K:PySem.W.Frag} {H H':Hp} (e:Ext H H'):∀(xs:List T) {vs:List V},Reps K H xs vs->Reps K H' xs vs
 | [],_,h=>h
 | x::xs,_,⟨v,ws,r1,r2,r3⟩=>⟨v,ws,r1,Rep.mono e x r2,Reps.mono e xs r3⟩
end
section
variable {K:PySem.W.Frag} {H:Hp}
theorem Reps.length:∀ {xs:List T} {vs:List V},Reps K H xs vs->xs.length=vs.length
 | [],_,h=>by cases h;rfl
 | _::_,_,⟨_,_,r1,_,r3⟩=>by subst r1;simp[Reps.length r3]
theorem Reps.get:∀ {xs:List T} {vs:List V} {i:Nat} {x:T},Reps K H xs vs->xs[i]? =some x->∃v,vs[i]? =some v/\Rep K H x v
 | [],_,_,_,_,e=>by simp at e
 | y::ys,_,0,x,⟨v,ws,r1,r2,r3⟩,e=>by subst r1;simp at e;subst e;exact⟨v,rfl,r2⟩
 | y::ys,_,i+1,x,⟨v,ws,r1,r2,r3⟩,e=>by subst r1;simpa using Reps.get r3 (by simpa using e)
theorem Reps.get':∀ {xs:List T} {vs:List V} {i:Nat} {v:V},Reps K H xs vs->vs[i]? =some v->∃x,xs[i]? =some x/\Rep K H x v
 | [],_,_,_,h,e=>by cases h;simp at e
 | y::ys,_,0,x,⟨v,ws,r1,r2,r3⟩,e=>by subst r1;simp at e;subst e;exact⟨y,rfl,r2⟩
 | y::ys,_,i+1,x,⟨v,ws,r1,r2,r3⟩,e=>by subst r1;simpa using Reps.get' r3 (by simpa using e)
theorem Reps.append:∀ {xs ys:List T} {vs ws:List V},Reps K H xs vs->Reps K H ys ws->Reps K H (xs++ys) (vs++ws)
 | [],_,_,_,h,h2=>by cases h;exact h2
 | _::_,_,_,_,⟨v,ws,r1,r2,r3⟩,h2=>by subst r1;exact⟨v,_,rfl,r2,Reps.append r3 h2⟩
theorem Reps.one {x:T} {v:V} (r:Rep K H x v):Reps K H [x] [v]:=⟨v,[],rfl,r,rfl⟩
theorem Reps.set {x:T} {v:V} (r:Rep K H x v):∀ {xs:List T} {vs:List V} (i:Nat),Reps K H xs vs->Reps K H (xs.set i x) (vs.set i v)
 | [],_,_,e=>by cases e;rfl
 | _::_,_,0,⟨_,ws,r1,r2,r3⟩=>by subst r1;exact⟨v,ws,rfl,r,r3⟩
 | _::_,_,i+1,⟨u,ws,r1,r2,r3⟩=>by subst r1;exact⟨u,_,rfl,r2,Reps.set r i r3⟩
theorem Reps.take:∀ {xs:List T} {vs:List V} (n:Nat),Reps K H xs vs->Reps K H (xs.take n) (vs.take n)
 | _,_,0,_=>by simp[Reps]
 | [],_,_+1,h=>by cases h;simp[Reps]
 | _::_,_,n+1,⟨u,ws,r1,r2,r3⟩=>by subst r1;exact⟨u,_,rfl,r2,Reps.take n r3⟩
theorem Reps.drop:∀ {xs:List T} {vs:List V} (n:Nat),Reps K H xs vs->Reps K H (xs.drop n) (vs.drop n)
 | _,_,0,h=>h
 | [],_,_+1,h=>by cases h;simp[Reps]
 | _::_,_,n+1,⟨u,ws,r1,r2,r3⟩=>by subst r1;exact Reps.drop n r3
theorem Reps.reverse:∀ {xs:List T} {vs:List V},Reps K H xs vs->Reps K H xs.reverse vs.reverse
 | [],_,h=>by cases h;simp[Reps]
 | _::_,_,⟨u,ws,r1,r2,r3⟩=>by
  subst r1;rw[lKq,lKq];exact (Reps.reverse r3).append ⟨u,[],rfl,r2,rfl⟩
theorem Reps.rep {xs:List T} {vs:List V} (r:Reps K H xs vs):∀n:Nat,Reps K H (List.replicate n xs).flatten (List.replicate n vs).flatten
 | 0=>by simp[Reps]
 | n+1=>by simpa[lKd] using r.append (Reps.rep r n)
theorem Reps.atI {xs:List T} {vs:List V} {i:Int} {x:T} (r:Reps K H xs vs) (h:atI xs i=some x):∃v,atI vs i=some v/\Rep K H x v:=by
 unfold L2.atI at h ⊢
 rw[<-r.length]
 cases e:ixN xs.length i with
 | none=>rw[e] at h;cases h
 | some j=>rw[e] at h;exact r.get h
end
inductive GO where
 | lst (xs:List T) | dct (kvs:List (TKey×T)) | dck (kvs:List (Key×T)) | fdc (kvs:List (TKey×T)) | ins (cn:Str) (fs:List (Str×T))
noncomputable abbrev Gp:=Addr->Option GO
noncomputable def gup (G:Gp) (a:Addr) (o:GO):Gp:=fun b=>if b=a then some o else G b
theorem jJg {G:Gp} {a:Addr} {o:GO}:gup G a o a=some o:=by simp[gup]
theorem jJt {G:Gp} {a b:Addr} {o:GO} (h:b≠a):gup G a o b=G b:=by simp[gup,h]
theorem gup_gup {G:Gp} {a:Addr} {o o':GO}:gup (gup G a o) a o'=gup G a o':=by funext b;by_cases h:b=a<;>simp[gup,h]
noncomputable def asL:Option GO->Option (List T)
 | some (.lst xs)=>some xs
 | _=>none
noncomputable def seqT (G:Gp):T->Option (List T)
 | .tup xs=>some xs
 | .scr xs=>some xs
 | .ref a=>asL (G a)
 | _=>none
noncomputable def PKV {κ:Type} (K:PySem.W.Frag) (H:Hp):List (κ×T)->List (κ×V)->Prop:=Paired fun p q=>p.1=q.1/\Rep K H p.2 q.2
noncomputable def GOk (K:PySem.W.Frag) (H:Hp) (a:Addr):GO->Prop
 | .lst xs=>∃vs,H a=some (.lst vs)/\Reps K H xs vs
 | .dct kvs=>∃ws,H a=some (.dT ws)/\PKV K H kvs ws
 | .dck kvs=>∃ws,H a=some (.dK ws)/\PKV K H kvs ws
 | .fdc kvs=>∃ob ws,H a=some (.frz ob (.dT ws))/\PKV K H kvs ws
 | .ins cn fs=>∃C dx ws,H a=some (.ins C dx ws)/\PySem.W.nsIn K mainGlobals cn=some (some (.ref C))/\PKV K H fs ws
def GRel (K:PySem.W.Frag) (H:Hp) (G:Gp):Prop:=∀a o,G a=some o->GOk K H a o
section
variable {K:PySem.W.Frag} {H H':Hp} {G:Gp} {a:Addr}
theorem PKV.mono {κ:Type} {kvs:List (κ×T)} {ws:List (κ×V)} (e:Ext H H') (h:PKV K H kvs ws):PKV K H' kvs ws:=Paired.mapP h fun _ _ z=>⟨z.1,Rep.mono e _ z.2⟩
theorem GOk.move {o:GO} (h:GOk K H a o) (e:Ext H H') (ha:H' a=H a):GOk K H' a o:=by
 cases o with
 | lst xs=>obtain⟨vs,h1,h2⟩:=h;exact⟨vs,ha.trans h1,Reps.mono e _ h2⟩
 | dct kvs=>obtain⟨vs,h1,h2⟩:=h;exact⟨vs,ha.trans h1,h2.mono e⟩
 | dck kvs=>obtain⟨vs,h1,h2⟩:=h;exact⟨vs,ha.trans h1,h2.mono e⟩
 | fdc kvs=>obtain⟨ob,vs,h1,h2⟩:=h;exact⟨ob,vs,ha.trans h1,h2.mono e⟩
 | ins cn fs=>obtain⟨C,dx,ws,h1,h2,h3⟩:=h;exact⟨C,dx,ws,ha.trans h1,h2,h3.mono e⟩
theorem GOk.some {o:GO} (h:GOk K H a o):H a≠none:=by
 cases o with
 | lst xs=>obtain⟨vs,h1,h2⟩:=h;rw[h1];simp
 | dct kvs=>obtain⟨vs,h1,h2⟩:=h;rw[h1];simp
 | dck kvs=>obtain⟨vs,h1,h2⟩:=h;rw[h1];simp
 | fdc kvs=>obtain⟨ob,vs,h1,h2⟩:=h;rw[h1];simp
 | ins cn fs=>obtain⟨C,dx,ws,h1,h2,h3⟩:=h;rw[h1];simp
theorem GRel.fresh (g:GRel K H G) (h:H a=none):G a=none:=by
 cases e:G a with
 | none=>rfl
 | some o=>exact absurd h (g a o e).some
def Soft (o:Option HO):Prop:=o=none\/(∃xs,o=some (.lst xs))\/(∃kvs,o=some (.dK kvs))\/(∃kvs,o=some (.dT kvs))\/∃C dx fs,o=some (.ins C dx fs)
theorem Ext.upd {o:HO} (h:Soft (H a)):Ext H (L2.upd H a o):=by
 refine⟨fun b xs e=> ?_,fun b ob u e=> ?_⟩
 ·rw[jKw];exact e
  rintro rfl;rw[e] at h;rcases h with h | ⟨_,h⟩ | ⟨_,h⟩ | ⟨_,h⟩ | ⟨_,_,_,h⟩<;>cases h
 ·rw[jKw];exact e
  rintro rfl;rw[e] at h;rcases h with h | ⟨_,h⟩ | ⟨_,h⟩ | ⟨_,h⟩ | ⟨_,_,_,h⟩<;>cases h
theorem GRel.upd {o:HO} {go:GO} (g:GRel K H G) (h:Soft (H a)) (n:GOk K (L2.upd H a o) a go):GRel K (L2.upd H a o) (gup G a go):=by
 intro b u e
 by_cases hb:b=a
 ·subst hb;rw[jJg] at e;cases e;exact n
 ·rw[jJt hb] at e;exact (g b u e).move (Ext.upd h) (jKw hb)
theorem Soft.none (h:H a=none):Soft (H a):= .inl h
theorem Soft.lst {xs:List V} (h:H a=some (.lst xs)):Soft (H a):= .inr (.inl ⟨xs,h⟩)
theorem Soft.dT {xs:List (TKey×V)} (h:H a=some (.dT xs)):Soft (H a):= .inr (.inr (.inr (.inl ⟨xs,h⟩)))
theorem Soft.dK {xs:List (Key×V)} (h:H a=some (.dK xs)):Soft (H a):= .inr (.inr (.inl ⟨xs,h⟩))
theorem GRel.tupNew {vs:List V} (g:GRel K H G) (h:H a=Option.none):GRel K (L2.upd H a (.tup vs)) G:=by
 intro b u e
 have hb:b≠a:=by rintro rfl;exact (g b u e).some h
 exact (g b u e).move (Ext.upd (.none h)) (jKw hb)
theorem Rep.tupNew {xs:List T} {vs:List V} (r:Reps K H xs vs) (h:H a=Option.none):Rep K (L2.upd H a (.tup vs)) (.tup xs) (.ref a):=
 ⟨a,vs,rfl,jQ6,Reps.mono (Ext.upd (.none h)) _ r⟩
theorem GRel.lstNew {xs:List T} {vs:List V} (g:GRel K H G) (r:Reps K H xs vs) (h:Soft (H a)):GRel K (L2.upd H a (.lst vs)) (gup G a (.lst xs)):=
 g.upd h ⟨vs,jQ6,Reps.mono (Ext.upd h) _ r⟩
theorem GRel.lst {xs:List T} (g:GRel K H G) (h:G a=some (.lst xs)):∃vs,H a=some (.lst vs)/\Reps K H xs vs:=g a _ h
end
noncomputable abbrev St3:=List (Option T)
def SRel (K:PySem.W.Frag) (H:Hp) (σ:L2.St) (τ:St3):Prop:=σ.length=τ.length/\∀(i:Nat) (t:T),τ[i]? =some (some t)->∃v,σ[i]? =some (some v)/\Rep K H t v
theorem SRel.mono {K:PySem.W.Frag} {H H':Hp} {σ:L2.St} {τ:St3} (e:Ext H H') (h:SRel K H σ τ):SRel K H' σ τ:=
 ⟨h.1,fun i t q=>let ⟨v,h1,h2⟩:=h.2 i t q;⟨v,h1,Rep.mono e _ h2⟩⟩
theorem SRel.set {K:PySem.W.Frag} {H:Hp} {σ:L2.St} {τ:St3} {t:T} {v:V} (h:SRel K H σ τ) (i:Nat) (r:Rep K H t v):SRel K H (σ.set i (some v)) (τ.set i (some t)):=by
 refine⟨by simp[h.1],fun j u q=> ?_⟩
 by_cases hj:i=j
 ·subst hj
  have hl:i<τ.length:=by
   rcases lJ9 i τ.length with z | z
   ·exact z
   ·rw[lJh (by simpa using z)] at q;cases q
  rw[lJ1 hl] at q
  cases q
  exact⟨v,by rw[lJ1 (by rw[h.1];exact hl)],r⟩
 ·rw[lJx hj] at q ⊢
  exact h.2 j u q
def Inv3 (X:Cx) (pins:List (Addr×Obj)) (τ:St3) (G:Gp) (H:Hp) (s:Shared):Prop:=∃ σ,Inv X pins σ H s/\SRel X.K H σ τ/\GRel X.K H G
noncomputable abbrev VK3:=T->Gp->Prop
noncomputable abbrev TE3:=St3->Gp->VK3->Prop
noncomputable abbrev TT3:=St3->Gp->(Bool->Gp->Prop)->Prop
noncomputable abbrev TA3:=St3->Gp->(List T->Gp->Prop)->Prop
structure Ends3 where
 nx:St3->Gp->Prop
 rt:VK3
 bk:St3->Gp->Prop:=fun _ _=>False
 ct:St3->Gp->Prop:=fun _ _=>False
noncomputable abbrev TS3:=Ends3->St3->Gp->Prop
def RU (K:PySem.W.Frag) (H:Hp) (t:T) (u:Value):Prop:=∃v,Rep K H t v/\RelV v u
def RUs (K:PySem.W.Frag) (H:Hp) (ts:List T) (us:List Value):Prop:=∃vs,Reps K H ts vs/\Vals vs us
theorem RU.mono {K:PySem.W.Frag} {H H':Hp} {t:T} {u:Value} (e:Ext H H') (h:RU K H t u):RU K H' t u:=let ⟨v,h1,h2⟩:=h;⟨v,Rep.mono e _ h1,h2⟩
def EP3 (X:Cx) (pins:List (Addr×Obj)) (τ:St3) (H:Hp) (Q:VK3) (u:Value) (s':Shared):Prop:=∃t G' H',Ext H H'/\Inv3 X pins τ G' H' s'/\RU X.K H' t u/\Q t G'
def TP3 (X:Cx) (pins:List (Addr×Obj)) (τ:St3) (H:Hp) (Q:Bool->Gp->Prop) (b:Bool) (s':Shared):Prop:=∃G' H',Ext H H'/\Inv3 X pins τ G' H' s'/\Q b G'
def AP3 (X:Cx) (pins:List (Addr×Obj)) (τ:St3) (H:Hp) (Q:List T->Gp->Prop) (us:List Value) (s':Shared):Prop:=∃ts G' H',Ext H H'/\Inv3 X pins τ G' H' s'/\RUs X.K H' ts us/\Q ts G'
def SP3 (X:Cx) (pins:List (Addr×Obj)) (H:Hp) (D:Ends3) (f:Flow) (s':Shared):Prop:=
 match f with
 | .next=>∃ τ' G' H',Ext H H'/\Inv3 X pins τ' G' H' s'/\D.nx τ' G'
 | .brk=>∃ τ' G' H',Ext H H'/\Inv3 X pins τ' G' H' s'/\D.bk τ' G'
 | .cont=>∃ τ' G' H',Ext H H'/\Inv3 X pins τ' G' H' s'/\D.ct τ' G'
 | .ret u=>∃t τ' G' H',Ext H H'/\Inv3 X pins τ' G' H' s'/\RU X.K H' t u/\D.rt t G'
def PE3 (X:Cx) (e:Expr) (t:TE3):Prop:=∀(pins:List (Addr×Obj)) (s:Shared) (τ:St3) (G:Gp) (H:Hp) (Q:VK3),Inv3 X pins τ G H s->t τ G Q->wpAny (model X.prog X.w) X.A (eval e X.env) (EP3 X pins τ H Q) X.xe s
def PT3 (X:Cx) (e:Expr) (t:TT3):Prop:=∀(pins:List (Addr×Obj)) (s:Shared) (τ:St3) (G:Gp) (H:Hp) (Q:Bool->Gp->Prop),Inv3 X pins τ G H s->t τ G Q->wpAny (model X.prog X.w) X.A (isTrue e X.env (eval e X.env)) (TP3 X pins τ H Q) X.xe s
def PW3 (X:Cx) (e:Expr) (t:TT3):Prop:=∀(whole:Sem Value) (pins:List (Addr×Obj)) (s:Shared) (τ:St3) (G:Gp) (H:Hp) (Q:Bool->Gp->Prop),Inv3 X pins τ G H s->t τ G Q->wpAny (model X.prog X.w) X.A (isTrue e X.env whole) (TP3 X pins τ H Q) X.xe s
theorem PW3.pt {X:Cx} {e:Expr} {t:TT3} (h:PW3 X e t):PT3 X e t:=h _
def PA3 (X:Cx) (es:List Expr) (t:TA3):Prop:=∀(pos:Pos) (pins:List (Addr×Obj)) (s:Shared) (τ:St3) (G:Gp) (H:Hp) (Q:List T->Gp->Prop),Inv3 X pins τ G H s->t τ G Q->wpAny (model X.prog X.w) X.A (spliced (backTo pos (starEach es X.env))) (AP3 X pins τ H Q) X.xe s
def PS3 (X:Cx) (st:Stmt) (t:TS3):Prop:=∀(pins:List (Addr×Obj)) (s:Shared) (τ:St3) (G:Gp) (H:Hp) (D:Ends3),Inv3 X pins τ G H s->t D τ G->wpAny (model X.prog X.w) X.A (exec st X.env) (SP3 X pins H D) X.xe s
def PSs3 (X:Cx) (st:List Stmt) (t:TS3):Prop:=∀(pins:List (Addr×Obj)) (s:Shared) (τ:St3) (G:Gp) (H:Hp) (D:Ends3),Inv3 X pins τ G H s->t D τ G->wpAny (model X.prog X.w) X.A (execs st X.env) (SP3 X pins H D) X.xe s
section
variable {X:Cx} {pins:List (Addr×Obj)} {τ:St3} {G:Gp} {H H1:Hp} {s:Shared} {C:Prop}
theorem EP3.el {Q:VK3} {u:Value} (h:EP3 X pins τ H Q u s) (k:∀t G' H',Ext H H'->Inv3 X pins τ G' H' s->RU X.K H' t u->Q t G'->C):C:=let ⟨t,G',H',a,b,c,d⟩:=h;k t G' H' a b c d
theorem AP3.el {Q:List T->Gp->Prop} {u:List Value} (h:AP3 X pins τ H Q u s) (k:∀t G' H',Ext H H'->Inv3 X pins τ G' H' s->RUs X.K H' t u->Q t G'->C):C:=let ⟨t,G',H',a,b,c,d⟩:=h;k t G' H' a b c d
theorem TP3.el {Q:Bool->Gp->Prop} {u:Bool} (h:TP3 X pins τ H Q u s) (k:∀G' H',Ext H H'->Inv3 X pins τ G' H' s->Q u G'->C):C:=let ⟨G',H',a,b,c⟩:=h;k G' H' a b c
theorem Inv3.el (h:Inv3 X pins τ G H s) (k:∀ σ,Inv X pins σ H s->SRel X.K H σ τ->GRel X.K H G->C):C:=let ⟨σ,a,b,c⟩:=h;k σ a b c
theorem RU.el {K:PySem.W.Frag} {t:T} {u:Value} (h:RU K H t u) (k:∀v,Rep K H t v->RelV v u->C):C:=let ⟨v,a,b⟩:=h;k v a b
theorem RUs.el {K:PySem.W.Frag} {t:List T} {u:List Value} (h:RUs K H t u) (k:∀v,Reps K H t v->Vals v u->C):C:=let ⟨v,a,b⟩:=h;k v a b
end
section
variable {X:Cx} {pins:List (Addr×Obj)} {τ:St3} {G:Gp} {H H1:Hp} {s:Shared}
theorem EP3.ext {Q:VK3} {u:Value} (e:Ext H H1) (h:EP3 X pins τ H1 Q u s):EP3 X pins τ H Q u s:=let ⟨t,G',H',a,b⟩:=h;⟨t,G',H',e.trans a,b⟩
theorem TP3.ext {Q:Bool->Gp->Prop} {u:Bool} (e:Ext H H1) (h:TP3 X pins τ H1 Q u s):TP3 X pins τ H Q u s:=let ⟨G',H',a,b⟩:=h;⟨G',H',e.trans a,b⟩
theorem SP3.ext {D:Ends3} {f:Flow} (e:Ext H H1) (h:SP3 X pins H1 D f s):SP3 X pins H D f s:=by
 cases f with
 | next=>obtain⟨τ',G',H',a,b⟩:=h;exact⟨τ',G',H',e.trans a,b⟩
 | brk=>obtain⟨τ',G',H',a,b⟩:=h;exact⟨τ',G',H',e.trans a,b⟩
 | cont=>obtain⟨τ',G',H',a,b⟩:=h;exact⟨τ',G',H',e.trans a,b⟩
 | ret u=>obtain⟨t,τ',G',H',a,b⟩:=h;exact⟨t,τ',G',H',e.trans a,b⟩
theorem bin3 {a b:Expr} {ta tb:TE3} (ha:PE3 X a ta) (hb:PE3 X b tb) {R:T->T->Gp->Prop} (I:Inv3 X pins τ G H s) (h:ta τ G fun x G1=>tb τ G1 fun y G2=>R x y G2)
  {α:Type} {Q:α->Shared->Prop} {f:Value->Value->Sem α}
  (hf:∀v u s2 x y G2 H2,Ext H H2->Inv3 X pins τ G2 H2 s2->RU X.K H2 x v->RU X.K H2 y u->R x y G2->wpAny (model X.prog X.w) X.A (f v u) Q X.xe s2):
  wpAny (model X.prog X.w) X.A (eval a X.env) (fun v s₁=>wpAny (model X.prog X.w) X.A (eval b X.env) (fun u s₂=>wpAny (model X.prog X.w) X.A (f v u) Q X.xe s₂) X.xe s₁) X.xe s:=by
 refine thn (ha pins s τ G H _ I h) fun v s1 w_=>w_.el fun x G1 H1 e1 I1 r1 q1=> ?_
 refine thn (hb pins s1 τ G1 H1 _ I1 q1) fun u s2 w_=>w_.el fun y G2 H2 e2 I2 r2 q2=> ?_
 exact hf v u s2 x y G2 H2 (e1.trans e2) I2 (r1.mono e2) r2 q2
noncomputable def up (K:PySem.W.Frag) (H:Hp) (Q:VK3):VK:=fun v H'=>∃t G',Ext H H'/\GRel K H' G'/\Rep K H' t v/\Q t G'
theorem jXy {σ:L2.St} {Q:VK3} {u:Value} (hs:SRel X.K H σ τ) (h:EP X pins σ (up X.K H Q) u s):EP3 X pins τ H Q u s:=
 let ⟨v,H',I',r',t,G',e,g',rt,q⟩:=h
 ⟨t,G',H',e,⟨σ,I',hs.mono e,g'⟩,⟨v,rt,r'⟩,q⟩
end
section
variable {X:Cx} {pos:Pos}
noncomputable def tVar (i:Nat):TE3:=fun τ G Q=>∃t,τ[i]? =some (some t)/\Q t G
noncomputable def tC (t:T):TE3:=fun _ G Q=>Q t G
theorem jJc (i:Nat) {x:Str} (hN:X.N[i]? =some x:=by rfl) (hv:Vis X.env.scope x:=by first | exact Or.inl rfl | exact Or.inr (Or.inl rfl) | exact Or.inr (Or.inr rfl))
  (hd:(x == ("__debug__":Str))=false:=by decide) (hcd:(x == ("__classdict__":Str))=false:=by decide):PE3 X (.Name x pos) (tVar i):=by
 rintro pins s τ G H Q ⟨σ,I,hs,hg⟩ ⟨t,e,q⟩
 obtain⟨v,ev,rv⟩:=hs.2 i t e
 exact thn (pe_var hN hv hd hcd pins s σ H (up X.K H Q) I ⟨v,ev,t,G,.refl H,hg,rv,q⟩) fun u s' h=>jXy hs h
theorem jJl {i j}:PE3 X (.Constant (.int i) j pos) (tC (.int i)):=fun pins s τ G H Q ⟨σ,I,hs,hg⟩ q=>
 thn (pe_int pins s σ H (up X.K H Q) I ⟨.int i,G,.refl H,hg,rfl,q⟩) fun u s' h=>jXy hs h
theorem e_bl {b j}:PE3 X (.Constant (.bool b) j pos) (tC (.bl b)):=fun pins s τ G H Q ⟨σ,I,hs,hg⟩ q=>
 thn (pe_bl pins s σ H (up X.K H Q) I ⟨.bl b,G,.refl H,hg,rfl,q⟩) fun u s' h=>jXy hs h
theorem kJl {j}:PE3 X (.Constant .none j pos) (tC .non):=fun pins s τ G H Q ⟨σ,I,hs,hg⟩ q=>
 thn (pe_non pins s σ H (up X.K H Q) I ⟨.non,G,.refl H,hg,rfl,q⟩) fun u s' h=>jXy hs h
theorem e_str {x j}:PE3 X (.Constant (.str x) j pos) (tC (.str x)):=fun pins s τ G H Q ⟨σ,I,hs,hg⟩ q=>
 thn (pe_str pins s σ H (up X.K H Q) I ⟨.str x,G,.refl H,hg,rfl,q⟩) fun u s' h=>jXy hs h
end
noncomputable abbrev R3:=T->T->Gp->VK3->Prop
def Op3 (X:Cx) (f:Value->Value->Sem Value) (r:R3):Prop:=
 ∀(pins:List (Addr×Obj)) (s:Shared) (τ:St3) (G:Gp) (H:Hp) (x y:T) (v u:Value) (Q:VK3),Inv3 X pins τ G H s->RU X.K H x v->RU X.K H y u->r x y G Q->wpAny (model X.prog X.w) X.A (f v u) (EP3 X pins τ H Q) X.xe s
def Un3 (X:Cx) (f:Value->Sem Value) (r:T->Gp->VK3->Prop):Prop:=
 ∀(pins:List (Addr×Obj)) (s:Shared) (τ:St3) (G:Gp) (H:Hp) (x:T) (v:Value) (Q:VK3),Inv3 X pins τ G H s->RU X.K H x v->r x G Q->wpAny (model X.prog X.w) X.A (f v) (EP3 X pins τ H Q) X.xe s
def Call3 (X:Cx) (f:Value) (r:List T->Gp->VK3->Prop):Prop:=
 ∀(pins:List (Addr×Obj)) (s:Shared) (τ:St3) (G:Gp) (H:Hp) (xs:List T) (us:List Value) (Q:VK3),Inv3 X pins τ G H s->RUs X.K H xs us->r xs G Q->wpAny (model X.prog X.w) X.A (call f us) (EP3 X pins τ H Q) X.xe s
def Mt3 (X:Cx) (id:String) (r:T->List T->Gp->VK3->Prop):Prop:=
 ∀(pins:List (Addr×Obj)) (s:Shared) (τ:St3) (G:Gp) (H:Hp) (x:T) (xs:List T) (v:Value) (us:List Value) (Q:VK3),Inv3 X pins τ G H s->RU X.K H x v->RUs X.K H xs us->r x xs G Q->
  wpAny (model X.prog X.w) X.A (call (.builtin id) (v::us)) (EP3 X pins τ H Q) X.xe s
def Ix3 (X:Cx) (r:R3):Prop:=
 ∀(value slice:Expr) (pins:List (Addr×Obj)) (s:Shared) (τ:St3) (G:Gp) (H:Hp) (x y:T) (v u:Value) (Q:VK3),Inv3 X pins τ G H s->RU X.K H x v->RU X.K H y u->r x y G Q->
  subscripted slice false v u=operate [v,u] (getItem v u)->wpAny (model X.prog X.w) X.A (subscriptTail value slice v u) (EP3 X pins τ H Q) X.xe s
def Set3 (X:Cx) (r:T->T->T->Gp->(Gp->Prop)->Prop):Prop:=
 ∀(pins:List (Addr×Obj)) (s:Shared) (τ:St3) (G:Gp) (H:Hp) (o i v:T) (ov iv u:Value) (Q:Gp->Prop),Inv3 X pins τ G H s->RU X.K H o ov->RU X.K H i iv->RU X.K H v u->r o i v G Q->
  wpAny (model X.prog X.w) X.A (setItem ov iv u) (fun _ s'=>∃G' H',Ext H H'/\Inv3 X pins τ G' H' s'/\Q G') X.xe s
def Tru3 (X:Cx) (r:T->Gp->(Bool->Gp->Prop)->Prop):Prop:=
 ∀(pins:List (Addr×Obj)) (s:Shared) (τ:St3) (G:Gp) (H:Hp) (x:T) (v:Value) (Q:Bool->Gp->Prop),Inv3 X pins τ G H s->RU X.K H x v->r x G Q->wpAny (model X.prog X.w) X.A (truthy v) (TP3 X pins τ H Q) X.xe s
section
variable {X:Cx}
theorem Op3.of {f:Value->Value->Sem Value} {r:R2} {r3:R3} (h:OpR X f r)
  (hr:∀H G x y a b Q,GRel X.K H G->Rep X.K H x a->Rep X.K H y b->r3 x y G Q->r a b H (up X.K H Q)):Op3 X f r3:=by
 rintro pins s τ G H x y v u Q ⟨σ,I,hs,hg⟩ ⟨a,ra,rv⟩ ⟨b,rb,ru⟩ q
 exact thn (h pins s σ H a b v u _ I rv ru (hr H G x y a b Q hg ra rb q)) fun u s' h=>jXy hs h
theorem Un3.of {f:Value->Sem Value} {r:V->Hp->VK->Prop} {r3:T->Gp->VK3->Prop} (h:UnR X f r)
  (hr:∀H G x a Q,GRel X.K H G->Rep X.K H x a->r3 x G Q->r a H (up X.K H Q)):Un3 X f r3:=by
 rintro pins s τ G H x v Q ⟨σ,I,hs,hg⟩ ⟨a,ra,rv⟩ q
 exact thn (h pins s σ H a v _ I rv (hr H G x a Q hg ra q)) fun u s' h=>jXy hs h
theorem Call3.of {f:Value} {r:List V->Hp->VK->Prop} {r3:List T->Gp->VK3->Prop} (h:kQt X f r)
  (hr:∀H G xs as Q,GRel X.K H G->Reps X.K H xs as->r3 xs G Q->r as H (up X.K H Q)):Call3 X f r3:=by
 rintro pins s τ G H xs us Q ⟨σ,I,hs,hg⟩ ⟨as,ra,rv⟩ q
 exact thn (h pins s σ H as us _ I rv (hr H G xs as Q hg ra q)) fun u s' h=>jXy hs h
theorem Mt3.of {id:String} {r:V->List V->Hp->VK->Prop} {r3:T->List T->Gp->VK3->Prop} (h:MtR X id r)
  (hr:∀H G x xs a as Q,GRel X.K H G->Rep X.K H x a->Reps X.K H xs as->r3 x xs G Q->r a as H (up X.K H Q)):Mt3 X id r3:=by
 rintro pins s τ G H x xs v us Q ⟨σ,I,hs,hg⟩ ⟨a,ra,rv⟩ ⟨as,ras,rvs⟩ q
 exact thn (h pins s σ H a as v us _ I rv rvs (hr H G x xs a as Q hg ra ras q)) fun u s' h=>jXy hs h
theorem Ix3.of {r:R2} {r3:R3} (h:IxR X r)
  (hr:∀H G x y a b Q,GRel X.K H G->Rep X.K H x a->Rep X.K H y b->r3 x y G Q->r a b H (up X.K H Q)):Ix3 X r3:=by
 rintro value slice pins s τ G H x y v u Q ⟨σ,I,hs,hg⟩ ⟨a,ra,rv⟩ ⟨b,rb,ru⟩ q hh
 exact thn (h value slice pins s σ H a b v u _ I rv ru (hr H G x y a b Q hg ra rb q) hh) fun u s' h=>jXy hs h
theorem Set3.of {t:TSet} {r3:T->T->T->Gp->(Gp->Prop)->Prop} (h:PSet X t)
  (hr:∀H G o i v a b c Q,GRel X.K H G->Rep X.K H o a->Rep X.K H i b->Rep X.K H v c->r3 o i v G Q->t a b c H (fun H'=>∃G',Ext H H'/\GRel X.K H' G'/\Q G')):Set3 X r3:=by
 rintro pins s τ G H o i v ov iv u Q ⟨σ,I,hs,hg⟩ ⟨a,ra,rv⟩ ⟨b,rb,ru⟩ ⟨c,rc,rw'⟩ q
 exact thn (h pins s σ H a b c ov iv u _ I rv ru rw' (hr H G o i v a b c Q hg ra rb rc q)) fun _ s' ⟨H',I',G',e,g',q'⟩=>⟨G',H',e,⟨σ,I',hs.mono e,g'⟩,q'⟩
theorem Tru3.of {r:V->Hp->(Bool->Hp->Prop)->Prop} {r3:T->Gp->(Bool->Gp->Prop)->Prop} (h:TruR X r)
  (hr:∀H G x a Q,GRel X.K H G->Rep X.K H x a->r3 x G Q->r a H (fun b H'=>H'=H/\Q b G)):Tru3 X r3:=by
 rintro pins s τ G H x v Q ⟨σ,I,hs,hg⟩ ⟨a,ra,rv⟩ q
 exact thn (h pins s σ H a v _ I rv (hr H G x a Q hg ra q)) fun b s' ⟨H',I',e,q'⟩=>by
  subst e;exact⟨G,H',.refl _,⟨σ,I',hs,hg⟩,q'⟩
theorem Op3.or {f:Value->Value->Sem Value} {r r':R3} (h:Op3 X f r) (h':Op3 X f r'):Op3 X f (fun x y G Q=>r x y G Q\/r' x y G Q):=by
 intro pins s τ G H x y v u Q I rx ry q
 rcases q with q | q
 ·exact h pins s τ G H x y v u Q I rx ry q
 ·exact h' pins s τ G H x y v u Q I rx ry q
noncomputable def rI (C:Int->Int->Prop) (g:Int->Int->T):R3:=fun x y G Q=>∃i j,x= .int i/\y= .int j/\C i j/\Q (g i j) G
noncomputable def rI0 (g:Int->Int->T):R3:=fun x y G Q=>∃i j,x= .int i/\y= .int j/\Q (g i j) G
theorem o_I {f:Value->Value->Sem Value} {C:Int->Int->Prop} {g:Int->Int->V} {g':Int->Int->T} (h:OpR X f (L2.rI C g)) (hg':∀K H i j,Rep K H (g' i j) (g i j)):Op3 X f (rI C g'):=
 Op3.of h fun H G x y a b Q hg ra rb ⟨i,j,ex,ey,c,q⟩=>by
  subst ex;subst ey
  cases (show a= .int i from ra);cases (show b= .int j from rb)
  exact⟨i,j,rfl,rfl,c,g' i j,G,.refl H,hg,hg' _ _ i j,q⟩
theorem o_I0 {f:Value->Value->Sem Value} {g:Int->Int->V} {g':Int->Int->T} (h:OpR X f (L2.rI0 g)) (hg':∀K H i j,Rep K H (g' i j) (g i j)):Op3 X f (rI0 g'):=
 Op3.of h fun H G x y a b Q hg ra rb ⟨i,j,ex,ey,q⟩=>by
  subst ex;subst ey
  cases (show a= .int i from ra);cases (show b= .int j from rb)
  exact⟨i,j,rfl,rfl,g' i j,G,.refl H,hg,hg' _ _ i j,q⟩
theorem o_add:Op3 X (binaryOp .Add) (rI0 fun i j=> .int (i+j)):=o_I0 op_add fun _ _ _ _=>rfl
theorem kQj:Op3 X (binaryOp .Sub) (rI0 fun i j=> .int (i-j)):=o_I0 op_sub fun _ _ _ _=>rfl
theorem o_mul:Op3 X (binaryOp .Mult) (rI CMul fun i j=> .int (i*j)):=o_I op_mul fun _ _ _ _=>rfl
theorem o_fdiv:Op3 X (binaryOp .FloorDiv) (rI CDiv fun i j=> .int (i / j)):=o_I op_fdiv fun _ _ _ _=>rfl
theorem jZc:Op3 X (binaryOp .Mod) (rI (fun _ j=>0<j) fun i j=> .int (i%j)):=o_I op_mod fun _ _ _ _=>rfl
theorem o_pow:Op3 X (binaryOp .Pow) (rI CPow fun i j=> .int (i^j.toNat)):=o_I op_pow fun _ _ _ _=>rfl
theorem o_lt:Op3 X (compareOp .Lt) (rI0 fun i j=> .bl (decide (i<j))):=o_I0 op_lt fun _ _ _ _=>rfl
theorem o_le:Op3 X (compareOp .LtE) (rI0 fun i j=> .bl (decide (i<=j))):=o_I0 op_le fun _ _ _ _=>rfl
theorem o_gt:Op3 X (compareOp .Gt) (rI0 fun i j=> .bl (decide (j<i))):=o_I0 op_gt fun _ _ _ _=>rfl
theorem o_ge:Op3 X (compareOp .GtE) (rI0 fun i j=> .bl (decide (j<=i))):=o_I0 op_ge fun _ _ _ _=>rfl
noncomputable def isNon:T->Bool
 | .non=>true
 | _=>false
theorem Rep.non_iff {K:PySem.W.Frag} {H:Hp} {x:T} {a:V} (r:Rep K H x a):decide (a= .non)=isNon x:=by
 cases x with
 | non=>cases (show a= .non from r);rfl
 | bl b=>cases (show a= .bl b from r);rfl
 | int b=>cases (show a= .int b from r);rfl
 | str b=>cases (show a= .str b from r);rfl
 | ref b=>cases (show a= .ref b from r);rfl
 | ty b=>cases (show a= .ty b from r);rfl
 | tup b=>obtain⟨_,_,e,_⟩:=(show ∃c vs,a= .ref c/\_ from r);subst e;rfl
 | scr b=>obtain⟨_,_,e,_⟩:=(show ∃c vs,a= .ref c/\_ from r);subst e;rfl
theorem o_isN:Op3 X (compareOp .Is) (fun x y G Q=>y= .non/\Q (.bl (isNon x)) G):=
 Op3.of op_isN fun H G x y a b Q hg ra rb ⟨ey,q⟩=>by
  subst ey;cases (show b= .non from rb)
  exact⟨rfl,.bl (isNon x),G,.refl H,hg,by rw[ra.non_iff];rfl,q⟩
end
noncomputable def tOp (r:R3) (ta tb:TE3):TE3:=fun τ G Q=>ta τ G fun x G1=>tb τ G1 fun y G2=>r x y G2 Q
noncomputable def tUn (r:T->Gp->VK3->Prop) (ta:TE3):TE3:=fun τ G Q=>ta τ G fun x G1=>r x G1 Q
noncomputable def jKe (t:TE3):TT3:=fun τ G Q=>t τ G fun x G1=>∃c,x= .bl c/\Q c G1
noncomputable def tAnd (t u:TT3):TT3:=fun τ G Q=>t τ G fun c G1=>if c=true then u τ G1 Q else Q false G1
noncomputable def tOr (t u:TT3):TT3:=fun τ G Q=>t τ G fun c G1=>if c=true then Q true G1 else u τ G1 Q
noncomputable def tNot (t:TT3):TT3:=fun τ G Q=>t τ G fun c G1=>Q (!c) G1
noncomputable def kUn (ta tb:TE3):TE3:=fun τ G Q=>ta τ G fun x G1=>∃c,x= .bl c/\if c=true then tb τ G1 Q else Q (.bl false) G1
noncomputable def tOrV (ta tb:TE3):TE3:=fun τ G Q=>ta τ G fun x G1=>∃c,x= .bl c/\if c=true then Q (.bl true) G1 else tb τ G1 Q
noncomputable def tNotV (ta:TE3):TE3:=fun τ G Q=>ta τ G fun x G1=>∃c,x= .bl c/\Q (.bl (!c)) G1
noncomputable def tIf (t:TT3) (ta tb:TE3):TE3:=fun τ G Q=>t τ G fun c G1=>if c=true then ta τ G1 Q else tb τ G1 Q
noncomputable def tChain (r r':R3) (ta tb tc:TE3):TE3:=fun τ G Q=>ta τ G fun x G1=>tb τ G1 fun y G2=>r x y G2 fun z G3=>∃k,z= .bl k/\if k=true then tc τ G3 (fun w G4=>r' y w G4 Q) else Q (.bl false) G3
noncomputable def tNil:TA3:=fun _ G Q=>Q [] G
noncomputable def jJa (ta:TE3) (tr:TA3):TA3:=fun τ G Q=>ta τ G fun x G1=>tr τ G1 fun xs G2=>Q (x::xs) G2
noncomputable def tTup (t:TA3):TE3:=fun τ G Q=>t τ G fun xs G1=>xs.length<=sizeLine/\Q (.tup xs) G1
noncomputable def tLst (t:TA3):TE3:=fun τ G Q=>t τ G fun xs G1=>xs.length<=sizeLine/\∀p,G1 p=none->Q (.ref p) (gup G1 p (.lst xs))
noncomputable def tCB (r:List T->Gp->VK3->Prop) (t:TA3):TE3:=fun τ G Q=>t τ G fun xs G1=>r xs G1 Q
section
variable {X:Cx} {a b c:Expr} {ta tb tc:TE3} {tA tB:TT3} {pos:Pos} {rest es:List Expr} {t:TA3}
theorem e_op {op:Operator} {r:R3} (ho:Op3 X (binaryOp op) r) (ha:PE3 X a ta) (hb:PE3 X b tb):PE3 X (.BinOp a op b pos) (tOp r ta tb):=by
 intro pins s τ G H Q I h
 exact wpAny_BinOp (bin3 ha hb I h fun v u s2 x y G2 H2 e I2 rx ry q=>thn (ho pins s2 τ G2 H2 x y v u Q I2 rx ry q) fun _ _ z=>z.ext e)
theorem e_un {op:UnaryOp} {r:T->Gp->VK3->Prop} (ho:Un3 X (unaryOp op) r) (ha:PE3 X a ta):PE3 X (.UnaryOp op a pos) (tUn r ta):=by
 intro pins s τ G H Q I h
 exact UnaryOp_ (thn (ha pins s τ G H _ I h) fun v s1 w_=>w_.el fun x G1 H1 e I1 r1 q1=>thn (ho pins s1 τ G1 H1 x v Q I1 r1 q1) fun _ _ z=>z.ext e)
theorem kKt {op:CmpOp} {r:R3} (ho:Op3 X (compareOp op) r) (ha:PE3 X a ta) (hb:PE3 X b tb) (hm:behindInMarks op b=false):PE3 X (.Compare a [op] [b] pos) (tOp r ta tb):=by
 intro pins s τ G H Q I h
 exact wpAny_Compare1 (bin3 ha hb I h fun v u s2 x y G2 H2 e I2 rx ry q=>thn (ho pins s2 τ G2 H2 x y v u Q I2 rx ry q) fun _ _ z=>z.ext e) hm
theorem jQo {op:CmpOp} {r:R3} (ho:Op3 X (compareOp op) r) (ha:PE3 X a ta) (hb:PE3 X b tb) (hm:behindInMarks op b=false):PT3 X (.Compare a [op] [b] pos) (jKe (tOp r ta tb)):=by
 intro pins s τ G H Q I h
 refine wpAny_isTrue_Compare1 (bin3 ha hb I h fun v u s2 x y G2 H2 e I2 rx ry q=>thn (ho pins s2 τ G2 H2 x y v u _ I2 rx ry q) fun w' s3 w_=>w_.el fun z G3 H3 e3 I3 r3 ⟨k,ez,q3⟩=> ?_) hm
 subst ez
 obtain⟨v',rv',ru'⟩:=r3
 cases (show v'= .bl k from rv');cases ru'
 exact wpAny_truthy_bool ⟨G3,H3,e.trans e3,I3,q3⟩
theorem t_val {e:Expr} {t:TE3} (h:PE3 X e t) (he:∀whole,isTrue e X.env whole=(do let v <-whole;standAt e.pos;holding [v] (truthy v)):=by intro _;rfl):PT3 X e (jKe t):=by
 intro pins s τ G H Q I hw
 refine isTrue_plain (thn (h pins s τ G H _ I hw) fun v s1 w_=>w_.el fun x G1 H1 e1 I1 r1 ⟨k,ez,q1⟩=> ?_) (he _)
 subst ez
 obtain⟨v',rv',ru'⟩:=r1
 cases (show v'= .bl k from rv');cases ru'
 exact wpAny_truthy_bool ⟨G1,H1,e1,I1,q1⟩
noncomputable def tTru (r:T->Gp->(Bool->Gp->Prop)->Prop) (t:TE3):TT3:=fun τ G Q=>t τ G fun x G1=>r x G1 Q
theorem t_tru {e:Expr} {t:TE3} {r:T->Gp->(Bool->Gp->Prop)->Prop} (hr:Tru3 X r) (h:PE3 X e t) (he:∀whole,isTrue e X.env whole=(do let v <-whole;standAt e.pos;holding [v] (truthy v)):=by intro _;rfl):PT3 X e (tTru r t):=by
 intro pins s τ G H Q I hw
 exact isTrue_plain (thn (h pins s τ G H _ I hw) fun v s1 w_=>w_.el fun x G1 H1 e1 I1 r1 q1=>thn (hr pins s1 τ G1 H1 x v Q I1 r1 q1) fun _ _ z=>z.ext e1) (he _)
theorem w_and1 (ha:PT3 X a tA):PW3 X (.BoolOp .And [a] pos) tA:=by
 intro wh pins s τ G H Q I h
 refine isTrue_and (thn (ha pins s τ G H Q I h) fun c s1 e=> ?_)
 cases c with
 | true=>exact isTrue_and_nil e
 | false=>exact e
theorem w_or1 (ha:PT3 X a tA):PW3 X (.BoolOp .Or [a] pos) tA:=by
 intro wh pins s τ G H Q I h
 refine isTrue_or (thn (ha pins s τ G H Q I h) fun c s1 e=> ?_)
 cases c with
 | false=>exact isTrue_or_nil e
 | true=>exact e
theorem w_and (ha:PT3 X a tA) (hb:PW3 X (.BoolOp .And (b::rest) pos) tB):PW3 X (.BoolOp .And (a::b::rest) pos) (tAnd tA tB):=by
 intro wh pins s τ G H Q I h
 refine isTrue_and (thn (ha pins s τ G H _ I h) fun c s1 w_=>w_.el fun G1 H1 e1 I1 q1=> ?_)
 cases c with
 | true=>exact thn (hb wh pins s1 τ G1 H1 Q I1 q1) fun _ _ z=>z.ext e1
 | false=>exact⟨G1,H1,e1,I1,q1⟩
theorem w_or (ha:PT3 X a tA) (hb:PW3 X (.BoolOp .Or (b::rest) pos) tB):PW3 X (.BoolOp .Or (a::b::rest) pos) (tOr tA tB):=by
 intro wh pins s τ G H Q I h
 refine isTrue_or (thn (ha pins s τ G H _ I h) fun c s1 w_=>w_.el fun G1 H1 e1 I1 q1=> ?_)
 cases c with
 | true=>exact⟨G1,H1,e1,I1,q1⟩
 | false=>exact thn (hb wh pins s1 τ G1 H1 Q I1 q1) fun _ _ z=>z.ext e1
theorem t_not (ha:PT3 X a tA):PT3 X (.UnaryOp .Not a pos) (tNot tA):=by
 intro pins s τ G H Q I h
 exact isTrue_not (thn (ha pins s τ G H (fun c G1=>Q (!c) G1) I h) fun c s1 w_=>w_.el fun G1 H1 e1 I1 q1=>⟨G1,H1,e1,I1,q1⟩)
theorem e_one {op} {t:TE3} (h:PE3 X a t):PE3 X (.BoolOp op [a] pos) t:=fun pins s τ G H Q I hw=>BoolOp_one (h pins s τ G H Q I hw)
theorem e_and (ha:PE3 X a ta) (hb:PE3 X (.BoolOp .And (b::rest) pos) tb):PE3 X (.BoolOp .And (a::b::rest) pos) (kUn ta tb):=by
 intro pins s τ G H Q I h
 refine BoolOp_and (thn (ha pins s τ G H _ I h) fun v s1 w_=>w_.el fun x G1 H1 e1 I1 r1 ⟨k,ez,q1⟩=> ?_)
 subst ez
 obtain⟨v',rv',ru'⟩:=r1
 cases (show v'= .bl k from rv');cases ru'
 refine wpAny_truthy_bool ?_
 cases k with
 | true=>exact thn (hb pins s1 τ G1 H1 Q I1 q1) fun _ _ z=>z.ext e1
 | false=>exact⟨.bl false,G1,H1,e1,I1,⟨.bl false,rfl,rfl⟩,q1⟩
theorem e_not (ha:PE3 X a ta):PE3 X (.UnaryOp .Not a pos) (tNotV ta):=by
 intro pins s τ G H Q I h
 refine UnaryOp_ (thn (ha pins s τ G H _ I h) fun v s1 w_=>w_.el fun x G1 H1 e1 I1 r1 ⟨k,ez,q1⟩=> ?_)
 subst ez
 obtain⟨v',rv',ru'⟩:=r1
 cases (show v'= .bl k from rv');cases ru'
 exact not_of (wpAny_truthy_bool ⟨.bl (!k),G1,H1,e1,I1,⟨.bl (!k),rfl,rfl⟩,q1⟩)
theorem kKs (hc:PT3 X c tA) (ha:PE3 X a ta) (hb:PE3 X b tb):PE3 X (.IfExp c a b pos) (tIf tA ta tb):=by
 intro pins s τ G H Q I h
 refine IfExp_ (thn (hc pins s τ G H _ I h) fun k s1 w_=>w_.el fun G1 H1 e1 I1 q1=> ?_)
 cases k with
 | true=>exact thn (ha pins s1 τ G1 H1 Q I1 q1) fun _ _ z=>z.ext e1
 | false=>exact thn (hb pins s1 τ G1 H1 Q I1 q1) fun _ _ z=>z.ext e1
theorem jJd:PA3 X [] tNil:=fun _ _ _ _ G H Q I h=>Calls.spliced_nil ⟨[],G,H,.refl H,I,⟨[],rfl,.nil⟩,h⟩
theorem jJb {e:Expr} {te:TE3} (ha:PE3 X e te) (hr:PA3 X es t) (hs:starEach (e::es) X.env=(false,eval e X.env)::starEach es X.env:=by rfl):PA3 X (e::es) (jJa te t):=by
 intro pos pins s τ G H Q I h
 rw[hs]
 show wpAny _ _ (spliced ((false,eval e X.env)::backTo pos (starEach es X.env))) _ _ s
 refine Calls.spliced_cons (thn (ha pins s τ G H _ I h) fun u s1 w_=>w_.el fun x G1 H1 e1 I1 r1 q1=> ?_)
 refine thn (hr pos pins s1 τ G1 H1 _ I1 q1) fun us s2 w_=>w_.el fun xs G2 H2 e2 I2 r_ q2=>r_.el fun vs rs rv=> ?_
 obtain⟨v,rr,rvv⟩:=r1.mono e2
 exact⟨x::xs,G2,H2,e1.trans e2,I2,⟨v::vs,⟨v,vs,rfl,rr,rs⟩,.cons rvv rv⟩,q2⟩
theorem jKd {x1} (h:PA3 X es t):PE3 X (.Tuple es x1 pos) (tTup t):=by
 intro pins s τ G H Q I hq
 refine wpAny_Tuple_spliced (thn (h pos pins s τ G H _ I hq) fun us s1 w_=>w_.el fun xs G1 H1 e1 i_ r_ ⟨z,q⟩=>i_.el fun σ I1 hs1 hg1=>r_.el fun vs rs rv=>⟨by rw[<-rv.length,<-rs.length];exact z,?_⟩)
 have hf:H1 s1.heap.objs.size=none:=I1.hok.fresh (lJd _)
 have e2:Ext H1 (upd H1 s1.heap.objs.size (.tup vs)):= .upd (.none hf)
 refine⟨.tup xs,G1,upd H1 s1.heap.objs.size (.tup vs),e1.trans e2,⟨σ,I1.laid (t':=s1.toks) (fun b u e=>Heap.get?_push_of_some _ e) (lJd _) ?_,hs1.mono e2,hg1.tupNew hf⟩,⟨.ref s1.heap.objs.size,Rep.tupNew rs hf,rfl⟩,q⟩
 exact⟨by rw[<-rs.length];exact z,us,rv,⟨_,Heap.get?_push_size _ rfl,rfl,_,rfl,rfl⟩⟩
theorem jQf (h:PA3 X es t):PE3 X (.List es pos) (tLst t):=by
 intro pins s τ G H Q I hq
 refine wpAny_List_spliced (thn (h pos pins s τ G H _ I hq) fun us s1 w_=>w_.el fun xs G1 H1 e1 i_ r_ ⟨z,q⟩=>i_.el fun σ I1 hs1 hg1=>r_.el fun vs rs rv=>⟨by rw[<-rv.length,<-rs.length];exact z,?_⟩)
 have hf:H1 s1.heap.objs.size=none:=I1.hok.fresh (lJd _)
 have e2:Ext H1 (upd H1 s1.heap.objs.size (.lst vs)):= .upd (.none hf)
 refine⟨.ref s1.heap.objs.size,gup G1 s1.heap.objs.size (.lst xs),upd H1 s1.heap.objs.size (.lst vs),e1.trans e2,⟨σ,I1.laid (t':=s1.toks) (fun b u e=>Heap.get?_push_of_some _ e) (lJd _) ?_,hs1.mono e2,hg1.lstNew rs (.none hf)⟩,⟨.ref s1.heap.objs.size,rfl,rfl⟩,q _ (hg1.fresh hf)⟩
 exact⟨by rw[<-rs.length];exact z,us,0,rv,Heap.get?_push_size _ rfl⟩
theorem e_ix {r:R3} (hr:Ix3 X r) (ha:PE3 X a ta) (hb:PE3 X b tb) (hs:PlainIx b):PE3 X (.Subscript a b pos) (tOp r ta tb):=by
 intro pins s τ G H Q I h
 exact Subscript_ (bin3 ha hb I h fun v u s2 x y G2 H2 e I2 rx ry q=>thn (hr a b pins s2 τ G2 H2 x y v u Q I2 rx ry q (hs _ _)) fun _ _ z=>z.ext e)
noncomputable def rIx:R3:=fun x y G Q=>∃xs i t,seqT G x=some xs/\y= .int i/\atI xs i=some t/\Q t G
theorem jYn {o:Option GO} {xs:List T} (h:asL o=some xs):o=some (.lst xs):=by
 cases o with
 | none=>cases h
 | some g=>cases g with
  | lst ys=>cases h;rfl
  | dct _=>cases h
  | dck _=>cases h
  | fdc _=>cases h
  | ins _ _=>cases h
theorem jVz {K:PySem.W.Frag} {H:Hp} {G:Gp} {x:T} {a:V} {xs:List T} (hg:GRel K H G) (r:Rep K H x a) (h:seqT G x=some xs):
  ∃p vs,a= .ref p/\(SqL K H p vs\/SqT K H p vs)/\Reps K H xs vs:=by
 cases x with
 | tup ys=>cases h;obtain⟨p,vs,e,h1,h2⟩:=(show ∃p vs,a= .ref p/\H p=some (.tup vs)/\Reps K H xs vs from r);exact⟨p,vs,e,.inr (.of h1),h2⟩
 | scr ys=>cases h;obtain⟨p,vs,e,h1,h2⟩:=(show ∃p vs,a= .ref p/\FrL K H p vs/\Reps K H xs vs from r);exact⟨p,vs,e,.inl h1.sq,h2⟩
 | ref p=>
  obtain⟨vs,h1,h2⟩:=hg.lst (jYn h)
  exact⟨p,vs,r,.inl (.of h1),h2⟩
 | non=>cases h
 | bl _=>cases h
 | int _=>cases h
 | str _=>cases h
 | ty _=>cases h
theorem ix_any:Ix3 X rIx:=
 Ix3.of (ix_list.or ix_tup) fun H G x y a b Q hg ra rb ⟨xs,i,t,hx,ey,ht,q⟩=>by
  subst ey;cases (show b= .int i from rb)
  obtain⟨p,vs,e,hq,r⟩:=jVz hg ra hx
  subst e
  obtain⟨v,hv,rv⟩:=r.atI ht
  rcases hq with hq | hq
  ·exact .inl ⟨p,vs,i,v,rfl,rfl,hq,hv,t,G,.refl H,hg,rv,q⟩
  ·exact .inr ⟨p,vs,i,v,rfl,rfl,hq,hv,t,G,.refl H,hg,rv,q⟩
theorem jJr {id:String} {r:List T->Gp->VK3->Prop} {x:Str} {p:Pos} {e:Expr} (hc:Call3 X (.builtin id) r) (hg:Gl X x) (hm:X.mg x=none) (hv:bootBuiltins x=some (.builtin id)) (ha:PA3 X (e::es) t) (hn:x≠"__name__":=by decide) (hdb:(x == ("__debug__":Str))=false:=by decide)
  (he:starEach (e::es) X.env=(false,eval e X.env)::starEach es X.env:=by rfl) (hpl:(backTo pos (starEach es X.env)).any (·.1)=false:=by rfl):PE3 X (.Call (.Name x p) (e::es) [] pos) (tCB r t):=by
 intro pins s τ G H Q I h
 obtain⟨σ,I0,hs0,hg0⟩:=_root_.id I
 refine wpAny_Call_Name_kw (jXr I0 hg hm hv ?_ hn hdb)
 exact PyProof.Rows.callWith_builtin1 (thn (ha pos pins s τ G H _ I h) fun us s1 w_=>w_.el fun xs G1 H1 e1 I1 r1 q1=>thn (hc pins s1 τ G1 H1 xs us Q I1 r1 q1) fun _ _ z=>z.ext e1) he hpl
theorem jJ4 {T0:String} {r:List T->Gp->VK3->Prop} {x:Str} {p:Pos} {e:Expr} (hc:Call3 X (.type T0) r) (hg:Gl X x) (hm:X.mg x=none) (hv:bootBuiltins x=some (.type T0)) (ha:PA3 X (e::es) t) (hn:x≠"__name__":=by decide) (hdb:(x == ("__debug__":Str))=false:=by decide)
  (he:starEach (e::es) X.env=(false,eval e X.env)::starEach es X.env:=by rfl) (hpl:(backTo pos (starEach es X.env)).any (·.1)=false:=by rfl):PE3 X (.Call (.Name x p) (e::es) [] pos) (tCB r t):=by
 intro pins s τ G H Q I h
 obtain⟨σ,I0,hs0,hg0⟩:=_root_.id I
 refine wpAny_Call_Name_kw (jXr I0 hg hm hv ?_ hn hdb)
 exact PyProof.Rows.callWith_type1 (thn (ha pos pins s τ G H _ I h) fun us s1 w_=>w_.el fun xs G1 H1 e1 I1 r1 q1=>thn (hc pins s1 τ G1 H1 xs us Q I1 r1 q1) fun _ _ z=>z.ext e1) he hpl
theorem jYs {K:PySem.W.Frag} {H:Hp} {x:T} {vs:List V} (h:Reps K H [x] vs):∃v,vs=[v]/\Rep K H x v:=by
 obtain⟨v,ws,rfl,r,e⟩:=h;cases e;exact⟨v,rfl,r⟩
theorem kK9 {K:PySem.W.Frag} {H:Hp} {x y:T} {vs:List V} (h:Reps K H [x,y] vs):∃v w,vs=[v,w]/\Rep K H x v/\Rep K H y w:=by
 obtain⟨v,ws,rfl,r,w,ws2,rfl,r2,e⟩:=h;cases e;exact⟨v,w,rfl,r,r2⟩
noncomputable def rLen:List T->Gp->VK3->Prop:=fun xs G Q=>∃x ys,xs=[x]/\seqT G x=some ys/\Q (.int ys.length) G
theorem jK2:Call3 X (.builtin "len") rLen:=
 Call3.of call_len_seq fun H G xs as Q hg ra ⟨x,ys,e,hx,q⟩=>by
  subst e
  obtain⟨v,rfl,rv⟩:=jYs ra
  obtain⟨p,vs,rfl,hq,r⟩:=jVz hg rv hx
  exact⟨p,vs,rfl,hq,.int ys.length,G,.refl H,hg,by rw[r.length];rfl,q⟩
noncomputable def rAbs:List T->Gp->VK3->Prop:=fun xs G Q=>∃i,xs=[.int i]/\Q (.int (if i<0 then -i else i)) G
theorem c_abs:Call3 X (.builtin "abs") rAbs:=
 Call3.of call_abs fun H G xs as Q hg ra ⟨i,e,q⟩=>by
  subst e
  obtain⟨v,rfl,rv⟩:=jYs ra
  cases (show v= .int i from rv)
  exact⟨i,rfl,.int _,G,.refl H,hg,rfl,q⟩
noncomputable def rMax:List T->Gp->VK3->Prop:=fun xs G Q=>∃i j,xs=[.int i,.int j]/\Q (.int (if j>i then j else i)) G
theorem c_max (hc:X.calm=true):Call3 X (.builtin "max") rMax:=
 Call3.of (call_max2 hc) fun H G xs as Q hg ra ⟨i,j,e,q⟩=>by
  subst e
  obtain⟨v,w,rfl,rv,rw'⟩:=kK9 ra
  cases (show v= .int i from rv);cases (show w= .int j from rw')
  exact⟨i,j,rfl,.int _,G,.refl H,hg,rfl,q⟩
noncomputable def jZb:List T->Gp->VK3->Prop:=fun xs G Q=>∃k,xs=[.bl k]/\Q (.int (if k then 1 else 0)) G
theorem c_int:Call3 X (.type "int") jZb:=
 Call3.of call_int1 fun H G xs as Q hg ra ⟨k,e,q⟩=>by
  subst e
  obtain⟨v,rfl,rv⟩:=jYs ra
  cases (show v= .bl k from rv)
  exact .inr ⟨k,rfl,.int _,G,.refl H,hg,rfl,q⟩
noncomputable def rDivmod:List T->Gp->VK3->Prop:=fun xs G Q=>∃i j,xs=[.int i,.int j]/\CDiv i j/\Q (.tup [.int (i / j),.int (i%j)]) G
theorem c_divmod:Call3 X (.builtin "divmod") rDivmod:=
 Call3.of call_divmod fun H G xs as Q hg ra ⟨i,j,e,c,q⟩=>by
  subst e
  obtain⟨v,w,rfl,rv,rw'⟩:=kK9 ra
  cases (show v= .int i from rv);cases (show w= .int j from rw')
  exact⟨i,j,rfl,c,fun p hp=>⟨.tup [.int (i / j),.int (i%j)],G,.upd (.none hp),hg.tupNew hp,Rep.tupNew ⟨_,_,rfl,rfl,_,_,rfl,rfl,rfl⟩ hp,q⟩⟩
noncomputable def jVw:List T->Gp->VK3->Prop:=fun xs G Q=>∃x ys,xs=[x]/\seqT G x=some ys/\∀p,G p=none->Q (.ref p) (gup G p (.lst ys))
theorem c_list:Call3 X (.type "list") jVw:=
 Call3.of call_list_of fun H G xs as Q hg ra ⟨x,ys,e,hx,q⟩=>by
  subst e
  obtain⟨v,rfl,rv⟩:=jYs ra
  obtain⟨p,vs,rfl,hq,r⟩:=jVz hg rv hx
  exact⟨p,vs,rfl,hq,fun l hl=>⟨.ref l,_,.upd (.none hl),hg.lstNew r (.none hl),rfl,q l (hg.fresh hl)⟩⟩
noncomputable def jKm:List T->Gp->VK3->Prop:=fun xs G Q=>∃x ys,xs=[x]/\seqT G x=some ys/\Q (.tup ys) G
theorem jQr:Call3 X (.type "tuple") jKm:=
 Call3.of kVx fun H G xs as Q hg ra ⟨x,ys,e,hx,q⟩=>by
  subst e
  obtain⟨v,rfl,rv⟩:=jYs ra
  obtain⟨p,vs,rfl,hq,r⟩:=jVz hg rv hx
  cases x with
  | tup zs=>
   cases hx
   obtain⟨p',vs',e',h1,h2⟩:=(show ∃p' vs',V.ref p= .ref p'/\H p'=some (.tup vs')/\Reps X.K H ys vs' from rv)
   cases e'
   exact⟨p,vs',rfl,.inr ⟨.of h1,.tup ys,G,.refl H,hg,⟨p,vs',rfl,h1,h2⟩,q⟩⟩
  | scr zs=>
   cases hx
   obtain⟨p',vs',e',h1,h2⟩:=(show ∃p' vs',V.ref p= .ref p'/\FrL X.K H p' vs'/\Reps X.K H ys vs' from rv)
   cases e'
   exact⟨p,vs',rfl,.inl ⟨h1.sq,fun l hl=>⟨.tup ys,G,.upd (.none hl),hg.tupNew hl,Rep.tupNew h2 hl,q⟩⟩⟩
  | ref p'=>
   cases (show V.ref p= .ref p' from rv)
   obtain⟨vs',h1,h2⟩:=hg.lst (jYn hx)
   exact⟨p,vs',rfl,.inl ⟨.of h1,fun l hl=>⟨.tup ys,G,.upd (.none hl),hg.tupNew hl,Rep.tupNew h2 hl,q⟩⟩⟩
  | non=>cases hx
  | bl _=>cases hx
  | int _=>cases hx
  | str _=>cases hx
  | ty _=>cases hx
noncomputable def rCat:R3:=fun x y G Q=>∃p q xs ys,x= .ref p/\y= .ref q/\G p=some (.lst xs)/\G q=some (.lst ys)/\xs.length+ys.length<=sizeLine/\∀l,G l=none->Q (.ref l) (gup G l (.lst (xs++ys)))
noncomputable def rRep:R3:=fun x y G Q=>∃p xs n,x= .ref p/\y= .int n/\G p=some (.lst xs)/\n.toNat * xs.length<=sizeLine/\n<2^62/\ -(2^62)<n/\∀l,G l=none->Q (.ref l) (gup G l (.lst (List.replicate n.toNat xs).flatten))
def tyT (G:Gp) (T0:String) (x:T):Prop:=match x with
 | .str _=>T0="str"
 | .int _=>T0="int"
 | .ref p=>(T0="list"/\∃xs,G p=some (.lst xs))\/(T0="dict"/\((∃kvs,G p=some (.dck kvs))\/∃kvs,G p=some (.dct kvs)))
 | _=>False
theorem tyT.of {K:PySem.W.Frag} {H:Hp} {G:Gp} {T0:String} {x:T} {a:V} (hg:GRel K H G) (r:Rep K H x a) (h:tyT G T0 x):tyV K T0 a H:=by
 cases x with
 | str z=>cases (show a= .str z from r);exact h
 | int z=>cases (show a= .int z from r);exact h
 | ref p=>
  cases (show a= .ref p from r)
  rcases h with ⟨e,xs,h⟩ | ⟨e,h⟩
  ·obtain⟨vs,h1,_⟩:=hg.lst h;exact .inl ⟨e,vs,.of h1⟩
  ·refine .inr (.inr (.inl ⟨e,?_⟩))
   rcases h with ⟨kvs,h⟩ | ⟨kvs,h⟩
   ·obtain⟨ws,h1,_⟩:=hg p _ h;exact .inl ⟨ws,h1⟩
   ·obtain⟨ws,h1,_⟩:=hg p _ h;exact .inr ⟨ws,h1⟩
 | non=>exact False.elim h
 | bl _=>exact False.elim h
 | ty _=>exact False.elim h
 | tup _=>exact False.elim h
 | scr _=>exact False.elim h
noncomputable def tBM (T0:String) (r:T->List T->Gp->VK3->Prop) (to:TE3) (t:TA3):TE3:=fun τ G Q=>to τ G fun x G1=>tyT G1 T0 x/\t τ G1 fun xs G2=>r x xs G2 Q
theorem e_bm {T0 id:String} {r:T->List T->Gp->VK3->Prop} {o e:Expr} {name:Str} {apos cpos:Pos} {to:TE3} (pa:PlainAttrs T0) (slot:Slot T0 name id) (hty:typeOf (.builtin id)=pure (.type "method_descriptor")) (hm:Mt3 X id r) (ho:PE3 X o to) (ha:PA3 X (e::es) t)
  (hbase:attributeBase o name X.env (eval o X.env)=eval o X.env:=by rfl)
  (hfew:((backTo cpos (starEach (e::es) X.env)).all (fun x=> !x.1)&&(backToKw cpos (keywordEach [] X.env)).all (fun x=>x.1.isSome)
   &&decide ((e::es).length+([]:List Keyword).length+(if ([]:List Keyword).isEmpty then 0 else 1)<30))=true:=by rfl)
  (hline:(apos.endLine == cpos.line)=true:=by rfl) (hs:starEach (e::es) X.env=(false,eval e X.env)::starEach es X.env:=by rfl) (hplain:(backTo cpos (starEach es X.env)).any (·.1)=false:=by rfl):
  PE3 X (.Call (.Attribute o name apos) (e::es) [] cpos) (tBM T0 r to t):=by
 intro pins s τ G H Q I h
 refine wpAny_Call_method_late hbase hfew hline rfl (thn (ho pins s τ G H _ I h) fun v s1 w_=>w_.el fun x G1 H1 e1 I1 r1 ⟨ty,q1⟩=> ?_)
 obtain⟨σ,I0,hs0,hg0⟩:=_root_.id I1
 obtain⟨a0,ra0,rv0⟩:=_root_.id r1
 obtain⟨h1,h2⟩:=tyV_is I0 rv0 (tyT.of hg0 ra0 ty)
 refine⟨T0,id,pa,slot,hty,h1,h2,?_⟩
 have hA:=ha cpos pins s1 τ G1 H1 _ I1 q1
 rw[hs] at hA ⊢
 refine Calls.callWith_builtin (by show (false||(backTo cpos (starEach es X.env)).any (·.1))=false;rw[hplain]<;>rfl) (Calls.evalArgs_plain ?_)
 exact thn hA fun us s2 w_=>w_.el fun vs G2 H2 e2 I2 r2 q2=>thn (hm pins s2 τ G2 H2 x vs v us Q I2 (r1.mono e2) r2 q2) fun _ _ z=>(z.ext e2).ext e1
noncomputable def jKr:T->List T->Gp->VK3->Prop:=fun x xs G Q=>∃p ys y,x= .ref p/\xs=[y]/\G p=some (.lst ys)/\ys.length<sizeLine/\Q .non (gup G p (.lst (ys++[y])))
noncomputable def rSetL:T->T->T->Gp->(Gp->Prop)->Prop:=fun o i v G Q=>∃p xs k j,o= .ref p/\i= .int k/\G p=some (.lst xs)/\ixN xs.length k=some j/\Q (gup G p (.lst (xs.set j v)))
theorem s_list:Set3 X rSetL:=
 Set3.of set_list fun H G o i v a b c Q hg ra rb rc ⟨p,xs,k,j,eo,ei,hp,hj,q⟩=>by
  subst eo;subst ei
  cases (show a= .ref p from ra);cases (show b= .int k from rb)
  obtain⟨vs,h1,h2⟩:=hg.lst hp
  exact⟨p,vs,k,j,rfl,rfl,h1,by rw[<-h2.length];exact hj,_,.upd (.lst h1),hg.lstNew (h2.set rc j) (.lst h1),q⟩
end
section
variable {X:Cx}
theorem o_cat:Op3 X (binaryOp .Add) rCat:=
 Op3.of op_cat fun H G x y a b Q hg ra rb ⟨p,q,xs,ys,ex,ey,hp,hq,hz,h⟩=>by
  subst ex;subst ey
  cases (show a= .ref p from ra);cases (show b= .ref q from rb)
  obtain⟨vs,h1,h2⟩:=hg.lst hp
  obtain⟨ws,h3,h4⟩:=hg.lst hq
  exact⟨p,q,vs,ws,rfl,rfl,h1,h3,by rw[<-h2.length,<-h4.length];exact hz,fun l hl=>⟨.ref l,_,.upd (.none hl),hg.lstNew (h2.append h4) (.none hl),rfl,h l (hg.fresh hl)⟩⟩
theorem o_rep:Op3 X (binaryOp .Mult) rRep:=
 Op3.of op_rep fun H G x y a b Q hg ra rb ⟨p,xs,n,ex,ey,hp,hz,h1,h2,h⟩=>by
  subst ex;subst ey
  cases (show a= .ref p from ra);cases (show b= .int n from rb)
  obtain⟨vs,h3,h4⟩:=hg.lst hp
  refine⟨p,n,vs,rfl,rfl,h3,by omega,by omega,by rw[<-h4.length,Nat.mul_comm];exact hz,fun l hl=>⟨.ref l,_,.upd (.none hl),hg.lstNew (h4.rep _) (.none hl),rfl,h l (hg.fresh hl)⟩⟩
theorem jK4:Mt3 X "list.append" jKr:=
 Mt3.of mt_append fun H G x xs a as Q hg ra ras ⟨p,ys,y,ex,exs,hp,hz,q⟩=>by
  subst ex;subst exs
  cases (show a= .ref p from ra)
  obtain⟨v,rfl,rv⟩:=jYs ras
  obtain⟨vs,h1,h2⟩:=hg.lst hp
  exact⟨p,vs,v,rfl,rfl,h1,by rw[<-h2.length];exact hz,.non,_,.upd (.lst h1),hg.lstNew (h2.append (.one rv)) (.lst h1),rfl,q⟩
end
noncomputable def jK5:TS3:=fun D τ G=>D.nx τ G
noncomputable def tSeq (t u:TS3):TS3:=fun D τ G=>t {D with nx:=u D} τ G
noncomputable def jUk (te:TE3):TS3:=fun D τ G=>te τ G fun _ G1=>D.nx τ G1
noncomputable def tRet (te:TE3):TS3:=fun D τ G=>te τ G D.rt
noncomputable def tRetN:TS3:=fun D _ G=>D.rt .non G
noncomputable def tIfS (c:TT3) (t u:TS3):TS3:=fun D τ G=>c τ G fun b G1=>if b=true then t D τ G1 else u D τ G1
section
variable {X:Cx} {st:Stmt} {rest:List Stmt} {t u:TS3} {e:Expr} {te:TE3} {pos:Pos}
theorem jKx:PSs3 X [] jK5:=fun _ _ τ G H _ I h=>wpAny_execs_nil ⟨τ,G,H,.refl H,I,h⟩
theorem jJf (h1:PS3 X st t) (h2:PSs3 X rest u):PSs3 X (st::rest) (tSeq t u):=by
 intro pins s τ G H D I h
 refine wpAny_execs_cons (thn (h1 pins s τ G H {D with nx:=u D} I h) fun f s1 q=> ?_)
 cases f with
 | next=>
  obtain⟨τ',G',H',e',I',q⟩:=q
  exact thn (h2 pins s1 τ' G' H' D I' q) fun _ _ z=>z.ext e'
 | ret v=>exact q
 | brk=>exact q
 | cont=>exact q
theorem jJn (h1:PS3 X st t):PSs3 X [st] t:=by
 intro pins s τ G H D I h
 refine wpAny_execs_cons (thn (h1 pins s τ G H D I h) fun f s1 q=> ?_)
 cases f with
 | next=>exact wpAny_execs_nil q
 | ret v=>exact q
 | brk=>exact q
 | cont=>exact q
theorem jUi (he:PE3 X e te) (hs:swapsWith e none pos.line X.env=pure false:=by rfl):PS3 X (.Expr e pos) (jUk te):=by
 intro pins s τ G H D I h
 obtain⟨σ,I0,hs0,hg0⟩:=id I
 exact wpAny_Expr_any (thn (he pins s τ G H _ I h) fun v s1 w_=>w_.el fun x G1 H1 e1 I1 r1 q1=>⟨τ,G1,H1,e1,I1,q1⟩) I0.quiet hs
theorem jKi (he:PE3 X e te):PS3 X (.Return (some e) pos) (tRet te):=by
 intro pins s τ G H D I h
 exact wpAny_Return_some (thn (he pins s τ G H _ I h) fun v s1 w_=>w_.el fun x G1 H1 e1 I1 r1 q1=>⟨x,τ,G1,H1,e1,I1,r1,q1⟩)
theorem s_if {c:Expr} {a b:List Stmt} {tc:TT3} (hc:PT3 X c tc) (ha:PSs3 X a t) (hb:PSs3 X b u):PS3 X (.If c a b pos) (tIfS tc t u):=by
 intro pins s τ G H D I h
 refine wpAny_If (thn (hc pins s τ G H _ I h) fun d s1 w_=>w_.el fun G1 H1 e1 I1 q1=> ?_)
 cases d with
 | true=>exact thn (ha pins s1 τ G1 H1 D I1 q1) fun _ _ z=>z.ext e1
 | false=>exact thn (hb pins s1 τ G1 H1 D I1 q1) fun _ _ z=>z.ext e1
end
noncomputable abbrev TG3:=T->St3->Gp->(St3->Gp->Prop)->Prop
noncomputable abbrev TGs3:=List T->St3->Gp->(St3->Gp->Prop)->Prop
def GP3 (X:Cx) (pins:List (Addr×Obj)) (H:Hp) (Q:St3->Gp->Prop) (s':Shared):Prop:=∃ τ' G' H',Ext H H'/\Inv3 X pins τ' G' H' s'/\Q τ' G'
def PG3 (X:Cx) (target:Expr) (t:TG3):Prop:=
 ∀(pins:List (Addr×Obj)) (s:Shared) (τ:St3) (G:Gp) (H:Hp) (v:T) (u:Value) (Q:St3->Gp->Prop),Inv3 X pins τ G H s->RU X.K H v u->t v τ G Q->
  wpAny (model X.prog X.w) X.A (assign target X.env u) (fun _ s'=>GP3 X pins H Q s') X.xe s
def PGs3 (X:Cx) (ts:List Expr) (t:TGs3):Prop:=
 ∀(pins:List (Addr×Obj)) (s:Shared) (τ:St3) (G:Gp) (H:Hp) (vs:List T) (us:List Value) (Q:St3->Gp->Prop),Inv3 X pins τ G H s->RUs X.K H vs us->t vs τ G Q->
  wpAny (model X.prog X.w) X.A (assignInOrder ((assignEach ts X.env).map (·.2)) us) (fun _ s'=>GP3 X pins H Q s') X.xe s
noncomputable def jJj (i:Nat):TG3:=fun v τ G Q=>Q (τ.set i (some v)) G
noncomputable def gNil:TGs3:=fun vs τ G Q=>vs=[]/\Q τ G
noncomputable def jKb (t:TG3) (u:TGs3):TGs3:=fun vs τ G Q=>∃v r,vs=v::r/\t v τ G fun τ' G'=>u r τ' G' Q
noncomputable def gTup (n:Nat) (t:TGs3):TG3:=fun v τ G Q=>∃xs,v= .tup xs/\xs.length=n/\t xs τ G Q
noncomputable def gSub (to ti:TE3) (t:T->T->T->Gp->(Gp->Prop)->Prop):TG3:=fun v τ G Q=>to τ G fun o G1=>ti τ G1 fun i G2=>t o i v G2 fun G3=>Q τ G3
noncomputable def tAsg (te:TE3) (g:TG3):TS3:=fun D τ G=>te τ G fun x G1=>g x τ G1 D.nx
section
variable {X:Cx} {pos:Pos}
theorem jJq {i:Nat} {x:Str} (hN:X.N.Nodup) (hi:X.N[i]? =some x:=by rfl) (hx:Loc X.env.scope x:=by first | exact Or.inl rfl | exact Or.inr rfl) (hf:X.fn x=true\/X.env.scope.names.lookup x=some .local:=by first | exact .inl rfl | exact .inr rfl):PG3 X (.Name x pos) (jJj i):=by
 rintro pins s τ G H v u Q ⟨σ,I,hs,hg⟩ ⟨a,ra,rv⟩ h
 exact wpAny_assign_Name (jVl I hN hi hx rv (fun s' I'=>⟨_,G,H,.refl H,⟨_,I',hs.set i ra,hg⟩,h⟩) hf)
theorem jQv:PGs3 X [] gNil:=by
 rintro pins s τ G H vs us Q I ⟨as,r,rv⟩ ⟨e,h⟩
 subst e
 cases (show as=[] from r)
 cases rv
 exact assignInOrder_nil ⟨τ,G,H,.refl H,I,h⟩
theorem jJv {e:Expr} {es:List Expr} {t:TG3} {u:TGs3} (h1:PG3 X e t) (h2:PGs3 X es u)
  (hs:(assignEach (e::es) X.env).map (·.2)=assign e X.env::(assignEach es X.env).map (·.2):=by rfl):PGs3 X (e::es) (jKb t u):=by
 rintro pins s τ G H vs us Q I ⟨as,r,rv⟩ ⟨v,vr,e1,h⟩
 subst e1
 obtain⟨a,ar,rfl,ra,rar⟩:=r
 cases rv with
 | cons q qq=>
  rw[hs]
  refine assignInOrder_cons (thn (h1 pins s τ G H v _ _ I ⟨a,ra,q⟩ h) fun _ s1 ⟨τ1,G1,H1,e1,I1,q1⟩=> ?_)
  exact thn (h2 pins s1 τ1 G1 H1 vr _ Q I1 ⟨ar,Reps.mono e1 _ rar,qq⟩ q1) fun _ s2 ⟨τ2,G2,H2,e2,z⟩=>⟨τ2,G2,H2,e1.trans e2,z⟩
theorem jVj {es:List Expr} {k:Nat} {t:TGs3} {n:Nat} (hc:X.calm=true) (h:PGs3 X es t)
  (hn:(assignEach es X.env).length=n:=by rfl) (hst:(assignEach es X.env).findIdx? (·.1)=none:=by rfl):PG3 X (.Tuple es k pos) (gTup n t):=by
 rintro pins s τ G H v u Q ⟨σ,I,hs,hg⟩ ⟨a,ra,rv⟩ ⟨xs,ev,hl,hw⟩
 subst ev
 obtain⟨p,vs,e1,h1,r1⟩:=(show ∃p vs,a= .ref p/\H p=some (.tup vs)/\Reps X.K H xs vs from ra)
 subst e1
 cases rv
 obtain⟨its,rv,ht,hz⟩:=I.tuple (.of h1)
 refine assign_Tuple_tuple (I.ok.hd hc) ht (by simp[hn,<-hl,r1.length,rv.length]) hst fun h' hx=> ?_
 have I1:Inv X pins σ H {s with heap:=h'}:=I.kept (t':=s.toks) fun b o e=>hx b o (lJj (Heap.lt_size e)) e
 exact h pins _ τ G H xs _ Q ⟨σ,I1,hs,hg⟩ ⟨vs,r1,by simpa using rv⟩ hw
theorem jZ6 {o i:Expr} {to ti:TE3} {t:T->T->T->Gp->(Gp->Prop)->Prop} (ho:PE3 X o to) (hi:PE3 X i ti) (hs:Set3 X t)
  (ha:∀v,assign (.Subscript o i pos) X.env v=(do
   let ov <-holding [v] (eval o X.env)
   let iv <-holding [v,ov] (eval i X.env)
   standAt pos
   holding [v,ov,iv] (setItem ov iv v)
   release [v,ov,iv] []):=by intro _;rfl):PG3 X (.Subscript o i pos) (gSub to ti t):=by
 intro pins s τ G H v u Q I r h
 rw[ha]
 refine wpAny_bind (wpAny_holding (thn (ho pins s τ G H _ I h) fun ov s1 w_=>w_.el fun x G1 H1 e1 I1 r1 q1=> ?_))
 refine wpAny_bind (wpAny_holding (thn (hi pins s1 τ G1 H1 _ I1 q1) fun iv s2 w_=>w_.el fun y G2 H2 e2 I2 r2 q2=> ?_))
 refine wpAny_bind (wpAny_standAt (wpAny_bind (wpAny_holding (thn (hs pins s2 τ G2 H2 x y v ov iv u _ I2 (r1.mono e2) r2 (r.mono (e1.trans e2)) q2) fun _ s3 ⟨G3,H3,e3,I3,q3⟩=> ?_))))
 exact wpAny_release ⟨τ,G3,H3,(e1.trans e2).trans e3,I3,q3⟩
theorem jXv {tg e:Expr} {te:TE3} {g:TG3} (he:PE3 X e te) (hg:PG3 X tg g) (hs:swapsWithSole [tg] e pos.line X.env=pure false:=by rfl) (hw:swappedStores [tg] e X.env=pure none:=by rfl)
  (h1:(assignEach [tg] X.env).map (·.2)=[assign tg X.env]:=by rfl):PS3 X (.Assign [tg] e pos) (tAsg te g):=by
 intro pins s τ G H D I h
 refine wpAny_Assign_stores (thn (he pins s τ G H _ I h) fun v s1 w_=>w_.el fun x G1 H1 e1 I1 r1 q1=> ?_) hs hw
 rw[h1]
 exact thn (hg pins s1 τ G1 H1 x v _ I1 r1 q1) fun _ s2 ⟨τ2,G2,H2,e2,q⟩=>⟨τ2,G2,H2,e1.trans e2,q⟩
theorem jJ1 {i:Nat} {x:Str} {e:Expr} {te:TE3} {pos':Pos} (hN:X.N.Nodup) (he:PE3 X e te) (hi:X.N[i]? =some x:=by rfl) (hx:Loc X.env.scope x:=by first | exact Or.inl rfl | exact Or.inr rfl)
  (hs:swapsWith e (some (.Name x pos')) pos.line X.env=pure false:=by rfl) (hf:X.fn x=true\/X.env.scope.names.lookup x=some .local:=by first | exact .inl rfl | exact .inr rfl):
  PS3 X (.Assign [.Name x pos'] e pos) (tAsg te (jJj i)):=by
 intro pins s τ G H D I h
 refine wpAny_Assign_Name (thn (he pins s τ G H _ I h) fun v s1 w_=>w_.el fun y G1 H1 e1 i_ r_ q1=>i_.el fun σ I1 hs1 hg1=>r_.el fun a ra rv=> ?_) hs
 exact jVl I1 hN hi hx rv (fun s2 I2=>⟨_,G1,H1,e1,⟨_,I2,hs1.set i ra,hg1⟩,q1⟩) hf
noncomputable def tPar (i j:Nat) (ta:TA3):TS3:=fun D τ G=>ta τ G fun vs G1=>∃v w,vs=[v,w]/\D.nx ((τ.set i (some v)).set j (some w)) G1
theorem s_par {i j:Nat} {x y:Str} {a b:Expr} {ta:TA3} {px py pt:Pos} {kt k2 pt2} (hc:X.calm=true) (hN:X.N.Nodup) (hij:i≠j) (ha:PA3 X [a,b] ta) (hi:X.N[i]? =some x:=by rfl) (hj:X.N[j]? =some y:=by rfl)
  (hx:X.env.scope.names.lookup x=some .local:=by rfl) (hy:X.env.scope.names.lookup y=some .local:=by rfl)
  (hw:swappedStores [.Tuple [.Name x px,.Name y py] kt pt] (.Tuple [a,b] k2 pt2) X.env=pure (some [x,y]):=by rfl)
  (hs:swapsWithSole [.Tuple [.Name x px,.Name y py] kt pt] (.Tuple [a,b] k2 pt2) pos.line X.env=pure false:=by rfl):
  PS3 X (.Assign [.Tuple [.Name x px,.Name y py] kt pt] (.Tuple [a,b] k2 pt2) pos) (tPar i j ta):=by
 intro pins s τ G H D I h
 rw[exec_Assign_arm]
 refine wpAny_bind (wpAny_standAt ?_)
 rw[hs]
 refine wpAny_bind (wpAny_pure ?_)
 rw[if_neg (by decide)]
 refine wpAny_bind (Tuple_ (thn (ha _ pins s τ G H _ I h) fun us s1 w_=>w_.el fun vs G1 H1 e1 i_ r_ q1=>i_.el fun σ I1 hs1 hg1=>r_.el fun as ras rvs=> ?_))
 obtain⟨v,w,ev,q1⟩:=q1
 subst ev
 obtain⟨a1,a2,rfl,ra1,ra2⟩:=kK9 ras
 obtain⟨u1,u2,rfl,rv,rw'⟩:=rvs.two
 refine wpAny_newObj_type ?_ (by show 2<=sizeLine;decide)
 have I2:Inv X pins σ H1 {s1 with heap:=s1.heap.push {cls:= .type "tuple",data:= .seq [u1,u2].toArray} }:=I1.kept (t':=s1.toks) fun b o e=>Heap.get?_push_of_some _ e
 rw[hw]
 refine wpAny_bind (wpAny_pure ?_)
 show wpAny (model X.prog X.w) X.A (do rule "assign.swapped-stores"; let items <-unpackItems (.ref s1.heap.objs.size) 2 none;assignInOrder [fun v=>bindName X.env y v,fun v=>bindName X.env x v] items.reverse;pure Flow.next) _ _ _
 refine wpAny_bind (wpAny_rule (wpAny_bind (unpackItems_tuple (items:= #[u1,u2]) (I1.ok.hd hc) (IsTup.new s1.heap _) fun h' hx'=> ?_)))
 have I3:=I2.kept (h':=h') (t':=s1.toks) fun b o e=>hx' b o (lJj (Heap.lt_size e)) e
 show wpAny _ _ (assignInOrder [fun v=>bindName X.env y v,fun v=>bindName X.env x v] [u2,u1] >>= fun _=>pure Flow.next) _ _ _
 refine wpAny_bind (assignInOrder_cons (wpAny_bindName (jVl I3 hN hj (.inl hy) rw' (fun s2 I4=> ?_) (.inr hy))))
 refine assignInOrder_cons (wpAny_bindName (jVl I4 hN hi (.inl hx) rv (fun s3 I5=>assignInOrder_nil (wpAny_pure ?_)) (.inr hx)))
 rw[List.set_comm _ _ (Ne.symm hij)] at I5
 exact⟨_,G1,H1,e1,⟨_,I5,(hs1.set i ra1).set j ra2,hg1⟩,q1⟩
noncomputable def kQu (c:TT3) (tb:TS3):TS3:=fun D τ G=>∃W:Nat->St3->Gp->Prop,(∃m,W m τ G)/\∀m τ G,W m τ G->
 c τ G fun b G1=>if b=true then ∃N:St3->Gp->Prop,(∀ τ' G',N τ' G'->∃m',m'<m/\W m' τ' G')/\tb {D with nx:=N,ct:=N,bk:=D.nx} τ G1 else D.nx τ G1
theorem s_while {c:Expr} {body:List Stmt} {tc:TT3} {tb:TS3} (hp:PassesOwn (model X.prog X.w) X.A X.env X.xe) (hc:PT3 X c tc) (hb:PSs3 X body tb):PS3 X (.While c body [] pos) (kQu tc tb):=by
 intro pins s τ G H D I h
 obtain⟨W,⟨m0,w0⟩,turn⟩:=h
 refine wpAny_While (codeAny_whileLoop (fun n s'=>∃ τ' G' H',Ext H H'/\Inv3 X pins τ' G' H' s'/\W n τ' G') ?_ m0 ⟨τ,G,H,.refl H,I,w0⟩)
 rintro n s1 ⟨τ1,G1,H1,e1,I1,w1⟩
 refine wpAny_passesOwn hp (thn (hc pins s1 τ1 G1 H1 _ I1 (turn n τ1 G1 w1)) fun b s2 w_=>w_.el fun G2 H2 e2 I2 q2=> ?_)
 cases b with
 | true=>
  obtain⟨N,hN,q2⟩:=q2
  rw[if_pos rfl]
  refine wpAny_passesOwn hp (thn (hb pins s2 τ1 G2 H2 _ I2 q2) fun f s3 q3=> ?_)
  cases f with
  | next=>
   obtain⟨τ3,G3,H3,e3,I3,n3⟩:=q3
   obtain⟨m',hm,w3⟩:=hN τ3 G3 n3
   exact⟨m',hm,τ3,G3,H3,(e1.trans e2).trans e3,I3,w3⟩
  | cont=>
   obtain⟨τ3,G3,H3,e3,I3,n3⟩:=q3
   obtain⟨m',hm,w3⟩:=hN τ3 G3 n3
   exact⟨m',hm,τ3,G3,H3,(e1.trans e2).trans e3,I3,w3⟩
  | brk=>exact SP3.ext (f:= .next) (e1.trans e2) q3
  | ret v=>exact SP3.ext (f:= .ret v) (e1.trans e2) q3
 | false=>
  rw[if_neg lJe]
  exact wpAny_execs_nil ⟨τ1,G2,H2,e1.trans e2,I2,q2⟩
end
def Items (K:PySem.W.Frag) (H0:Hp) (J:It) (xs:List T) (stay:Gp->Prop):Prop:=
 ∀i H G,Ext H0 H->GRel K H G->stay G->(i<xs.length->J.go i H)/\(xs.length<=i->J.stop i H)/\(i<xs.length->∀x H',J.yld i H x H'->Ext H H'/\GRel K H' G/\∃t,xs[i]? =some t/\Rep K H' t x)
noncomputable abbrev TI3:=St3->Gp->(List T->(Gp->Prop)->Gp->Prop)->Prop
def PIE3 (X:Cx) (pins:List (Addr×Obj)) (τ:St3) (H:Hp) (tg:Expr) (R:List T->(Gp->Prop)->Gp->Prop) (itv:Value) (s2:Shared):Prop:=
 ∃(it:Addr) (fp:List Addr) (tn:Nat->Heap->Prop) (J:It) (xs:List T) (stay:Gp->Prop) (G':Gp) (H':Hp),itv= .ref it/\Ext H H'/\Inv3 X pins τ G' H' s2/\Turn X.prog X.w X.K tg J fp it tn/\tn 0 s2.heap/\(∀b∈fp,FpOk X pins H' b)/\
  Items X.K H' J xs stay/\R xs stay G'
def PI3 (X:Cx) (tg iter:Expr) (wi:TI3):Prop:=
 ∀(pins:List (Addr×Obj)) (s:Shared) (τ:St3) (G:Gp) (H:Hp) (R:List T->(Gp->Prop)->Gp->Prop),Inv3 X pins τ G H s->wi τ G R->
  wpAny (model X.prog X.w) X.A (eval iter X.env) (fun v s1=>wpAny (model X.prog X.w) X.A (pyIter v) (PIE3 X pins τ H tg R) X.xe s1) X.xe s
noncomputable def tFor (wi:TI3) (g:TG3) (tb:TS3):TS3:=fun D τ G=>wi τ G fun xs stay G1=>∃P:Nat->St3->Gp->Prop,P 0 τ G1/\(∀i τ G,i<=xs.length->P i τ G->stay G)/\
 (∀i x τ G,xs[i]? =some x->P i τ G->g x τ G fun τ2 G2=>tb {D with nx:=P (i+1),ct:=P (i+1),bk:=D.nx} τ2 G2)/\∀ τ G,P xs.length τ G->D.nx τ G
section
variable {X:Cx} {tg:Expr} {pos:Pos}
theorem jQ2 {iter:Expr} {body:List Stmt} {wi:TI3} {g:TG3} {tb:TS3} (hp:PassesOwn (model X.prog X.w) X.A X.env X.xe) (hc:X.calm=true) (hi:PI3 X tg iter wi) (hg:PG3 X tg g) (hb:PSs3 X body tb)
  (hs:∀x,foldedSetIterable iter X.env x=pure x:=by intro _;rfl):PS3 X (.For tg iter body [] pos) (tFor wi g tb):=by
 intro pins s τ G H D I h
 refine wpAny_For (thn (hi pins s τ G H _ I h) fun v s1 h1=>thn h1 fun itv s2 h2=> ?_) hs
 obtain⟨it,fp,tn,J,xs,stay,G2,H2,e,eH,I2,T0,st2,f2,IT,P,p0,hstay,turn,fin⟩:=h2
 subst e
 have stat:∀ {H':Hp},(∀b∈fp,H' b=none)->∀b∈fp,FpOk X pins H' b:=fun hn b hb=>⟨hn b hb,(f2 b hb).2⟩
 refine codeAny_forLoop_any (fun n s'=>∃i τ' G' H',n=xs.length-i/\i<=xs.length/\Ext H2 H'/\Inv3 X pins τ' G' H' s'/\tn i s'.heap/\(∀b∈fp,H' b=none)/\P i τ' G') ?_ xs.length ⟨0,τ,G2,H2,rfl,lJn _,.refl _,I2,st2,fun b hb=>(f2 b hb).1,p0⟩
 rintro n s3 ⟨i,τ3,G3,H3,en,hi3,e3,⟨σ3,I3,hs3,hg3⟩,st3,fr3,p3⟩
 obtain⟨go,stop,yl⟩:=IT i H3 G3 e3 hg3 (hstay i τ3 G3 hi3 p3)
 by_cases hlt:i<xs.length
 ·refine wpAny_passesOwn hp (thn (T0.item X rfl rfl rfl hc i pins s3 σ3 H3 X.xe I3 (stat fr3) st3 (go hlt)) fun r s4 ⟨u,hr,h4⟩=> ?_)
  subst hr
  refine wpAny_passesOwn hp (thn h4 fun _ s5 ⟨x,H5,I5,r5,y5,st5,fr5⟩=> ?_)
  obtain⟨e5,g5,t,ht,rt⟩:=yl hlt x H5 y5
  have I5':=I5.pinned (stat fr5) (T0.obj _ _ st5)
  refine wpAny_passesOwn hp (thn (hg _ s5 τ3 G3 H5 t u _ ⟨σ3,I5',hs3.mono e5,g5⟩ ⟨x,rt,r5⟩ (turn i t τ3 G3 ht p3)) fun _ s6 ⟨τ6,G6,H6,e6,I6,q6⟩=> ?_)
  refine wpAny_passesOwn hp (thn (hb _ s6 τ6 G6 H6 _ I6 q6) fun f s7 q7=> ?_)
  have e36:Ext H2 H6:=(e3.trans e5).trans e6
  have again:∀ {τ7:St3} {G7:Gp} {H7:Hp},Ext H6 H7->Inv3 X (pins++jYq fp s5.heap) τ7 G7 H7 s7->P (i+1) τ7 G7->
    ∃m,m<n/\∃i τ' G' H',m=xs.length-i/\i<=xs.length/\Ext H2 H'/\Inv3 X pins τ' G' H' s7/\tn i s7.heap/\(∀b∈fp,H' b=none)/\P i τ' G':=fun {τ7 G7 H7} e7 ⟨σ7,I7,hs7,hg7⟩ p7=>by
   refine⟨xs.length-(i+1),by omega,i+1,τ7,G7,H7,rfl,hlt,e36.trans e7,⟨σ7,I7.unpinned,hs7,hg7⟩,T0.keep _ _ _ st5 fun b hb o e=>(I7.pin (b,o) (lJ2 _ (lJ2 _ (jYh hb e)))).1,fun b hb=> ?_,p7⟩
   obtain⟨o,e,d⟩:=T0.obj _ _ st5 b hb
   exact (I7.pin (b,o) (lJ2 _ (lJ2 _ (jYh hb e)))).2.1
  have un:∀ {τ7:St3} {G7:Gp} {H7:Hp},Inv3 X (pins++jYq fp s5.heap) τ7 G7 H7 s7->Inv3 X pins τ7 G7 H7 s7:=fun ⟨σ7,I7,a,b⟩=>⟨σ7,I7.unpinned,a,b⟩
  cases f with
  | next=>obtain⟨τ7,G7,H7,e7,I7,n7⟩:=q7;exact again e7 I7 n7
  | cont=>obtain⟨τ7,G7,H7,e7,I7,n7⟩:=q7;exact again e7 I7 n7
  | brk=>obtain⟨τ7,G7,H7,e7,I7,q7⟩:=q7;exact⟨τ7,G7,H7,(eH.trans e36).trans e7,un I7,q7⟩
  | ret v=>obtain⟨x7,τ7,G7,H7,e7,I7,r7,q7⟩:=q7;exact⟨x7,τ7,G7,H7,(eH.trans e36).trans e7,un I7,r7,q7⟩
 ·have ei:i=xs.length:=by omega
  refine wpAny_passesOwn hp (thn (T0.done X rfl rfl rfl hc i pins s3 σ3 H3 X.xe I3 (stat fr3) st3 (stop (by omega))) fun r s4 ⟨hr,I4⟩=> ?_)
  subst hr;subst ei
  exact wpAny_execs_nil ⟨τ3,G3,H3,eH.trans e3,⟨σ3,I4,hs3,hg3⟩,fin τ3 G3 p3⟩
noncomputable def iSeq (tl:TE3):TI3:=fun τ G R=>tl τ G fun x G1=>∃xs,seqT G1 x=some xs/\R xs (fun G'=>seqT G' x=some xs) G1
theorem jUw {l:Expr} {tl:TE3} (hl:PE3 X l tl):PI3 X tg l (iSeq tl):=by
 intro pins s τ G H R I h
 refine thn (hl pins s τ G H _ I h) fun v s1 w_=>w_.el fun x G1 H1 e1 i_ r_ ⟨xs,hx,q⟩=>i_.el fun σ I1 hs1 hg1=>r_.el fun a ra rv=> ?_
 obtain⟨p,vs,e,hq,r⟩:=jVz hg1 ra hx
 subst e
 cases rv
 have fpk:∀b∈[s1.heap.objs.size],FpOk X pins H1 b:=fun b hb=>by
  have e:b=s1.heap.objs.size:=by simpa using hb
  subst e
  exact I1.fpOk (lJd _) (I1.hok.fresh (lJd _))
 rcases hq with hq | hq
 ·obtain⟨its,rv,pl,hz⟩:=I1.list hq
  refine wpAny_pyIter_list pl.isList ?_
  refine⟨s1.heap.objs.size,[s1.heap.objs.size],_,_,xs,fun G'=>seqT G' x=some xs,G1,H1,rfl,e1,⟨σ,I1.kept (t':=s1.toks) fun b o e=>Heap.get?_push_of_some _ e,hs1,hg1⟩,turn_list p _,⟨_,Heap.get?_push_size _ rfl,rfl,rfl⟩,fpk,?_,q⟩
  intro i H2 G2 e2 g2 st
  have ra2:=Rep.mono e2 _ ra
  have now:∃ws,SqL X.K H2 p ws/\Reps X.K H2 xs ws:=by
   cases x with
   | scr ys=>cases hx;obtain⟨p',ws,ep,h1,h2⟩:=(show ∃p' ws,V.ref p= .ref p'/\FrL X.K H2 p' ws/\Reps X.K H2 xs ws from ra2);cases ep;exact⟨ws,h1.sq,h2⟩
   | ref p'=>cases (show V.ref p= .ref p' from ra);obtain⟨ws,h1,h2⟩:=g2.lst (jYn st);exact⟨ws,.of h1,h2⟩
   | tup ys=>
    obtain⟨p',ws,ep,h1,h2⟩:=(show ∃p' ws,V.ref p= .ref p'/\H1 p'=some (.tup ws)/\Reps X.K H1 ys ws from ra)
    cases ep
    exfalso
    obtain⟨its',_,pl',_⟩:=I1.tuple (.of h1)
    obtain⟨o,n,ho,hc,_⟩:=pl
    obtain⟨o',ho',hc',_⟩:=pl'
    rw[ho] at ho';cases ho'
    rw[hc] at hc';exact absurd hc' (by decide)
   | non=>cases hx
   | bl _=>cases hx
   | int _=>cases hx
   | str _=>cases hx
   | ty _=>cases hx
  obtain⟨ws,h1,h2⟩:=now
  have hlen:=h2.length
  refine⟨fun hi=> ?_,fun hi=>⟨ws,h1,by omega⟩,fun _ y H' ⟨eH,hy⟩=> ?_⟩
  ·exact⟨ws,ws[i]'(by omega),h1,by simp[hlen▸hi]⟩
  ·subst eH
   obtain⟨t,ht,rt⟩:=h2.get' (hy ws h1)
   exact⟨.refl _,g2,t,ht,rt⟩
 ·obtain⟨its,rv,pl,hz⟩:=I1.tuple hq
  refine wpAny_pyIter_tuple (show s1.heap.IsTuple p its.toArray from pl) ?_
  refine⟨s1.heap.objs.size,[s1.heap.objs.size],_,_,xs,fun G'=>seqT G' x=some xs,G1,H1,rfl,e1,⟨σ,I1.kept (t':=s1.toks) fun b o e=>Heap.get?_push_of_some _ e,hs1,hg1⟩,turn_tuple p _,⟨_,Heap.get?_push_size _ rfl,rfl,rfl⟩,fpk,?_,q⟩
  intro i H2 G2 e2 g2 st
  have ra2:=Rep.mono e2 _ ra
  have now:∃ws,H2 p=some (.tup ws)/\Reps X.K H2 xs ws:=by
   cases x with
   | tup ys=>cases hx;obtain⟨p',ws,ep,h1,h2⟩:=(show ∃p' ws,V.ref p= .ref p'/\H2 p'=some (.tup ws)/\Reps X.K H2 xs ws from ra2);cases ep;exact⟨ws,h1,h2⟩
   | scr ys=>
    obtain⟨p',ws,ep,h1,h2⟩:=(show ∃p' ws,V.ref p= .ref p'/\FrL X.K H1 p' ws/\Reps X.K H1 ys ws from ra)
    cases ep
    exfalso
    obtain⟨its',_,pl',_⟩:=I1.list h1.sq
    obtain⟨o,n,ho,hc,_⟩:=pl'
    obtain⟨o',ho',hc',_⟩:=pl
    rw[ho] at ho';cases ho'
    rw[hc] at hc';exact absurd hc' (by decide)
   | ref p'=>
    cases (show V.ref p= .ref p' from ra)
    obtain⟨ws,h1,h2⟩:=hg1.lst (jYn hx)
    exfalso
    obtain⟨its',_,pl',_⟩:=I1.list (.of h1)
    obtain⟨o,n,ho,hc,_⟩:=pl'
    obtain⟨o',ho',hc',_⟩:=pl
    rw[ho] at ho';cases ho'
    rw[hc] at hc';exact absurd hc' (by decide)
   | non=>cases hx
   | bl _=>cases hx
   | int _=>cases hx
   | str _=>cases hx
   | ty _=>cases hx
  obtain⟨ws,h1,h2⟩:=now
  have hlen:=h2.length
  refine⟨fun hi=> ?_,fun hi=>⟨ws,.of h1,by omega⟩,fun _ y H' ⟨eH,hy⟩=> ?_⟩
  ·exact⟨ws,ws[i]'(by omega),.of h1,by simp[hlen▸hi]⟩
  ·subst eH
   obtain⟨t,ht,rt⟩:=h2.get' (hy ws (.of h1))
   exact⟨.refl _,g2,t,ht,rt⟩
noncomputable def rngT (lo:Int) (n:Nat):List T:=(List.range n).map fun (k:Nat)=>T.int (lo+k)
noncomputable def jKv (ta:TA3):TI3:=fun τ G R=>ta τ G fun vs G1=>∃j:Int,vs=[.int j]/\ -(2^62)<=j/\j<2^62/\R (rngT 0 j.toNat) (fun _=>True) G1
noncomputable def iRng2 (ta:TA3):TI3:=fun τ G R=>ta τ G fun vs G1=>∃i j:Int,vs=[.int i,.int j]/\(-(2^62)<=i/\i<2^62/\ -(2^62)<=j/\j<2^62)/\R (rngT i (j-i).toNat) (fun _=>True) G1
theorem items_rng {K:PySem.W.Frag} {H:Hp} (lo:Int) (n:Nat):Items K H (Itr lo n) (rngT lo n) fun _=>True:=by
 intro i H' G e g _
 have hl:(rngT lo n).length=n:=by simp[rngT]
 refine⟨fun h=>by rw[hl] at h;exact h,fun h=>by rw[hl] at h;exact h,fun hi x H2 ⟨eH,ex⟩=> ?_⟩
 rw[hl] at hi
 subst eH;subst ex
 exact⟨.refl _,g,.int (lo+i),by simp[rngT,hi],rfl⟩
theorem jKn {a:Expr} {ta:TA3} {p:Pos} (hg:Gl X "range") (hm:X.mg "range"=none) (ha:PA3 X [a] ta) (hs:starEach [a] X.env=[(false,eval a X.env)]:=by rfl):PI3 X tg (.Call (.Name "range" p) [a] [] pos) (jKv ta):=by
 intro pins s τ G H R I h
 obtain⟨σ,I0,hs0,hg0⟩:=id I
 refine Call_ (jXr I0 hg hm boot_range (PyProof.Rows.callWith_type1 (thn (ha pos pins s τ G H _ I h) fun us s1 w_=>w_.el fun xs G1 H1 e1 i_ r_ q1=>i_.el fun σ I1 hs1 hg1=>r_.el fun as ras rvs=> ?_) hs rfl))
 obtain⟨j,e,q1,q2,q⟩:=q1
 subst e
 obtain⟨v,rfl,rv⟩:=jYs ras
 cases (show v= .int j from rv)
 obtain⟨u,rfl,ru⟩:=rvs.one
 obtain⟨t,rfl⟩:=ru
 refine call_range_1 (thn (range_it (tg:=tg) (R:=fun J H'=>J=Itr 0 j.toNat/\H'=H1) I1 (by omega) (by omega) q1 q2 ⟨by simp,rfl⟩) fun itv s2 z=> ?_)
 obtain⟨it,fp,tn,J,H',ei,I2,T0,st,fk,eJ,eH⟩:=z
 subst eJ;subst eH
 exact⟨it,fp,tn,_,rngT 0 j.toNat,fun _=>True,G1,H',ei,e1,⟨σ,I2,hs1,hg1⟩,T0,st,fk,items_rng 0 j.toNat,q⟩
theorem i_range2 {a b:Expr} {ta:TA3} {p:Pos} (hg:Gl X "range") (hm:X.mg "range"=none) (ha:PA3 X [a,b] ta) (hs:starEach [a,b] X.env=[(false,eval a X.env),(false,eval b X.env)]:=by rfl) (hs2:starEach [b] X.env=[(false,eval b X.env)]:=by rfl):
  PI3 X tg (.Call (.Name "range" p) [a,b] [] pos) (iRng2 ta):=by
 intro pins s τ G H R I h
 obtain⟨σ,I0,hs0,hg0⟩:=id I
 refine Call_ (jXr I0 hg hm boot_range (PyProof.Rows.callWith_type1 (thn (ha pos pins s τ G H _ I h) fun us s1 w_=>w_.el fun xs G1 H1 e1 i_ r_ q1=>i_.el fun σ I1 hs1 hg1=>r_.el fun as ras rvs=> ?_) (by rw[hs,hs2]) (by rw[hs2];rfl)))
 obtain⟨i,j,e,⟨q1,q2,q3,q4⟩,q⟩:=q1
 subst e
 obtain⟨v,w,rfl,rv,rw'⟩:=kK9 ras
 cases (show v= .int i from rv);cases (show w= .int j from rw')
 obtain⟨u,u',rfl,ru,ru'⟩:=rvs.two
 obtain⟨t,rfl⟩:=ru
 obtain⟨t',rfl⟩:=ru'
 refine call_range_2 (thn (range_it (tg:=tg) (R:=fun J H'=>J=Itr i (j-i).toNat/\H'=H1) I1 q1 q2 q3 q4 ⟨rfl,rfl⟩) fun itv s2 z=> ?_)
 obtain⟨it,fp,tn,J,H',ei,I2,T0,st,fk,eJ,eH⟩:=z
 subst eJ;subst eH
 exact⟨it,fp,tn,_,rngT i (j-i).toNat,fun _=>True,G1,H',ei,e1,⟨σ,I2,hs1,hg1⟩,T0,st,fk,items_rng i (j-i).toNat,q⟩
end
noncomputable abbrev Sp3:=List T->Gp->VK3->Prop
noncomputable def dn (K:PySem.W.Frag) (n:Nat) (sp:Sp3):Sp:=fun vs H Q _=>vs.length=n/\∃xs G,Reps K H xs vs/\GRel K H G/\sp xs G fun t G'=>∀v H',Ext H H'->GRel K H' G'->Rep K H' t v->Q v H'
def Fn3 (P:Program) (w:World) (K:PySem.W.Frag) (mg:Str->Option Value) (base:Heap) (k:Nat) (f:Addr) (fd:FuncData) (ps:List Str) (sp:Sp3):Prop:=FnOk P w K mg base CX0 k f fd ps (dn K ps.length sp)
noncomputable def jJo (sp:Sp3) (t:TA3):TE3:=fun τ G Q=>t τ G fun xs G1=>sp xs G1 Q
def Mono (sp:Sp3):Prop:=∀xs G Q Q',(∀t G',Q t G'->Q' t G')->sp xs G Q->sp xs G Q'
noncomputable def jJm (N:List Str) (xs:List T):St3:=xs.map some++List.replicate (N.length-xs.length) none
theorem start_rel {K:PySem.W.Frag} {H:Hp} {N:List Str} {xs:List T} {vs:List V} (r:Reps K H xs vs):SRel K H (start N vs) (jJm N xs):=by
 have hl:=r.length
 refine⟨by simp[L2.start,jJm,hl],fun i t h=> ?_⟩
 unfold jJm at h
 unfold L2.start
 by_cases hi:i<xs.length
 ·rw[lJy (by simpa using hi),lJf] at h
  cases e:xs[i]? with
  | none=>rw[e] at h;cases h
  | some x=>
   rw[e] at h;cases h
   obtain⟨v,hv,rv⟩:=r.get e
   exact⟨v,by rw[lJy (by simp;omega),lJf,hv];rfl,rv⟩
 ·rw[lKn (by simpa using hi),lQj] at h
  split at h<;>cases h
theorem fn3 {P:Program} {w:World} {K:PySem.W.Frag} {mg:Str->Option Value} {base:Heap} {x qual:Str} {st:Stmt} {f:Addr} {fd:FuncData} {N ps:List Str} {k:Nat} {sp:Sp3} (F:Fun K x qual st f fd) (S:FnScope N ps (jJi st))
  (hbody:∀(cdv:Value) (A:Around) (outer:List Env) (s:Shared) (H:Hp) (E:XK),Room k (A.deeper (envOfC qual (jJi st) s.heap.objs.size f cdv))->
   ∃t,PSs3 (cxOf CX0 P w K mg base N qual (jJi st) f cdv A outer s H E).nox (jJw st) t/\∀xs G Q,sp xs G Q->t {nx:=fun _ G'=>Q .non G',rt:=Q} (jJm N xs) G):Fn3 P w K mg base (k+1) f fd ps sp:=by
 refine Fun.ok (sp:=dn K ps.length sp) F S (fun vs H Q E h=>h.1) fun cdv A outer s H vs Q E hr hsp=> ?_
 obtain⟨t,ht,hq⟩:=hbody cdv A outer s H E hr
 obtain⟨hl,xs,G,rs,hg,hsp⟩:=hsp
 refine⟨fun D σ H1=>D.nx=(fun _ H'=>Q .non H')/\D.rt=Q/\σ=L2.start N vs/\H1=H,?_,rfl,rfl,rfl,rfl⟩
 rintro pins s1 σ1 H1 D I ⟨e1,e2,e3,e4⟩
 subst e3;subst e4
 have I3:Inv3 (cxOf CX0 P w K mg base N qual (jJi st) f cdv A outer s H1 E).nox pins (jJm N xs) G H1 s1:=⟨_,I,start_rel rs,hg⟩
 refine thn (ht pins s1 _ G H1 _ I3 (hq xs G _ hsp)) fun fl s2 z=> ?_
 cases fl with
 | next=>obtain⟨τ',G',H',e',⟨σ',I',a,b⟩,q⟩:=z;exact⟨σ',H',I',by rw[e1];exact q .non H' e' b rfl⟩
 | brk=>obtain⟨τ',G',H',e',_,q⟩:=z;exact q.elim
 | cont=>obtain⟨τ',G',H',e',_,q⟩:=z;exact q.elim
 | ret u=>obtain⟨x',τ',G',H',e',⟨σ',I',a,b⟩,⟨v,rv,ru⟩,q⟩:=z;exact⟨v,σ',H',I',ru,by rw[e2];exact q v H' e' b rv⟩
mutual
noncomputable def dep:T->Nat
 | .tup xs=>deps xs+1
 | _=>0
noncomputable def deps:List T->Nat
 | []=>0
 | x::xs=>max (dep x) (deps xs)
end
mutual
noncomputable def tree:T->Bool
 | .tup xs=>jUf xs
 | .ref _=>false
 | .scr _=>false
 | .ty _=>false
 | .non=>true
 | .bl _=>true
 | .int _=>true
 | .str _=>true
noncomputable def jUf:List T->Bool
 | []=>true
 | x::xs=>tree x&&jUf xs
end
mutual
noncomputable def eqT:T->T->Bool
 | .non,.non=>true
 | .bl a,.bl b=>a == b
 | .bl a,.int b=>(if a then 1 else 0) == b
 | .int a,.bl b=>a == (if b then 1 else 0)
 | .int a,.int b=>a == b
 | .str a,.str b=>a == b
 | .tup xs,.tup ys=>eqTs xs ys
 | _,_=>false
noncomputable def eqTs:List T->List T->Bool
 | [],[]=>true
 | x::xs,y::ys=>eqT x y&&eqTs xs ys
 | [],_::_=>false
 | _::_,[]=>false
end
mutual
theorem eqT_same {K:PySem.W.Frag} {H:Hp}:∀(x y:T) {a:V},tree x=true->tree y=true->Rep K H x a->Rep K H y a->eqT x y=true
 | .non,y,a,hx,hy,r,q=>by
  cases (show a= .non from r)
  cases y<;>first | rfl | (exact absurd (show false=true from hy) lJe) | (cases (show V.non=_ from q)) | (obtain⟨_,_,e,_⟩:=(show ∃c vs,V.non= .ref c/\_ from q);cases e)
 | .bl b,y,a,hx,hy,r,q=>by
  cases (show a= .bl b from r)
  cases y with
  | bl c=>cases (show V.bl b=V.bl c from q);simp[eqT]
  | tup ys=>obtain⟨_,_,e,_⟩:=(show ∃c vs,V.bl b= .ref c/\_ from q);cases e
  | non=>cases (show V.bl b= .non from q)
  | int c=>cases (show V.bl b= .int c from q)
  | str c=>cases (show V.bl b= .str c from q)
  | _=>exact absurd (show false=true from hy) lJe
 | .int b,y,a,hx,hy,r,q=>by
  cases (show a= .int b from r)
  cases y with
  | int c=>cases (show V.int b=V.int c from q);simp[eqT]
  | tup ys=>obtain⟨_,_,e,_⟩:=(show ∃c vs,V.int b= .ref c/\_ from q);cases e
  | non=>cases (show V.int b= .non from q)
  | bl c=>cases (show V.int b= .bl c from q)
  | str c=>cases (show V.int b= .str c from q)
  | _=>exact absurd (show false=true from hy) lJe
 | .str b,y,a,hx,hy,r,q=>by
  cases (show a= .str b from r)
  cases y with
  | str c=>cases (show V.str b=V.str c from q);simp[eqT]
  | tup ys=>obtain⟨_,_,e,_⟩:=(show ∃c vs,V.str b= .ref c/\_ from q);cases e
  | non=>cases (show V.str b= .non from q)
  | bl c=>cases (show V.str b= .bl c from q)
  | int c=>cases (show V.str b= .int c from q)
  | _=>exact absurd (show false=true from hy) lJe
 | .tup xs,y,a,hx,hy,r,q=>by
  obtain⟨p,vs,e,h1,h2⟩:=(show ∃p vs,a= .ref p/\H p=some (.tup vs)/\Reps K H xs vs from r)
  subst e
  cases y with
  | tup ys=>
   obtain⟨p',vs',e',h1',h2'⟩:=(show ∃p' vs',V.ref p= .ref p'/\H p'=some (.tup vs')/\Reps K H ys vs' from q)
   cases e'
   rw[h1] at h1';cases h1'
   exact eqTs_same xs ys (show jUf xs=true from hx) (show jUf ys=true from hy) h2 h2'
  | non=>cases (show V.ref p= .non from q)
  | bl c=>cases (show V.ref p= .bl c from q)
  | int c=>cases (show V.ref p= .int c from q)
  | str c=>cases (show V.ref p= .str c from q)
  | _=>exact absurd (show false=true from hy) lJe
 | .ref _,_,_,hx,_,_,_=>absurd (show false=true from hx) lJe
 | .scr _,_,_,hx,_,_,_=>absurd (show false=true from hx) lJe
 | .ty _,_,_,hx,_,_,_=>absurd (show false=true from hx) lJe
theorem eqTs_same {K:PySem.W.Frag} {H:Hp}:∀(xs ys:List T) {vs:List V},jUf xs=true->jUf ys=true->Reps K H xs vs->Reps K H ys vs->eqTs xs ys=true
 | [],ys,_,_,_,r,q=>by
  cases r
  cases ys with
  | nil=>rfl
  | cons y ys=>obtain⟨_,_,e,_⟩:=q;cases e
 | x::xs,ys,_,hx,hy,⟨v,ws,e,r1,r2⟩,q=>by
  subst e
  cases ys with
  | nil=>cases q
  | cons y ys=>
   obtain⟨v',ws',e',q1,q2⟩:=q
   cases e'
   have hx':tree x=true/\jUf xs=true:=by simpa[jUf] using hx
   have hy':tree y=true/\jUf ys=true:=by simpa[jUf] using hy
   show (eqT x y&&eqTs xs ys)=true
   rw[eqT_same x y hx'.1 hy'.1 r1 q1,eqTs_same xs ys hx'.2 hy'.2 r2 q2]
   rfl
end
section
variable {X:Cx}
noncomputable def rSub:R3:=rI0 fun i j=> .int (i-j)
noncomputable def rMod:R3:=rI (fun _ j=>0<j) fun i j=> .int (i%j)
noncomputable def rFdiv:R3:=rI CDiv fun i j=> .int (i / j)
noncomputable def rPow:R3:=rI CPow fun i j=> .int (i^j.toNat)
noncomputable def rLt:R3:=rI0 fun i j=> .bl (decide (i<j))
noncomputable def rGt:R3:=rI0 fun i j=> .bl (decide (j<i))
noncomputable def rGe:R3:=rI0 fun i j=> .bl (decide (j<=i))
noncomputable def rIsN:R3:=fun x y G Q=>y= .non/\Q (.bl (isNon x)) G
noncomputable def rNotN:R3:=fun x y G Q=>y= .non/\Q (.bl (!isNon x)) G
noncomputable def rCatT:R3:=fun x y G Q=>∃xs ys,x= .tup xs/\y= .tup ys/\xs≠[]/\xs.length+ys.length<=sizeLine/\Q (.tup (xs++ys)) G
theorem o_catT:Op3 X (binaryOp .Add) rCatT:=
 Op3.of op_catT fun H G x y a b Q hg ra rb ⟨xs,ys,ex,ey,hx,hz,q⟩=>by
  subst ex;subst ey
  obtain⟨p,vs,e1,h1,h2⟩:=(show ∃p vs,a= .ref p/\H p=some (.tup vs)/\Reps X.K H xs vs from ra)
  obtain⟨p',ws,e2,h3,h4⟩:=(show ∃p vs,b= .ref p/\H p=some (.tup vs)/\Reps X.K H ys vs from rb)
  subst e1;subst e2
  have l1:=h2.length
  have l2:=h4.length
  refine⟨p,p',vs,ws,rfl,rfl,.of h1,.of h3,fun z=>hx ?_,by omega,fun z=> ?_,fun z l hl=> ?_⟩
  ·rw[z] at l1;exact lKg.mp l1
  ·rw[z] at l2
   have:ys=[]:=lKg.mp l2
   subst this
   exact⟨.tup (xs++[]),G,.refl H,hg,by rw[List.append_nil];exact ra,q⟩
  ·exact⟨.tup (xs++ys),G,.upd (.none hl),hg.tupNew hl,Rep.tupNew (h2.append h4) hl,q⟩
noncomputable def rAddI:R3:=rI0 fun i j=> .int (i+j)
noncomputable def rAddA:R3:=fun x y G Q=>rAddI x y G Q\/rCat x y G Q\/rCatT x y G Q
theorem o_addA:Op3 X (binaryOp .Add) rAddA:=o_add.or (o_cat.or o_catT)
noncomputable def rMulI:R3:=rI CMul fun i j=> .int (i*j)
noncomputable def rMulA:R3:=fun x y G Q=>rMulI x y G Q\/rRep x y G Q
theorem o_mulA:Op3 X (binaryOp .Mult) rMulA:=o_mul.or o_rep
noncomputable def rNeg:T->Gp->VK3->Prop:=fun x G Q=>∃i,x= .int i/\Q (.int (-i)) G
theorem u_neg:Un3 X (unaryOp .USub) rNeg:=
 Un3.of un_neg fun H G x a Q hg ra ⟨i,e,q⟩=>by
  subst e;cases (show a= .int i from ra)
  exact⟨i,rfl,.int (-i),G,.refl H,hg,rfl,q⟩
theorem jJu (b:Expr) {op:CmpOp} (h:behindInMarks op b=false:=by first | exact nomark _ | with_unfolding_all rfl):behindInMarks op b=false:=h
variable {a b c:Expr} {ta tb tc:TE3} {pos:Pos}
theorem t_chain {op op':CmpOp} {r r':R3} (ho:Op3 X (compareOp op) r) (ho':Op3 X (compareOp op') r') (ha:PE3 X a ta) (hb:PE3 X b tb) (hc:PE3 X c tc)
  (hm:lastMarks [op,op'] [b,c]=false:=by with_unfolding_all rfl):PT3 X (.Compare a [op,op'] [b,c] pos) (jKe (tChain r r' ta tb tc)):=by
 intro pins s τ G H Q I h
 refine isTrue_chain (thn (ha pins s τ G H _ I h) fun v s1 w_=>w_.el fun x G1 H1 e1 I1 r1 q1=>test_link (thn (hb pins s1 τ G1 H1 _ I1 q1) fun u s2 ⟨y,G2,H2,e2,I2,r2,q2⟩=>
  thn (ho pins s2 τ G2 H2 x y v u _ I2 (r1.mono e2) r2 q2) fun d s3 w_=>w_.el fun z G3 H3 e3 I3 r_ ⟨k,e,q3⟩=>r_.el fun v' rv' ru'=> ?_)) hm
 subst e
 cases (show v'= .bl k from rv');cases ru'
 refine wpAny_truthy_bool ?_
 cases k with
 | false=>
  obtain⟨k',e',q'⟩:=q3
  cases e'
  exact ite_ff ⟨G3,H3,(e1.trans e2).trans e3,I3,q'⟩
 | true=>
  refine ite_tt (test_last (thn (hc pins s3 τ G3 H3 _ I3 q3) fun w' s4 w_=>w_.el fun z' G4 H4 e4 I4 r4 q4=>thn (ho' pins s4 τ G4 H4 y z' u w' _ I4 (r2.mono (e3.trans e4)) r4 q4) fun d' s5 w_=>w_.el fun z2 G5 H5 e5 I5 r_ ⟨k2,e2',q5⟩=>r_.el fun v2 rv2 ru2=> ?_))
  subst e2'
  cases (show v2= .bl k2 from rv2);cases ru2
  exact wpAny_truthy_bool ⟨G5,H5,(((e1.trans e2).trans e3).trans e4).trans e5,I5,q5⟩
mutual
noncomputable def td:T->PyData
 | .tup xs=> .tuple (tds xs)
 | .int i=> .int i
 | .bl b=> .bool b
 | .str x=> .str x
 | .non=> .none
 | .ref _=> .none
 | .scr _=> .none
 | .ty _=> .none
noncomputable def tds:List T->List PyData
 | []=>[]
 | x::xs=>td x::tds xs
end
noncomputable def eqOk (x:T):Bool:=tree x&&(td x).canLay0&&decide ((td x).depth<=50)
noncomputable def kVr (xs:List T):Bool:=jUf xs&&PyData.canLayAll0 (tds xs)&&decide ((PyData.list (tds xs)).depth<=50)
noncomputable def eqG (G:Gp) (x y:T):Option Bool:=match x,y with
 | .ref p,.ref q=>match G p,G q with
  | some (.lst xs),some (.lst ys)=>if kVr xs=true/\kVr ys=true then some (eqTs xs ys) else none
  | _,_=>none
 | _,_=>if eqOk x=true/\eqOk y=true then some (eqT x y) else none
noncomputable def rEqA:R3:=fun x y G Q=>∃b,eqG G x y=some b/\Q (.bl b) G
noncomputable def rNeA:R3:=fun x y G Q=>∃b,eqG G x y=some b/\Q (.bl (!b)) G
noncomputable def truT (G:Gp):T->Option Bool
 | .non=>some false
 | .bl b=>some b
 | .int i=>some (i != 0)
 | .tup xs=>some (!xs.isEmpty)
 | .ref p=>match G p with
  | some (.lst xs)=>some (!xs.isEmpty)
  | some (.dck kvs)=>some (!kvs.isEmpty)
  | _=>none
 | _=>none
noncomputable def rTru:T->Gp->(Bool->Gp->Prop)->Prop:=fun x G Q=>∃b,truT G x=some b/\Q b G
theorem kJc {K:PySem.W.Frag} {H:Hp} {xs:List T} {vs:List V} (r:Reps K H xs vs):xs.isEmpty=vs.isEmpty:=by
 have:=r.length
 cases xs<;>cases vs<;>simp_all
theorem tru_any:Tru3 X rTru:=
 Tru3.of tru_ok fun H G x a Q hg ra ⟨b,hb,q⟩=>by
  refine⟨b,?_,rfl,q⟩
  cases x with
  | non=>cases (show a= .non from ra);cases hb;rfl
  | bl k=>cases (show a= .bl k from ra);cases hb;rfl
  | int k=>cases (show a= .int k from ra);cases hb;rfl
  | tup xs=>
   obtain⟨p,vs,e1,h1,h2⟩:=(show ∃p vs,a= .ref p/\H p=some (.tup vs)/\Reps X.K H xs vs from ra)
   subst e1;cases hb
   exact .inr (.inl ⟨vs,.of h1,by rw[kJc h2]⟩)
  | ref p=>
   cases (show a= .ref p from ra)
   cases hG:G p with
   | none=>simp only[truT,hG] at hb;cases hb
   | some o=>
    simp only[truT,hG] at hb
    cases o with
    | lst xs=>cases hb;obtain⟨vs,h1,h2⟩:=hg.lst hG;exact .inl ⟨vs,.of h1,by rw[kJc h2]⟩
    | dct _=>cases hb
    | fdc _=>cases hb
    | ins _ _=>cases hb
    | dck kvs=>
     cases hb
     obtain⟨ws,h1,h2⟩:=hg p _ hG
     refine .inr (.inr ⟨ws,h1,?_⟩)
     cases h2<;>rfl
  | str _=>cases hb
  | scr _=>cases hb
  | ty _=>cases hb
end
section
variable {X:Cx} {pins:List (Addr×Obj)} {σ:L2.St} {H:Hp} {s:Shared} {h':Heap}
theorem turnedL {t':Nat} {fp:List Addr} (I:Inv X pins σ H s) (k:∀b o,b∉fp->s.heap.get? b=some o->h'.get? b=some o) (hf:∀b∈fp,FpOk X pins H b):Inv X pins σ H {s with heap:=h',toks:=t'}:=by
 have nit:∀b u,H b=some u->b∉fp:=fun b u e z=>by rw[(hf b z).1] at e;cases e
 refine I.step (g':=s.gens) (d':=s.drawn) (ch:=fp) (fun b hb=>⟨(hf b hb).2.2.2.1,(hf b hb).2.1,(hf b hb).2.2.2.2.1,(hf b hb).2.2.2.2.2⟩) (fun b o _ _ hc e _=>k b o hc e) (fun b o _ _ hc e _=>⟨o.slots,k b o hc e⟩) (fun _ _ _ _ n=>n)
  (fun b o hc e=>⟨o,k b o hc e⟩) (fun _ _ e=>e) (fun _ _ _ e=>e) (fun b ps e=>⟨#[],by rw[e];simp⟩) (fun m hm=> ?_) (fun b u e=> ?_) I.bare
 ·obtain⟨o,es,ep,ho,r⟩:=hm
  exact⟨o,es,ep,k _ o (fun z=>(hf _ z).2.1 rfl) ho,r⟩
 ·refine (I.hok b u e).stay (fun c v hc q=>k c v ?_ q) (fun _ q=>q) fun _ _ q=>q
  rcases hc with z | z
  ·rw[z];exact nit b u e
  ·exact nit c _ z
theorem turnedTup {t':Nat} {fp:List Addr} {p:Addr} {vs:List V} {us:List Value} (I:Inv X pins σ H s) (k:∀b o,b∉fp->s.heap.get? b=some o->h'.get? b=some o) (hf:∀b∈fp,FpOk X pins H b)
  (hp:s.heap.objs.size<=p) (ht:TupD h' p us.toArray) (r:Vals vs us) (hz:vs.length<=sizeLine):Inv X pins σ (upd H p (.tup vs)) {s with heap:=h',toks:=t'}:=by
 have hn:H p=none:=I.hok.fresh hp
 have nit:∀b u,H b=some u->b∉fp:=fun b u e z=>by rw[(hf b z).1] at e;cases e
 have old:∀b o,s.heap.get? b=some o->b≠p:=fun b o e=>lJj (lJv (Heap.lt_size e) hp)
 have tr:∀b u,H b=some u->b≠p:=fun b u e z=>by rw[z,hn] at e;cases e
 refine I.step (g':=s.gens) (d':=s.drawn) (ch:=fp) (fun b hb=>⟨(hf b hb).2.2.2.1,(hf b hb).2.1,(hf b hb).2.2.2.2.1,(hf b hb).2.2.2.2.2⟩) (fun b o _ _ hc e _=>k b o hc e) (fun b o _ _ hc e _=>⟨o.slots,k b o hc e⟩) (fun b o _ e n=>by rw[jKw (old b o e)];exact n)
  (fun b o hc e=>⟨o,k b o hc e⟩) (fun b _ e=>by rw[jKw (tr b _ e)];exact e) (fun b _ _ e=>by rw[jKw (tr b _ e)];exact e) (fun b ps e=>⟨#[],by rw[jKw (tr b _ e),e];simp⟩) (fun m hm=> ?_) (fun b u e=> ?_) I.bare
 ·obtain⟨o,es,ep,ho,r⟩:=hm
  exact⟨o,es,ep,k _ o (fun z=>(hf _ z).2.1 rfl) ho,r⟩
 ·by_cases hb:b=p
  ·subst hb
   rw[jQ6] at e
   cases e
   exact⟨hz,us,r,ht⟩
  ·rw[jKw hb] at e
   refine (I.hok b u e).stay (fun c v hc q=>k c v ?_ q) (fun c q=>by rw[jKw (tr c _ q)];exact q) fun c _ q=>by rw[jKw (tr c _ q)];exact q
   rcases hc with z | z
   ·rw[z];exact nit b u e
   ·exact nit c _ z
end
noncomputable def Ite (K:PySem.W.Frag) (a:Addr):It:=
 ⟨fun i H=>∃xs x,SqL K H a xs/\xs[i]? =some x,fun i H x H'=>∃p y,H p=none/\x= .ref p/\(∀xs,SqL K H a xs->xs[i]? =some y)/\H'=upd H p (.tup [.int i,y]),fun i H=>∃xs,SqL K H a xs/\xs.length<=i⟩
theorem turn_enum {P:Program} {w:World} {K:PySem.W.Frag} {elts:List Expr} {k:Nat} {pos:Pos} (a e it:Addr) (hei:e≠it):
  Turn P w K (.Tuple elts k pos) (Ite K a) [e,it] e (fun i h=>(∃old,IsEnum h e it i old)/\h.IsListIter it a i) where
 mem:=by simp
 obj:=fun i h ⟨⟨old,h1⟩,h2⟩ b hb=>by
  have hb':b=e\/b=it:=by simpa using hb
  rcases hb' with z | z
  ·subst z;exact⟨_,h1,fun v z=>nomatch (show Data.fields _=Data.cell v from z)⟩
  ·subst z
   obtain⟨o,e2,c,d⟩:=h2
   exact⟨o,e2,fun v z=>by rw[d] at z;cases z⟩
 keep:=fun i h h' ⟨⟨old,h1⟩,h2⟩ kp=>⟨⟨old,kp e (by simp) _ h1⟩,h2.at fun o q=>kp it (by simp) o q⟩
 item:=by
  rintro X hP hw hK hc i pins s σ H E I hf ⟨⟨old,he⟩,hit⟩ hg
  subst hP hw hK
  obtain⟨xs,x,hq,hx⟩:=hg
  obtain⟨its,rv,p,hz⟩:=I.list hq
  obtain⟨u,hu,ru⟩:=rv.get hx
  refine wpAny_pyNext_enum_item he hit p.isList (x:=u) (by simpa using hu) hei fun h1 ho hit1 hT hsz hk=> ?_
  refine⟨_,rfl,wpAny_letOwnedTupleGo_enum ho fun h2 he2 hs2=> ?_⟩
  have hel:e<s.heap.objs.size:=Heap.lt_size he
  have hp2:∀b o,b∉[e,it]->s.heap.get? b=some o->h2.get? b=some o:=fun b o hb q=>by
   have hb1:b≠e:=fun z=>hb (by simp[z])
   have hb2:b≠it:=fun z=>hb (by simp[z])
   exact (hs2.2 b hb1).trans (hk b o hb1 hb2 q)
  have hT2:h2.get? s.heap.objs.size=some {cls:= .type "tuple",data:= .seq #[.int i s.toks,u]}:=(hs2.2 _ (Nat.ne_of_gt hel)).trans hT
  have I2:=turnedTup (t':=s.toks+1) (h':=h2) (p:=s.heap.objs.size) (vs:=[.int i,x]) (us:=[.int i s.toks,u]) I hp2 hf (lJd _) ⟨_,hT2,rfl,_,rfl,rfl⟩ (.cons ⟨_,rfl⟩ (.cons ru .nil)) (by show 2<=sizeLine;decide)
  refine⟨.ref s.heap.objs.size,_,I2,rfl,⟨_,x,I.hok.fresh (lJd _),rfl,fun ys hy=>by rw[I.list_inj hy hq];exact hx,rfl⟩,⟨⟨u,by simpa using he2⟩,hit1.at fun o q=>(hs2.2 it hei.symm).trans q⟩,fun b hb=> ?_⟩
  have hbs:∃o,s.heap.get? b=some o:=by
   have hb':b=e\/b=it:=by simpa using hb
   rcases hb' with z | z
   ·subst z;exact⟨_,he⟩
   ·subst z;obtain⟨o,q,_⟩:=hit;exact⟨o,q⟩
  obtain⟨o,q⟩:=hbs
  rw[jKw (lJj (Heap.lt_size q))]
  exact (hf b hb).1
 done:=by
  rintro X hP hw hK hc i pins s σ H E I hf ⟨⟨old,he⟩,hit⟩ hg
  subst hP hw hK
  obtain⟨xs,hq,hx⟩:=hg
  obtain⟨its,rv,p,hz⟩:=I.list hq
  have hl:=rv.length
  exact wpAny_pyNext_enum_end (I.ok.hd hc) he hit p.isList (by simp;omega) fun h1 hx1=>⟨rfl,turnedL (t':=s.toks) I (fun b o hb q=>hx1 b o (fun z=>hb (by simp[z])) q) hf⟩
 self:=fun _ _ _ _ _ ⟨⟨old,he⟩,_⟩ h=>wpAny_pyIter_enum he h
noncomputable def numT (xs:List T):List T:=(List.range xs.length).map fun (i:Nat)=>T.tup [.int i,xs.getD i .non]
theorem jXm {xs:List T} {i:Nat} {x:T} (h:xs[i]? =some x):(numT xs)[i]? =some (.tup [.int i,x]):=by
 have hi:i<xs.length:=by
  rcases lJ9 i xs.length with z | z
  ·exact z
  ·rw[lJh z] at h;cases h
 have hx:xs[i]=x:=(lJa.mp h).2
 simp[numT,hi,List.getD,hx]
theorem jK8 {xs:List T}:(numT xs).length=xs.length:=by simp[numT]
noncomputable def jV8 (G:Gp):T->Option (List T)
 | .ref p=>asL (G p)
 | .scr xs=>some xs
 | _=>none
theorem kJx {K:PySem.W.Frag} {H:Hp} {G:Gp} {x:T} {a:V} {xs:List T} (hg:GRel K H G) (r:Rep K H x a) (h:jV8 G x=some xs):∃p vs,a= .ref p/\SqL K H p vs/\Reps K H xs vs:=by
 cases x with
 | scr ys=>cases h;obtain⟨p,vs,e,h1,h2⟩:=(show ∃p vs,a= .ref p/\FrL K H p vs/\Reps K H xs vs from r);exact⟨p,vs,e,h1.sq,h2⟩
 | ref p=>
  obtain⟨vs,h1,h2⟩:=hg.lst (jYn h)
  exact⟨p,vs,r,.of h1,h2⟩
 | tup _=>cases h
 | non=>cases h
 | bl _=>cases h
 | int _=>cases h
 | str _=>cases h
 | ty _=>cases h
noncomputable def jZ4 (ta:TA3):TI3:=fun τ G R=>ta τ G fun vs G1=>∃x xs,vs=[x]/\jV8 G1 x=some xs/\R (numT xs) (fun G'=>jV8 G' x=some xs) G1
theorem kQ6 {X:Cx} {elts:List Expr} {k:Nat} {tpos pos p:Pos} {a:Expr} {ta:TA3} (hg:Gl X "enumerate") (hm:X.mg "enumerate"=none) (hv:bootBuiltins "enumerate"=some (.type "enumerate")) (ha:PA3 X [a] ta) (hs:starEach [a] X.env=[(false,eval a X.env)]:=by rfl):
  PI3 X (.Tuple elts k tpos) (.Call (.Name "enumerate" p) [a] [] pos) (jZ4 ta):=by
 intro pins s τ G H R I h
 obtain⟨σ0,I0,hs0,hg0⟩:=id I
 refine Call_ (jXr I0 hg hm hv (PyProof.Rows.callWith_type1 (thn (ha pos pins s τ G H _ I h) fun us s1 w_=>w_.el fun xs' G1 H1 e1 i_ r_ q1=>i_.el fun σ I1 hs1 hg1=>r_.el fun as ras rvs=> ?_) hs rfl))
 obtain⟨x,xs,e,hx,q⟩:=q1
 subst e
 obtain⟨v,rfl,rv⟩:=jYs ras
 obtain⟨u,rfl,ru⟩:=rvs.one
 obtain⟨pa,vs,rfl,hq,r⟩:=kJx hg1 rv hx
 cases ru
 obtain⟨its,rvv,pl,hz⟩:=I1.list hq
 refine call_enumerate_list pl.isList fun h1 he hit hsz hk=> ?_
 have I2:Inv X pins σ H1 {s1 with heap:=h1}:=I1.kept (t':=s1.toks) hk
 refine wpAny_pyIter_enum (Q:=PIE3 X pins τ H (.Tuple elts k tpos) R) he ?_
 have fr:∀b∈[s1.heap.objs.size+1,s1.heap.objs.size],FpOk X pins H1 b:=fun b hb=>by
  have hb':b=s1.heap.objs.size+1\/b=s1.heap.objs.size:=by simpa using hb
  have hle:s1.heap.objs.size<=b:=by omega
  exact I1.fpOk hle (I1.hok.fresh hle)
 refine⟨s1.heap.objs.size+1,[s1.heap.objs.size+1,s1.heap.objs.size],_,_,numT xs,fun G'=>jV8 G' x=some xs,G1,H1,rfl,e1,⟨σ,I2,hs1,hg1⟩,turn_enum pa _ _ (Nat.succ_ne_self _),⟨⟨.none,he⟩,hit⟩,fr,?_,q⟩
 intro i H2 G2 e2 g2 st
 obtain⟨pb,ws,eb,h1,h2⟩:=kJx g2 (Rep.mono e2 _ rv) st
 cases eb
 have hlen:=h2.length
 refine⟨fun hi=> ?_,fun hi=>⟨ws,h1,by rw[jK8] at hi;omega⟩,fun hi y H' ⟨pp,z,hn,ey,hy,eH⟩=> ?_⟩
 ·rw[jK8] at hi
  exact⟨ws,ws[i]'(by omega),h1,by simp[hlen▸hi]⟩
 ·subst ey;subst eH
  obtain⟨t,ht,rt⟩:=h2.get' (hy ws h1)
  exact⟨.upd (.none hn),g2.tupNew hn,_,jXm ht,Rep.tupNew ⟨_,_,rfl,rfl,_,_,rfl,rt,rfl⟩ hn⟩
noncomputable def clGo (env:Env):List (Str×NameKind)->List (Str×Addr)->Option (List (Str×Addr))
 | [],cs=>some cs
 | (n,k)::r,cs=>if (k == .free)=true then (match env.cells.lookup n with | some c=>clGo env r ((n,c)::cs) | none=>none) else clGo env r cs
theorem kUc {scope:Scope} {env:Env} {cl:List (Str×Addr)} (h:clGo env scope.names []=some cl):closureFor scope env=pure cl:=by
 unfold closureFor
 have go:∀(names:List (Str×NameKind)) (cs:List (Str×Addr)),clGo env names cs=some cl->
   (forIn names cs fun (x:Str×NameKind) (r:List (Str×Addr))=>(match x with | (nm,kd)=>if (kd == .free)=true then cellOf env nm >>= fun a=>pure (ForInStep.yield ((nm,a)::r)) else pure (ForInStep.yield r):Sem (ForInStep (List (Str×Addr)))))=pure cl:=by
  intro names
  induction names with
  | nil=>intro cs e;cases e;rfl
  | cons x r ih=>
   obtain⟨n,k⟩:=x
   intro cs e
   unfold clGo at e
   rw[List.forIn_cons]
   by_cases hk:(k == NameKind.free)=true
   ·rw[if_pos hk] at e
    cases hc:env.cells.lookup n with
    | none=>rw[hc] at e;cases e
    | some c=>
     rw[hc] at e
     have hco:cellOf env n=pure c:=by unfold cellOf;rw[hc]
     simp only[hk,if_true,hco,pure_bind]
     exact ih _ e
   ·rw[if_neg hk] at e
    simp only[hk,pure_bind,if_false,lKt]
    exact ih _ e
 have:=go scope.names [] h
 simpa using this
theorem kJ1 {env:Env} {cl:List (Str×Addr)}:∀ {names:List (Str×NameKind)} {cs:List (Str×Addr)},clGo env names cs=some cl->(∀n c,cs.lookup n=some c->env.cells.lookup n=some c)->∀n c,cl.lookup n=some c->env.cells.lookup n=some c
 | [],cs,e,h=>by cases e;exact h
 | (n,k)::r,cs,e,h=>by
  unfold clGo at e
  by_cases hk:(k == NameKind.free)=true
  ·rw[if_pos hk] at e
   cases hc:env.cells.lookup n with
   | none=>rw[hc] at e;cases e
   | some c=>
    rw[hc] at e
    refine kJ1 e fun m d q=> ?_
    rw[lJ5] at q
    by_cases hm:(m == n)=true
    ·rw[hm] at q;cases q;rw[eq_of_beq hm];exact hc
    ·simp only[hm] at q;exact h m d q
  ·rw[if_neg hk] at e
   exact kJ1 e h
theorem kKy {env:Env} {cl:List (Str×Addr)} {m:Str}:∀ {names:List (Str×NameKind)} {cs:List (Str×Addr)},clGo env names cs=some cl->(∃c,cs.lookup m=some c)->∃c,cl.lookup m=some c
 | [],cs,e,h=>by cases e;exact h
 | (n,k)::r,cs,e,h=>by
  unfold clGo at e
  by_cases hk:(k == NameKind.free)=true
  ·rw[if_pos hk] at e
   cases hc:env.cells.lookup n with
   | none=>rw[hc] at e;cases e
   | some c=>
    rw[hc] at e
    refine kKy e ?_
    rw[lJ5]
    by_cases hm:(m == n)=true
    ·rw[hm];exact⟨_,rfl⟩
    ·simp only[hm];exact h
  ·rw[if_neg hk] at e
   exact kKy e h
theorem kJ2 {env:Env} {cl:List (Str×Addr)} {m:Str}:∀ {names:List (Str×NameKind)} {cs:List (Str×Addr)},clGo env names cs=some cl->names.lookup m=some .free->∃c,cl.lookup m=some c
 | [],cs,e,h=>by simp at h
 | (n,k)::r,cs,e,h=>by
  unfold clGo at e
  rw[lJ5] at h
  by_cases hm:(m == n)=true
  ·rw[hm] at h
   cases h
   rw[if_pos (show (NameKind.free == NameKind.free)=true from rfl)] at e
   cases hc:env.cells.lookup n with
   | none=>rw[hc] at e;cases e
   | some c=>
    rw[hc] at e
    refine kKy e ?_
    rw[lJ5,hm];exact⟨_,rfl⟩
  ·simp only[hm] at h
   by_cases hk:(k == NameKind.free)=true
   ·rw[if_pos hk] at e
    cases hc:env.cells.lookup n with
    | none=>rw[hc] at e;cases e
    | some c=>rw[hc] at e;exact kJ2 e h
   ·rw[if_neg hk] at e
    exact kJ2 e h
theorem jVn {env:Env} {x:Str}:∀ {names:List (Str×NameKind)},(∀y∈names,y.2≠ .cell)->
  ((names.map fun (n,k)=>if (k == NameKind.free&&env.scope.kind == .function&&env.kindOf n == some .cell) then (n,NameKind.cell) else (n,k)).lookup x=some .cell\/
    (names.map fun (n,k)=>if (k == NameKind.free&&env.scope.kind == .function&&env.kindOf n == some .cell) then (n,NameKind.cell) else (n,k)).lookup x=some .free)->names.lookup x=some .free
 | [],_,h=>by simp at h
 | (n,k)::r,hc,h=>by
  have ih:= @jVn env x r (fun y hy=>hc y (lKa _ hy))
  have hk:=hc (n,k) lKb
  rw[lJ4] at h
  rw[lJ5]
  by_cases hx:(x == n)=true
  ·rw[hx]
   by_cases hf:(k == NameKind.free&&env.scope.kind == .function&&env.kindOf n == some .cell)=true
   ·have:(k == NameKind.free)=true:=by
     rw[lJ3,lJ3] at hf;exact hf.1.1
    rw[eq_of_beq this]
   ·simp only[hf,if_false,lKt,lJ5,hx] at h
    rcases h with h | h
    ·cases h;exact absurd rfl hk
    ·cases h;rfl
  ·simp only[hx]
   refine ih ?_
   by_cases hf:(k == NameKind.free&&env.scope.kind == .function&&env.kindOf n == some .cell)=true
   ·simpa only[hf,if_true,lJ5,hx] using h
   ·simpa only[hf,if_false,lKt,lJ5,hx] using h
theorem jXg {env:Env} {x:Str}:∀ {names:List (Str×NameKind)},
  (names.map fun (n,k)=>if (k == NameKind.free&&env.scope.kind == .function&&env.kindOf n == some .cell) then (n,NameKind.cell) else (n,k)).lookup x=some .local->names.lookup x=some .local
 | [],h=>by simp at h
 | (n,k)::r,h=>by
  have ih:= @jXg env x r
  rw[lJ4] at h
  rw[lJ5]
  by_cases hx:(x == n)=true
  ·rw[hx]
   by_cases hf:(k == NameKind.free&&env.scope.kind == .function&&env.kindOf n == some .cell)=true
   ·simp only[hf,if_true,lJ5,hx] at h;cases h
   ·simp only[hf,if_false,lKt,lJ5,hx] at h;exact h
  ·simp only[hx]
   refine ih ?_
   by_cases hf:(k == NameKind.free&&env.scope.kind == .function&&env.kindOf n == some .cell)=true
   ·simpa only[hf,if_true,lJ5,hx] using h
   ·simpa only[hf,if_false,lKt,lJ5,hx] using h
noncomputable def jXb (X:Cx) (scope:Scope) (cl:List (Str×Addr)) (C:Addr) (fp:List Addr) (s:Shared) (H:Hp):Cx:=
 {X with env:=compEnvC scope cl C X.env,s₀:=s,H₀:=H,outer:=X.stack,stack:=X.stack,ex:=fp,fn:=fun _=>false,pn:=[],xe:=fun _ _=>False}
structure CmpOk (X:Cx) (scope:Scope) (cl:List (Str×Addr)) (mask:List Bool):Prop where
 cl:clGo X.env scope.names []=some cl
 kind:scope.kind= .function
 nocell:(scope.names.all fun y=>y.2 != .cell)=true
 names:(scope.names.all fun y=>y.2 != .local||scope.names.lookup y.1 == some .local)=true
 vis:(scope.names.all fun y=>y.2 != .free||X.env.kindOf y.1 == some .cell||X.env.kindOf y.1 == some .free)=true
 len:mask.length=X.N.length
 mask:((X.N.zip mask).all fun p=>p.2||scope.names.lookup p.1 != some .local)=true
noncomputable def msk {α:Type} (mask:List Bool) (τ:List (Option α)):List (Option α):=List.zipWith (fun b o=>if b=true then none else o) mask τ
theorem msk_get {α:Type} {mask:List Bool} {τ:List (Option α)} {i:Nat} {t:α} (h:(msk mask τ)[i]? =some (some t)):mask[i]? =some false/\τ[i]? =some (some t):=by
 unfold msk at h
 rw[lQg] at h
 cases hm:mask[i]? with
 | none=>exact absurd (hm▸h) (by simp)
 | some b=>
  cases ht:τ[i]? with
  | none=>rw[hm,ht] at h;cases h
  | some o=>
   rw[hm,ht] at h
   cases b with
   | true=>simp at h
   | false=>simp at h;exact⟨rfl,by rw[h]⟩
theorem jZz {α:Type} {mask:List Bool} {τ:List (Option α)} (h:mask.length=τ.length):(msk mask τ).length=τ.length:=by
 unfold msk;rw[List.length_zipWith,h,Nat.min_self]
theorem msk_rel {K:PySem.W.Frag} {H:Hp} {σ:L2.St} {τ:St3} {mask:List Bool} (h:SRel K H σ τ) (hl:mask.length=τ.length):SRel K H (msk mask σ) (msk mask τ):=by
 refine⟨by rw[jZz hl,jZz (hl.trans h.1.symm),h.1],fun i t q=> ?_⟩
 obtain⟨h1,h2⟩:=msk_get q
 obtain⟨v,h3,h4⟩:=h.2 i t h2
 refine⟨v,?_,h4⟩
 unfold msk
 rw[lQg,h1,h3]
 simp
section
variable {X:Cx} {scope:Scope} {cl:List (Str×Addr)} {mask:List Bool}
theorem CmpOk.local (c:CmpOk X scope cl mask) {i:Nat} {x:Str} (h1:X.N[i]? =some x) (h2:mask[i]? =some false):scope.names.lookup x≠some .local:=by
 have h:=c.mask
 rw[lK6] at h
 have hz:(X.N.zip mask)[i]? =some (x,false):=by rw[List.getElem?_zip_eq_some];exact⟨h1,h2⟩
 have:=h _ (lJg hz)
 simpa using this
theorem CmpOk.free (c:CmpOk X scope cl mask) {x:Str} (h:scope.names.lookup x=some .free):X.env.kindOf x=some .cell\/X.env.kindOf x=some .free:=by
 have hv:=c.vis
 rw[lK6] at hv
 have:=hv (x,.free) (PySem.mem_of_lookup h)
 simpa using this
theorem CmpOk.nc (c:CmpOk X scope cl mask):∀y∈scope.names,y.2≠ .cell:=by
 have hv:=c.nocell
 rw[lK6] at hv
 intro y hy
 simpa using hv y hy
theorem CmpOk.nm (c:CmpOk X scope cl mask):∀y∈scope.names,y.2= .local->scope.names.lookup y.1=some .local:=by
 have hv:=c.names
 rw[lK6] at hv
 intro y hy e
 have:=hv y hy
 rw[e] at this
 simpa using this
theorem cmp_start (c:CmpOk X scope cl mask) {pins:List (Addr×Obj)} {σ:L2.St} {H:Hp} {s:Shared} {fp:List Addr} {h4:Heap} {tk:Nat} (I:Inv X pins σ H s) (hf:∀b∈fp,FpOk X pins H b) (ho:∀b∈fp,∃o,s.heap.get? b=some o)
  (hns:h4.Ns s.heap.objs.size fun _=>none) (hk:∀b o,s.heap.get? b=some o->h4.get? b=some o):
  Inv (jXb X scope cl s.heap.objs.size fp s H) [] (msk mask σ) H {s with heap:=h4,toks:=tk}:=by
 have sub:=kJ1 c.cl (by simp)
 have ok:(jXb X scope cl s.heap.objs.size fp s H).Ok:=by
  refine⟨I.ok.mod,c.kind,I.ok.glob,I.ok.blt,lJd _,fun x y d h1 h2=>I.ok.inj x y d (sub _ _ h1) (sub _ _ h2),fun x hx=>kJ2 c.cl (jVn (env:=X.env) c.nc hx),fun x d hx=>absurd (show false=true from hx) lJe,I.ok.hd,I.ok.gd,I.ok.frames,.inl rfl,
   fun b hb=> ?_,I.bs,lJo I.ok.bsz I.sz,fun b o e hb=> ?_,fun b hb hz=> ?_,I.stack,I.stkFree⟩
  ·obtain⟨o,e⟩:=ho b hb
   exact⟨lJj (Heap.lt_size e),fun x d hd=>(hf b hb).2.2.2.2.1 x d (sub _ _ hd)⟩
  ·rcases (hf b hb).2.2.2.1 with z | z
   ·exact I.ok.noex b o e z
   ·exact absurd (lJv (Heap.lt_size e) I.ok.bsz) (Nat.not_lt.mpr z)
  ·rcases lJk.mp (I.stkSub b hz) with z | z
   ·exact (hf b hb).2.1 z
   ·exact (hf b hb).2.2.1 z
 refine⟨ok,rfl,I.bare,Un.kept hk,⟨_,hns,fun i x v h1 h2 h3=> ?_⟩,fun x d hd=> ?_,I.hok.fresh (lJd _),fun x d hd=>I.freeC x d (sub _ _ hd),fun p hp=>absurd (show p∈([]:List (Addr×Obj)) from hp) (by simp),I.hok.kept hk,?_⟩
 ·obtain⟨m1,m2⟩:=msk_get h2
  have nl:=c.local h1 m1
  have fr:scope.names.lookup x=some .free:=by
   rcases h3 with z | z | z
   ·exact absurd (jXg (env:=X.env) z) nl
   ·exact jVn (env:=X.env) c.nc (.inl z)
   ·exact jVn (env:=X.env) c.nc (.inr z)
  have hkk:=c.free fr
  obtain⟨m,hn,hl⟩:=I.loc
  have vis:Vis X.env.scope x:=by rcases hkk with z | z;exact .inr (.inl z);exact .inr (.inr z)
  obtain⟨u,ru,lk⟩:=hl i x v h1 m2 vis
  refine⟨u,ru,?_⟩
  rcases lk with ⟨z,_⟩ | ⟨_,d,hd,cd⟩
  ·exfalso;rcases hkk with q | q<;>(rw[z] at q;cases q)
  ·obtain⟨d',hd'⟩:=kJ2 c.cl fr
   have:d'=d:=by have:=sub _ _ hd';rw[hd] at this;exact (lJ0 this).symm
   subst this
   refine .inr ⟨?_,d',hd',cd.keeps hk⟩
   rcases h3 with z | z | z
   ·exact absurd (jXg (env:=X.env) z) nl
   ·exact .inl z
   ·exact .inr z
 ·obtain⟨v,hv⟩:=I.cell x d (sub _ _ hd)
  exact⟨v,hv.keeps hk⟩
 ·exact (jZz (c.len.trans I.len.symm)).trans I.len
theorem cmp_end {pins:List (Addr×Obj)} {σ σ':L2.St} {H H':Hp} {s s':Shared} {fp:List Addr} {pl:List (Addr×Obj)} {C:Addr} (I:Inv X pins σ H s) (hf:∀b∈fp,FpOk X pins H b) (hC:s.heap.objs.size<=C)
  (J:Inv (jXb X scope cl C fp s H) pl σ' H' s') {h':Heap} (hb:Heap.SameBut C s'.heap h'):Inv X pins σ H' {s' with heap:=h'}:=by
 have ne:∀b o,s.heap.get? b=some o->b≠C:=fun b o e=>lJj (lJv (Heap.lt_size e) hC)
 have u:=J.base
 have hfree:H' C=none:=J.free
 have u':Un (frs X.stack) fp H H' s.heap h':=⟨fun b o e n hb' hx=>(hb.2 b (ne b o e)).trans (u.keep b o e n hb' hx),fun b o e n hb' hx=>let ⟨sl,z⟩:=u.slot b o e n hb' hx;⟨sl,(hb.2 b (ne b o e)).trans z⟩,
  u.free,fun b o e hx=>let ⟨o',z⟩:=u.there b o e hx;⟨o',(hb.2 b (ne b o e)).trans z⟩,u.tups,u.frzs,u.tbls⟩
 have hok:HOk X.prog X.w H' h':=fun b ob e=>(J.hok b ob e).stay (fun c w' hc q=>(hb.2 c (by
  rintro rfl
  rcases hc with rfl | hc
  ·rw[hfree] at e;cases e
  ·rw[hfree] at hc;cases hc)).trans q) (fun _ q=>q) fun _ _ q=>q
 exact I.call' (s':={s' with heap:=h'}) J.os u' hok J.bare fun b hb=>⟨(hf b hb).2.2.2.1,(hf b hb).2.1,(hf b hb).2.2.2.2.1,(hf b hb).2.2.2.2.2⟩
end
noncomputable abbrev compTests (ifs:List Expr) (env:Env):Sem Bool:=forIn ifs true fun c b=>if b=true then isTrue c env (eval c env) >>= fun d=>pure (ForInStep.yield d) else pure (ForInStep.yield b)
noncomputable def CompStep (M:Model) (A:Around) (elt tg:Expr) (ifs:List Expr) (it acc:Value) (env:Env) (stop more:Shared->Prop):Option Value->Shared->Prop
 | none=>stop
 | some v=>fun z=>wpAny M A (letOwnedTupleGo tg it v) (fun _ z1=>wpAny M A (assign tg env v) (fun _ z2=>wpAny M A (compTests ifs env) (fun ok z3=>if ok=true then wpAny M A (eval elt env) (fun x z4=>wpAny M A (call (.builtin "list.append") [acc,x]) (fun _=>more) (fun _ _=>False) z4) (fun _ _=>False) z3 else more z3) (fun _ _=>False) z2) (fun _ _=>False) z1) (fun _ _=>False) z
theorem compLoop3 {P:Program} {w:World} {A:Around} {R:Result->Shared->Prop} {s:Shared} {elt tg iter:Expr} {ifs:List Expr} {scope:Scope} {pos:Pos} {it acc:Value} {env:Env} (I:Nat->Shared->Prop)
  (turn:∀k z,I k z->wpAny (model P w) A (pyNext it) (CompStep (model P w) A elt tg ifs it acc env (R (.ok .next)) fun z'=>∃m,m<k/\I m z') (fun _ _=>False) z) (n:Nat) (h:I n s):codeAny (model P w) A (.compLoop (.ListComp elt [⟨tg,iter,ifs,0⟩] scope pos) 0 it acc env) R s:=by
 refine codeAny_loop rfl I (fun k z hz=>(show wpAny _ A ((compTurn (.ListComp elt [⟨tg,iter,ifs,0⟩] scope pos) 0 it acc env).onRaise _) _ _ z from wpAny_noted ?_)) n h
 rw[compTurn_list]
 refine wpAny_bind (wpAny_standAt (wpAny_bind (wpAny_mono (turn k z hz) (fun r z1 h1=> ?_) fun _ _ e=>e.elim)))
 cases r with
 | none=>exact wpAny_pure h1
 | some v=>
  refine wpAny_bind (wpAny_mono h1 (fun _ z2 h2=>wpAny_bind (wpAny_mono h2 (fun _ z3 h3=>wpAny_bind (wpAny_mono h3 (fun ok z4 h4=> ?_) fun _ _ e=>e.elim)) fun _ _ e=>e.elim)) fun _ _ e=>e.elim)
  by_cases hok:ok=true
  ·subst hok
   exact wpAny_bind (wpAny_bind (wpAny_mono h4 (fun x z5 h5=>wpAny_bind (wpAny_mono h5 (fun _ z6 h6=>wpAny_pure (wpAny_pure ⟨rfl,h6⟩)) fun _ _ e=>e.elim)) fun _ _ e=>e.elim))
  ·obtain rfl:ok=false:=by simpa using hok
   exact wpAny_pure ⟨rfl,h4⟩
def PIf3 (X:Cx) (ifs:List Expr) (t:TT3):Prop:=∀(pins:List (Addr×Obj)) (s:Shared) (τ:St3) (G:Gp) (H:Hp) (Q:Bool->Gp->Prop),Inv3 X pins τ G H s->t τ G Q->
 wpAny (model X.prog X.w) X.A (forIn ifs true fun c r=>if r=true then do let ok <-isTrue c X.env (eval c X.env);pure (ForInStep.yield ok) else pure (ForInStep.yield r)) (TP3 X pins τ H Q) X.xe s
noncomputable def jUo:TT3:=fun _ G Q=>Q true G
theorem jQ1 {X:Cx}:PIf3 X [] jUo:=fun _ _ _ G H _ I q=>wpAny_tests_nil ⟨G,H,.refl H,I,q⟩
theorem if_one {X:Cx} {c:Expr} {t:TT3} (h:PT3 X c t):PIf3 X [c] t:=fun pins s τ G H Q I q=>wpAny_tests_one (h pins s τ G H Q I q)
def GKeep (mask:List Bool) (g:TG3):Prop:=∀v τ G Q,g v τ G Q->g v τ G fun τ2 G2=>Q τ2 G2/\τ2.length=τ.length/\∀i:Nat,mask[i]? ≠some true->τ2[i]? =τ[i]?
def GsKeep (mask:List Bool) (g:TGs3):Prop:=∀v τ G Q,g v τ G Q->g v τ G fun τ2 G2=>Q τ2 G2/\τ2.length=τ.length/\∀i:Nat,mask[i]? ≠some true->τ2[i]? =τ[i]?
theorem jJ8 {mask:List Bool} {i:Nat} (h:mask[i]? =some true:=by rfl):GKeep mask (jJj i):=fun v τ G Q q=>
 ⟨q,lKo ..,fun j hj=>lJx (by rintro rfl;exact hj h)⟩
theorem kQ9 {mask:List Bool}:GsKeep mask gNil:=fun v τ G Q ⟨e,q⟩=>⟨e,q,rfl,fun _ _=>rfl⟩
theorem jU5 {mask:List Bool} {t:TG3} {u:TGs3} (h1:GKeep mask t) (mono:∀v τ G Q Q',(∀a b,Q a b->Q' a b)->t v τ G Q->t v τ G Q') (h2:GsKeep mask u) (mono2:∀v τ G Q Q',(∀a b,Q a b->Q' a b)->u v τ G Q->u v τ G Q'):GsKeep mask (jKb t u):=fun vs τ G Q ⟨v,r,e,q⟩=>by
 refine⟨v,r,e,mono _ _ _ _ _ (fun τ2 G2 ⟨z,l1,k1⟩=> ?_) (h1 _ _ _ _ q)⟩
 exact mono2 _ _ _ _ _ (fun τ3 G3 ⟨z3,l3,k3⟩=>⟨z3,l3.trans l1,fun i hi=>(k3 i hi).trans (k1 i hi)⟩) (h2 _ _ _ _ z)
theorem jQp {i:Nat}:∀v τ G (Q Q':St3->Gp->Prop),(∀a b,Q a b->Q' a b)->jJj i v τ G Q->jJj i v τ G Q':=fun _ _ _ _ _ h q=>h _ _ q
theorem jXs:∀v τ G (Q Q':St3->Gp->Prop),(∀a b,Q a b->Q' a b)->gNil v τ G Q->gNil v τ G Q':=fun _ _ _ _ _ h q=>⟨q.1,h _ _ q.2⟩
theorem jZ5 {t:TG3} {u:TGs3} (m1:∀v τ G (Q Q':St3->Gp->Prop),(∀a b,Q a b->Q' a b)->t v τ G Q->t v τ G Q') (m2:∀v τ G (Q Q':St3->Gp->Prop),(∀a b,Q a b->Q' a b)->u v τ G Q->u v τ G Q'):
  ∀v τ G (Q Q':St3->Gp->Prop),(∀a b,Q a b->Q' a b)->jKb t u v τ G Q->jKb t u v τ G Q':=fun _ _ _ _ _ h ⟨v,r,e,q⟩=>⟨v,r,e,m1 _ _ _ _ _ (fun _ _ z=>m2 _ _ _ _ _ h z) q⟩
theorem kQ8 {mask:List Bool} {n:Nat} {u:TGs3} (h:GsKeep mask u):GKeep mask (gTup n u):=fun v τ G Q ⟨xs,e,l,q⟩=>⟨xs,e,l,h _ _ _ _ q⟩
theorem msk_same {mask:List Bool} {τ τ2:St3} (hl:mask.length=τ.length) (l:τ2.length=(msk mask τ).length) (h:∀i:Nat,mask[i]? ≠some true->τ2[i]? =(msk mask τ)[i]?):msk mask τ2=msk mask τ:=by
 have ll:=jZz hl
 apply lJ8
 intro i
 unfold msk at h ⊢
 rw[lQg,lQg]
 cases hm:mask[i]? with
 | none=>rfl
 | some b=>
  cases b with
  | true=>
   have h1:i<mask.length:=by
    rcases lJ9 i mask.length with z | z
    ·exact z
    ·rw[lJh z] at hm;cases hm
   have h2:i<τ2.length:=by omega
   have h3:i<τ.length:=by omega
   rw[lJc h2,lJc h3]
   simp
  | false=>
   have:=h i (by rw[hm];simp)
   rw[lQg,hm] at this
   rw[this]
   cases τ[i]? with
   | none=>rfl
   | some o=>simp
def tCompAt (mask:List Bool) (g:TG3) (tif:TT3) (te:TE3) (τ:St3) (xs:List T) (stay:Gp->Prop) (G:Gp) (Q:VK3):Prop:=
 ∀D,G D=none->∃P:Nat->List T->Gp->Prop,P 0 [] (gup G D (.lst []))/\(∀i acc G,i<=xs.length->P i acc G->stay G/\G D=some (.lst acc))/\
  (∀i x acc G,xs[i]? =some x->P i acc G->g x (msk mask τ) G fun τ2 G2=>tif τ2 G2 fun b G3=>if b=true then te τ2 G3 fun y G4=>G4 D=some (.lst acc)/\acc.length<sizeLine/\P (i+1) (acc++[y]) (gup G4 D (.lst (acc++[y]))) else P (i+1) acc G3)/\
  ∀acc G,P xs.length acc G->Q (.ref D) G
noncomputable def jQ3 (mask:List Bool) (wi:TI3) (g:TG3) (tif:TT3) (te:TE3):TE3:=fun τ G Q=>wi τ G fun xs stay G1=>tCompAt mask g tif te τ xs stay G1 Q
section
variable {X:Cx} {scope:Scope} {cl:List (Str×Addr)} {mask:List Bool} {elt iter tg:Expr} {ifs:List Expr} {pos:Pos} {wi:TI3} {g:TG3} {tif:TT3} {te:TE3}
theorem kUb (hc:X.calm=true) (ok:CmpOk X scope cl mask)
  (hgk:GKeep mask g) (hg:∀C fp s H,PG3 (jXb X scope cl C fp s H) tg g) (hif:∀C fp s H,PIf3 (jXb X scope cl C fp s H) ifs tif) (he:∀C fp s H,PE3 (jXb X scope cl C fp s H) elt te)
  {pins:List (Addr×Obj)} {τ:St3} {H:Hp} {Q:VK3} {itv:Value} {s2:Shared} {E:Value->Shared->Prop} {RR:Value->Addr->Result->Shared->Prop}
  (h2:PIE3 X pins τ H tg (fun xs stay G=>tCompAt mask g tif te τ xs stay G Q) itv s2)
  (hRR:∀D C s' m,s'.heap.Ns C m->(∃G1 H1,Ext H H1/\H1 C=none/\Q (.ref D) G1/\∀h',Heap.SameBut C s'.heap h'->Inv3 X pins τ G1 H1 {s' with heap:=h'})->(∃oC,s'.heap.get? C=some oC/\C≠X.env.locals/\C∉X.fs/\∀v,oC.data≠ .cell v)->(∀x c,X.env.cells.lookup x=some c->c≠C)->(∀p∈X.pn++pins,p.1≠C)->X.s₀.heap.objs.size<=C->RR (.ref D) C (.ok .next) s'):
  wpAny (model X.prog X.w) X.A (newList []) (fun acc s₃=>wpAny (model X.prog X.w) X.A (newFunctionEnv scope X.env.globals cl [] X.env.qual none .none (some X.env)) (fun cenv s₄=>
   codeAny (model X.prog X.w) X.A (.compStart (.ListComp elt [⟨tg,iter,ifs,0⟩] scope pos) 0 itv acc {cenv with scope:=relabel scope X.env}) (RR acc cenv.locals) s₄) E s₃) E s2:=by
 obtain⟨it,fp,tn,J,xs,stay,G2,H2,e,eH,⟨σ,I2,hs2,hg2⟩,T0,st2,f2,IT,hq⟩:=h2
 subst e
 refine wpAny_newObj_type (wpAny_newFunctionEnv ok.nc (by intro y hy;simp at hy) (fun h4 hns hsb=> ?_) ok.kind)
 dsimp only at hns hsb ⊢
 have hD:H2 s2.heap.objs.size=none:=I2.hok.fresh (lJd _)
 generalize hs3:({s2 with heap:=s2.heap.push {cls:= .type "list",dict:=none,data:= .seq ([]:List Value).toArray} }:Shared)=s3
 have eh3:s2.heap.push {cls:= .type "list",dict:=none,data:= .seq ([]:List Value).toArray}=s3.heap:=by rw[<-hs3]
 have I3:Inv X pins σ (upd H2 s2.heap.objs.size (.lst [])) s3:=by
  rw[<-hs3]
  exact I2.laid (t':=s2.toks) (fun b u e=>Heap.get?_push_of_some _ e) (lJd _) ⟨lJn _,[],0,.nil,Heap.get?_push_size _ rfl⟩
 rw[eh3] at hns hsb ⊢
 generalize hDd:s2.heap.objs.size=D at *
 have e3:Ext H2 (upd H2 D (.lst [])):= .upd (.none hD)
 have hg3:GRel X.K (upd H2 D (.lst [])) (gup G2 D (.lst [])):=hg2.lstNew (show Reps X.K H2 [] [] from rfl) (.none hD)
 have obj2:∀b∈fp,∃o,s2.heap.get? b=some o:=fun b hb=>let ⟨o,e,_⟩:=T0.obj 0 _ st2 b hb;⟨o,e⟩
 have fD:∀b∈fp,b≠D:=fun b hb=>by obtain⟨o,e⟩:=obj2 b hb;rw[<-hDd];exact lJj (Heap.lt_size e)
 have f3:∀b∈fp,FpOk X pins (upd H2 D (.lst [])) b:=fun b hb=>⟨by rw[jKw (fD b hb)];exact (f2 b hb).1,(f2 b hb).2⟩
 have k3:∀b o,s2.heap.get? b=some o->s3.heap.get? b=some o:=fun b o e=>by rw[<-eh3];exact Heap.get?_push_of_some _ e
 have obj3:∀b∈fp,∃o,s3.heap.get? b=some o:=fun b hb=>let ⟨o,e⟩:=obj2 b hb;⟨o,k3 b o e⟩
 have k4:∀b o,s3.heap.get? b=some o->h4.get? b=some o:=fun b o e=>hsb.extBut b o (lJj (Heap.lt_size e)) (Heap.get?_push_of_some _ e)
 have Ic:Inv (jXb X scope cl s3.heap.objs.size fp s3 (upd H2 D (.lst []))) [] (msk mask σ) (upd H2 D (.lst [])) {s3 with heap:=h4,toks:=s3.toks+([]:List (Str×Value)).length}:=cmp_start ok I3 f3 obj3 hns k4
 have st4:tn 0 h4:=T0.keep _ _ _ st2 fun b _ o e=>k4 b o (k3 b o e)
 have hl3:mask.length=τ.length:=ok.len.trans (I3.len.symm.trans hs2.1)
 obtain⟨P,p0,hst,turn,fin⟩:=hq D (hg2.fresh hD)
 have fpc:∀ {H':Hp} {pl:List (Addr×Obj)},(∀b∈fp,H' b=none)->(∀p∈pl,p.1∉fp)->∀b∈fp,FpOk (jXb X scope cl s3.heap.objs.size fp s3 (upd H2 D (.lst []))) pl H' b:=fun {H' pl} hn hp b hb=>by
  obtain⟨o,e⟩:=obj3 b hb
  refine⟨hn b hb,lJj (Heap.lt_size e),?_,.inl hb,fun x d hd=>(f3 b hb).2.2.2.2.1 x d (kJ1 ok.cl (by simp) _ _ hd),fun p hpp z=> ?_⟩
  ·intro z
   rcases lJk.mp (I3.stkSub b z) with q | q
   ·exact (f3 b hb).2.1 q
   ·exact (f3 b hb).2.2.1 q
  ·have hpp':p∈pl:=by simpa[jXb] using hpp
   exact hp p hpp' (z▸hb)
 have loop:∀s4:Shared,s4={s3 with heap:=h4,toks:=s3.toks+([]:List (Str×Value)).length}->
   codeAny (model X.prog X.w) X.A (.compLoop (.ListComp elt [⟨tg,iter,ifs,0⟩] scope pos) 0 (.ref it) (.ref D) (compEnvC scope cl s3.heap.objs.size X.env)) (RR (.ref D) s3.heap.objs.size) s4:=by
  rintro s4 rfl
  refine compLoop3 (fun n s'=>∃i acc G' H',n=xs.length-i/\i<=xs.length/\Ext H2 H'/\Inv3 (jXb X scope cl s3.heap.objs.size fp s3 (upd H2 D (.lst []))) [] (msk mask τ) G' H' s'/\tn i s'.heap/\(∀b∈fp,H' b=none)/\P i acc G') ?_ xs.length
   ⟨0,[],_,_,rfl,lJn _,e3,⟨_,Ic,msk_rel (hs2.mono e3) hl3,hg3⟩,st4,fun b hb=>(f3 b hb).1,p0⟩
  rintro n s5 ⟨i,acc,G5,H5,en,hi5,e5,⟨σ5,I5,hs5,hg5⟩,st5,fr5,p5⟩
  obtain⟨hstay,hacc⟩:=hst i acc G5 hi5 p5
  obtain⟨go,stop,yl⟩:=IT i H5 G5 e5 hg5 hstay
  by_cases hlt:i<xs.length
  ·refine thn (T0.item (jXb X scope cl s3.heap.objs.size fp s3 (upd H2 D (.lst []))) rfl rfl rfl hc i [] s5 σ5 H5 (fun _ _=>False) I5 (fpc fr5 (by simp)) st5 (go hlt)) fun r s6 ⟨u,hr,h6⟩=> ?_
   subst hr
   refine thn h6 fun _ s7 ⟨x,H7,I7,r7,y7,st7,fr7⟩=> ?_
   obtain⟨e7,g7,t,ht,rt⟩:=yl hlt x H7 y7
   have I7':=I7.pinned (fpc fr7 (by simp)) (T0.obj _ _ st7)
   refine thn (hg _ _ _ _ ([]++jYq fp s7.heap) s7 (msk mask τ) G5 H7 t u _ ⟨σ5,I7',hs5.mono e7,g7⟩ ⟨x,rt,r7⟩ (hgk _ _ _ _ (turn i t acc G5 ht p5))) fun _ s8 ⟨τ8,G8,H8,e8,I8,q8,ql8,qk8⟩=> ?_
   refine thn (hif _ _ _ _ ([]++jYq fp s7.heap) s8 τ8 G8 H8 _ I8 q8) fun b s9 ⟨G9,H9,e9,I9,q9⟩=> ?_
   have back:∀ {Ga:Gp} {Ha:Hp} {sa:Shared} {acc':List T},Ext H7 Ha->Inv3 (jXb X scope cl s3.heap.objs.size fp s3 (upd H2 D (.lst []))) ([]++jYq fp s7.heap) τ8 Ga Ha sa->P (i+1) acc' Ga->
     ∃m,m<n/\∃i acc G' H',m=xs.length-i/\i<=xs.length/\Ext H2 H'/\Inv3 (jXb X scope cl s3.heap.objs.size fp s3 (upd H2 D (.lst []))) [] (msk mask τ) G' H' sa/\tn i sa.heap/\(∀b∈fp,H' b=none)/\P i acc G':=by
    rintro Ga Ha sa acc' ea ⟨σa,Ia,hsa,hga⟩ pa
    have e2a:Ext H5 Ha:=e7.trans ea
    have hla:mask.length=τ8.length:=by rw[ql8,jZz hl3];exact hl3
    have hsm:=msk_rel (mask:=mask) hsa hla
    rw[msk_same hl3 ql8 qk8] at hsm
    refine⟨xs.length-(i+1),by omega,i+1,acc',Ga,Ha,rfl,hlt,e5.trans e2a,⟨msk mask σa,(Ia.weak (jZz (hla.trans hsa.1.symm)) fun j v hv=>(msk_get hv).2).pins_of (fun p hp=>absurd hp (by simp)),hsm,hga⟩,?_,fun b hb=> ?_,pa⟩
    ·exact T0.keep _ _ _ st7 fun b hb o e=>(Ia.pin (b,o) (lJ2 _ (lJ2 _ (jYh hb e)))).1
    ·obtain⟨o,e,d⟩:=T0.obj _ _ st7 b hb
     exact (Ia.pin (b,o) (lJ2 _ (lJ2 _ (jYh hb e)))).2.1
   cases b with
   | false=>
    rw[if_neg lJe] at q9 ⊢
    exact back (e8.trans e9) I9 q9
   | true=>
    rw[if_pos rfl] at q9 ⊢
    refine thn (he _ _ _ _ ([]++jYq fp s7.heap) s9 τ8 G9 H9 _ I9 q9) fun y s10 w_=>w_.el fun ty G10 H10 e10 I10 r10 ⟨hD10,hz10,q10⟩=> ?_
    obtain⟨vy,rvy,ruy⟩:=r10
    refine thn (jK4 ([]++jYq fp s7.heap) s10 τ8 G10 H10 (.ref D) [ty] (.ref D) [y] (fun _ G'=>P (i+1) (acc++[ty]) G') I10 ⟨.ref D,rfl,rfl⟩ ⟨[vy],.one rvy,.cons ruy .nil⟩ ⟨D,acc,ty,rfl,rfl,hD10,hz10,q10⟩) fun _ s11 w_=>w_.el fun _ G11 H11 e11 I11 _ q11=> ?_
    exact back (((e8.trans e9).trans e10).trans e11) I11 q11
  ·have ei:i=xs.length:=by omega
   refine thn (T0.done (jXb X scope cl s3.heap.objs.size fp s3 (upd H2 D (.lst []))) rfl rfl rfl hc i [] s5 σ5 H5 (fun _ _=>False) I5 (fpc fr5 (by simp)) st5 (stop (by omega))) fun r s6 ⟨hr,I6⟩=> ?_
   subst hr;subst ei
   obtain⟨m,hn,_⟩:=I6.loc
   obtain⟨oC,es,ep,hoC,hdC,_⟩:=id hn
   refine hRR D s3.heap.objs.size s6 m hn ⟨G5,H5,eH.trans e5,I6.free,fin acc G5 p5,fun h' hb=>⟨σ,cmp_end I3 f3 (lJd _) I6 hb,hs2.mono e5,hg5⟩⟩
    ⟨oC,hoC,Nat.ne_of_gt I3.lt,I3.nofs (lJd _),fun v z=>by rw[hdC] at z;cases z⟩ (fun x d hd=> ?_) (fun p hp=> ?_) I3.sz
   ·obtain⟨v,q⟩:=I3.cell x d hd
    exact lJj q.lt
   ·exact lJj (Heap.lt_size (I3.pin p hp).1)
 exact codeAny_compStart_list (loop _ (by rw[<-hs3])) (T0.self _ 0 _ _ _ st4 (loop _ (by rw[<-hs3])))
theorem jU7 (hc:X.calm=true) (ok:CmpOk X scope cl mask) (hi:PI3 X tg iter wi) (hgk:GKeep mask g) (hg:∀C fp s H,PG3 (jXb X scope cl C fp s H) tg g) (hif:∀C fp s H,PIf3 (jXb X scope cl C fp s H) ifs tif) (he:∀C fp s H,PE3 (jXb X scope cl C fp s H) elt te)
  (hs:∀x,foldedSetIterable iter X.env x=pure x:=by intro _;rfl):PE3 X (.ListComp elt [⟨tg,iter,ifs,0⟩] scope pos) (jQ3 mask wi g tif te):=by
 intro pins s τ G H Q I h
 rw[eval_ListComp]
 refine wpAny_comprehension_free (use:=none) rfl hs (kUc ok.cl) ok.kind ok.nm (thn (hi pins s τ G H _ I h) fun xv s1 h1=>thn h1 fun itv s2 h2=> ?_)
 refine kUb (RR:=fun acc C=>compPost (model X.prog X.w) X.A X.xe none (EP3 X pins τ H Q) acc C) hc ok hgk hg hif he h2 ?_
 rintro D C s' m hn ⟨G1,H1,e1,_,q1,hI⟩ _ _ _ _
 exact⟨m,hn,fun h' hb=>⟨.ref D,G1,H1,e1,hI h' hb,⟨.ref D,rfl,rfl⟩,q1⟩⟩
theorem jYp {i:Nat} {y:Str} {py spos:Pos} (hc:X.calm=true) (hN:X.N.Nodup) (ok:CmpOk X scope cl mask) (hi:PI3 X tg iter wi) (hgk:GKeep mask g) (hg:∀C fp s H,PG3 (jXb X scope cl C fp s H) tg g) (hif:∀C fp s H,PIf3 (jXb X scope cl C fp s H) ifs tif) (he:∀C fp s H,PE3 (jXb X scope cl C fp s H) elt te)
  (hy:X.N[i]? =some y:=by rfl) (hx:X.env.scope.names.lookup y=some .local:=by rfl)
  (hsw:swapsWith (.ListComp elt [⟨tg,iter,ifs,0⟩] scope pos) (some (.Name y py)) spos.line X.env=pure true:=by rfl)
  (hs:∀x,foldedSetIterable iter X.env x=pure x:=by intro _;rfl):PS3 X (.Assign [.Name y py] (.ListComp elt [⟨tg,iter,ifs,0⟩] scope pos) spos) (tAsg (jQ3 mask wi g tif te) (jJj i)):=by
 intro pins s τ G H D I h
 rw[exec_Assign_Name_used _ _ _ _ hsw];refine wpAny_bind (wpAny_standAt (wpAny_bind ?_))
 show wpAny _ X.A (do let _ <-comprehension (.ListComp elt [⟨tg,iter,ifs,0⟩] scope pos) scope X.env _ (newList []) false (eval iter X.env) (some (assign (.Name y py) X.env))) _ _ s
 refine wpAny_bind (wpAny_mono (wpAny_comprehension_free (use:=some (assign (.Name y py) X.env)) (Q:=fun _ s'=>SP3 X pins H D .next s') rfl hs (kUc ok.cl) ok.kind ok.nm
  (thn (hi pins s τ G H _ I h) fun xv s1 h1=>thn h1 fun itv s2 h2=> ?_)) (fun _ s' hq=>wpAny_pure (wpAny_pure hq)) fun _ _ e=>e)
 refine kUb (RR:=fun acc C=>compPost (model X.prog X.w) X.A X.xe (some (assign (.Name y py) X.env)) (fun _ s'=>SP3 X pins H D .next s') acc C) hc ok hgk hg hif he h2 ?_
 rintro Dd C s' m hn ⟨G1,H1,e1,hH1C,q1,hI⟩ ⟨oC,hoC,c1,c2,c3⟩ c4 c5 c6
 show wpAny _ X.A (assign (.Name y py) X.env (.ref Dd)) _ _ _
 obtain⟨σ1,I1,hs1,hg1⟩:=hI s'.heap (.refl ..)
 have I1':Inv X (pins++[(C,oC)]) σ1 H1 s':=I1.pins_of fun p hp=>(lJu.mp hp).elim (fun z=>I1.pin p (lJ2 _ z)) fun z=>by
  obtain rfl:p=(C,oC):=by simpa using z
  exact⟨hoC,hH1C,c1,c2,c3⟩
 refine wpAny_assign_Name (jVl I1' hN hy (.inl hx) (v:= .ref Dd) rfl (fun s2 I2=> ?_) (.inr hx))
 have hC2:s2.heap.get? C=some oC:=(I2.pin (C,oC) (lJ2 _ (lJ2 _ (by simp)))).1
 obtain⟨oC',es,ep,hoC',r⟩:=hn
 have eo:oC'=oC:=by rw[hoC] at hoC';exact (lJ0 hoC').symm
 subst eo
 refine⟨m,⟨oC',es,ep,hC2,r⟩,fun h' hb=>⟨_,G1,H1,e1,⟨_,?_,hs1.set i (show Rep X.K H1 (.ref Dd) (.ref Dd) from rfl),hg1⟩,q1⟩⟩
 exact I2.unpinned.turned (t':=s2.toks) (fun b o hb' e=>(hb.2 b hb').trans e) hH1C c1 (.inr c6) c4 c5
end
end L3
namespace HT
open PySem PyProof.Rows
noncomputable def lexLe:(xs ys:List Int)->Bool
 | [],_=>true
 | _::_,[]=>false
 | x::xs,y::ys=>if x=y then lexLe xs ys else decide (x<=y)
theorem lexLe_cons (x y:Int) (xs ys:List Int):lexLe (x::xs) (y::ys)=if x=y then lexLe xs ys else decide (x<=y):=rfl
theorem lexLe_nil (ys:List Int):lexLe [] ys=true:=by cases ys<;>rfl
theorem kQr (x:Int) (xs:List Int):lexLe (x::xs) []=false:=rfl
theorem rcLe_int (A:Around) (s:Shared) (a:Int) (t:Tok) (c:Int) (u:Tok) (prog:Program) (w:World) (E:Value->Shared->Prop) (Q:Value->Shared->Prop) (h:Q (.bool (decide (a<=c))) s):
  wpAny (model prog w) A (richCompare .LtE (.int a t) (.int c u)) Q E s:=
 (PyProof.Rows.le_int h:wpAny (model prog w) A (compareOp .LtE (.int a t) (.int c u)) Q E s)
section
open PySem.SeqAt
open PySem.AutoSeq1 (wpAny_loadPart')
open PySem.MeetsSeq PySem.MeetsSeq2 PySem.MeetsSeq3
theorem kUj (l b:Addr) (items items2:Array Value) (n n2:Nat) (dd dd2:Option Addr) (sl sl2:Array (Option Value)) (ns ms:List Int) (hi:IntsAre items.toList ns) (hj:IntsAre items2.toList ms):
  Meets (Builtin.«tuple.__le__» ⟨[.ref l,.ref b],[]⟩)
   (fun _ R s=>s.heap.get? l=some {cls:= .type "tuple",dict:=dd,data:= .seq items n,slots:=sl}/\s.heap.get? b=some {cls:= .type "tuple",dict:=dd2,data:= .seq items2 n2,slots:=sl2}/\
    R (.ok (.ret (.bool (lexLe ns ms)))) s):=
 .of_wp fun prog w A R s h=>by
  obtain⟨hp,g,d,tk,os⟩:=s;obtain⟨hl,hb,h⟩:=h
  have f2:=AutoSeq1.sub_tuple_tuple
  have z1:items.size=ns.length:=by rw[<-hi.length];simp
  have z2:items2.size=ms.length:=by rw[<-hj.length];simp
  wp_walk using wpAny_loadPart' hl,wpAny_loadPart' hb,wpAny_forIn_list _ (fun rest b s'=>b.1=none/\s'=⟨hp,g,d,tk,os⟩/\∃(vs ws:List Value) (ns' ms':List Int),rest=vs.zip ws/\
   IntsAre vs ns'/\IntsAre ws ms'/\ns'.length+items2.size=ms'.length+items.size/\R (.ok (.ret (.bool (lexLe ns' ms')))) ⟨hp,g,d,tk,os⟩) _
  case turn=>
   rintro⟨y,x⟩ rest b s' ⟨hb',rfl,vs,ws,ns',ms',hz,hvi,hwi,hlen,hR⟩
   cases hvi with
   | nil=>rw[List.zip_nil_left] at hz;cases hz
   | cons a t hvi'=>
    cases hwi with
    | nil=>rw[List.zip_nil_right] at hz;cases hz
    | cons c u hwi'=>
     rw[List.zip_cons_cons] at hz
     injection hz with hyx hrest
     injection hyx with hy hx
     subst hy hx
     rw[lexLe_cons] at hR
     simp only[lJz] at hlen
     obtain⟨e,he,hiff⟩:=eqAt_int A.in1 ⟨hp,g,d,tk,os⟩ a t c u
     refine wpAny_bind (he prog w _ _ ?_)
     cases e with
     | true=>
      rw[if_pos (hiff.mp rfl)] at hR
      wp_walk
      exact⟨rfl,rfl,_,_,_,_,hrest,hvi',hwi',by omega,hR⟩
     | false=>
      rw[if_neg (fun q=>absurd (hiff.mpr q) lJe)] at hR
      have hri:=rcLe_int A.in1 ⟨hp,g,d,tk,os⟩ a t c u prog w
      wp_walk using hri
      exact⟨_,rfl,by simpa using hR⟩
  case fin=>
   rintro⟨b1,b2⟩ s' ⟨hb',rfl,vs,ws,ns',ms',hz,hvi,hwi,hlen,hR⟩
   simp only at hb'
   subst hb'
   have hv:lexLe ns' ms'=decide (items.size<=items2.size):=by
    cases hvi with
    | nil=>
     simp only[List.length_nil] at hlen
     rw[lexLe_nil]
     exact (decide_eq_true (by omega)).symm
    | cons a t hv=>
     cases hwi with
     | nil=>
      simp only[List.length_nil,lJz] at hlen
      rw[kQr]
      exact (decide_eq_false (by omega)).symm
     | cons c u hw=>
      rw[List.zip_cons_cons] at hz
      cases hz
   rw[hv] at hR
   wp_walk
   exact⟨_,rfl,by simpa[Builtin.Tuple.tupleCompareSizes] using hR⟩
  case h=>
   exact⟨rfl,rfl,items.toList,items2.toList,ns,ms,rfl,hi,hj,by omega,h⟩
end
theorem le_tupInts {prog:Program} {w:World} {A:Around} {E:Value->Shared->Prop} {s:Shared} {l b:Addr} {items items2:Array Value} {ns ms:List Int} {Q:Value->Shared->Prop} (hl:IsTup s.heap l items) (hb:IsTup s.heap b items2) (hi:IntsAre items.toList ns) (hj:IntsAre items2.toList ms)
  (hu:A.units<cLine) (h:Q (.bool (lexLe ns ms)) s):wpAny (model prog w) A (compareOp .LtE (.ref l) (.ref b)) Q E s:=by
 obtain⟨⟨cls,dd,data,sl⟩,ho,hc,n,hd⟩:=id hl
 obtain⟨⟨cls2,dd2,data2,sl2⟩,ho2,hc2,n2,hd2⟩:=id hb
 simp only at hc hd hc2 hd2
 subst hc hd hc2 hd2
 exact richCompare_meets_room (op:= .LtE) ⟨_,ho,rfl⟩ ⟨_,ho2,rfl⟩ PySem.F.slot_tuple_le PySem.F.entry_tuple_le (PySem.F.args_tuple_le_2 _ _) (kUj l b items items2 n n2 dd dd2 sl sl2 ns ms hi hj)
  ⟨ho,ho2,show Value.bool (lexLe ns ms)≠Value.notImplemented/\Q (.bool (lexLe ns ms)) s from⟨(fun x=>nomatch x),h⟩⟩ hu
end HT
namespace L3
open PySem PySem.Spec PyProof.Rows L2
section
variable {X:Cx}
theorem jVh {K:PySem.W.Frag} {H:Hp}:∀ {ns:List Int} {vs:List V},Reps K H (ns.map T.int) vs->vs=ns.map V.int
 | [],_,h=>h
 | n::ns,_,⟨v,ws,e,r,rs⟩=>by
  subst e;cases (show v= .int n from r)
  rw[jVh rs];rfl
noncomputable def rLeT:R3:=fun x y G Q=>∃ns ms,x= .tup (ns.map T.int)/\y= .tup (ms.map T.int)/\Q (.bl (HT.lexLe ns ms)) G
theorem o_leT (hu:X.A.units<cLine):Op3 X (compareOp .LtE) rLeT:=by
 rintro pins s τ G H x y v u Q ⟨σ,I,hs,hg⟩ ⟨a,ra,rv⟩ ⟨b,rb,ru⟩ ⟨ns,ms,ex,ey,q⟩
 subst ex;subst ey
 obtain⟨p,vs,e1,h1,h2⟩:=(show ∃p vs,a= .ref p/\H p=some (.tup vs)/\Reps X.K H (ns.map T.int) vs from ra)
 obtain⟨p',ws,e2,h3,h4⟩:=(show ∃p vs,b= .ref p/\H p=some (.tup vs)/\Reps X.K H (ms.map T.int) vs from rb)
 subst e1;subst e2
 cases rv;cases ru
 rw[jVh h2] at h1
 rw[jVh h4] at h3
 obtain⟨its,r1,p1,_⟩:=I.tuple (.of h1)
 obtain⟨its2,r2,p2,_⟩:=I.tuple (.of h3)
 exact HT.le_tupInts p1 p2 (show IntsAre its.toArray.toList ns from kQ5 r1) (show IntsAre its2.toArray.toList ms from kQ5 r2) hu ⟨.bl _,G,H,.refl H,⟨σ,I,hs,hg⟩,⟨.bl _,rfl,rfl⟩,q⟩
noncomputable def rLeI:R3:=rI0 fun i j=> .bl (decide (i<=j))
noncomputable def rLeA:R3:=fun x y G Q=>rLeI x y G Q\/rLeT x y G Q
theorem o_leA (hu:X.A.units+20<cLine):Op3 X (compareOp .LtE) rLeA:=o_le.or (o_leT (by omega))
theorem eqG_cases {G:Gp} {x y:T} {b:Bool} (h:eqG G x y=some b):
  (∃p q xs ys,x= .ref p/\y= .ref q/\G p=some (.lst xs)/\G q=some (.lst ys)/\kVr xs=true/\kVr ys=true/\b=eqTs xs ys)\/(eqOk x=true/\eqOk y=true/\b=eqT x y):=by
 by_cases hr:∃p q,x= .ref p/\y= .ref q
 ·obtain⟨p,q,ex,ey⟩:=hr
  subst ex;subst ey
  refine .inl ?_
  simp only[eqG] at h
  split at h
  ·rename_i xs ys h1 h2
   split at h
   ·rename_i hc
    cases h
    exact⟨p,q,xs,ys,rfl,rfl,h1,h2,hc.1,hc.2,rfl⟩
   ·cases h
  ·cases h
 ·refine .inr ?_
  have e:eqG G x y=if eqOk x=true/\eqOk y=true then some (eqT x y) else none:=by
   cases x with
   | ref p=>cases y with
    | ref q=>exact absurd ⟨p,q,rfl,rfl⟩ hr
    | _=>rfl
   | _=>rfl
  rw[e] at h
  split at h
  ·rename_i hc
   cases h
   exact⟨hc.1,hc.2,rfl⟩
  ·cases h
mutual
theorem reads_T {X:Cx} {pins:List (Addr×Obj)} {σ:L2.St} {H:Hp} {s:Shared} (I:Inv X pins σ H s):∀(x:T) {a:V} {u:Value},tree x=true->Rep X.K H x a->RelV a u->∃as,Reads s.heap u (td x) as
 | .non,a,u,_,r,q=>by cases (show a= .non from r);cases q;exact⟨_,.none⟩
 | .bl b,a,u,_,r,q=>by cases (show a= .bl b from r);cases q;exact⟨_,.bool b⟩
 | .int b,a,u,_,r,q=>by cases (show a= .int b from r);obtain⟨t,rfl⟩:=q;exact⟨_,.int b t⟩
 | .str b,a,u,_,r,q=>by cases (show a= .str b from r);obtain⟨t,rfl⟩:=q;exact⟨_,.str b t⟩
 | .tup xs,a,u,ht,r,q=>by
  obtain⟨p,vs,e1,h1,h2⟩:=(show ∃p vs,a= .ref p/\H p=some (.tup vs)/\Reps X.K H xs vs from r)
  subst e1;cases q
  obtain⟨its,rv,⟨o,ho,hc,n,hd⟩,_⟩:=I.tuple (.of h1)
  obtain⟨as,ra⟩:=kJp I xs (show jUf xs=true from ht) h2 rv
  exact⟨_,.tuple ho hc hd (by simpa using ra)⟩
 | .ref _,_,_,ht,_,_=>absurd (show false=true from ht) lJe
 | .scr _,_,_,ht,_,_=>absurd (show false=true from ht) lJe
 | .ty _,_,_,ht,_,_=>absurd (show false=true from ht) lJe
theorem kJp {X:Cx} {pins:List (Addr×Obj)} {σ:L2.St} {H:Hp} {s:Shared} (I:Inv X pins σ H s):∀(xs:List T) {vs:List V} {us:List Value},jUf xs=true->Reps X.K H xs vs->Vals vs us->∃as,ReadsAll s.heap us (tds xs) as
 | [],_,_,_,r,q=>by cases r;cases q;exact⟨_,.nil⟩
 | x::xs,_,_,ht,⟨v,ws,e,r1,r2⟩,q=>by
  subst e
  cases q with
  | cons q1 q2=>
   have hx:tree x=true/\jUf xs=true:=by simpa[jUf] using ht
   obtain⟨as,ra⟩:=reads_T I x hx.1 r1 q1
   obtain⟨bs,rb⟩:=kJp I xs hx.2 r2 q2
   exact⟨_,.cons ra rb⟩
end
mutual
theorem eqv_T:∀(x y:T),tree x=true->tree y=true->PyData.eqv (td x) (td y)=eqT x y
 | .non,y,_,hy=>by cases y<;>first | rfl | exact absurd (show false=true from hy) lJe
 | .bl b,y,_,hy=>by cases y<;>first | rfl | exact absurd (show false=true from hy) lJe
 | .int b,y,_,hy=>by cases y<;>first | rfl | exact absurd (show false=true from hy) lJe
 | .str b,y,_,hy=>by cases y<;>first | rfl | exact absurd (show false=true from hy) lJe
 | .tup xs,y,hx,hy=>by
  cases y with
  | tup ys=>exact eqv_Ts xs ys (show jUf xs=true from hx) (show jUf ys=true from hy)
  | _=>first | rfl | exact absurd (show false=true from hy) lJe
 | .ref _,_,ht,_=>absurd (show false=true from ht) lJe
 | .scr _,_,ht,_=>absurd (show false=true from ht) lJe
 | .ty _,_,ht,_=>absurd (show false=true from ht) lJe
theorem eqv_Ts:∀(xs ys:List T),jUf xs=true->jUf ys=true->PyData.eqvAll (tds xs) (tds ys)=eqTs xs ys
 | [],[],_,_=>rfl
 | [],_::_,_,_=>rfl
 | _::_,[],_,_=>rfl
 | x::xs,y::ys,hx,hy=>by
  have hx':tree x=true/\jUf xs=true:=by simpa[jUf] using hx
  have hy':tree y=true/\jUf ys=true:=by simpa[jUf] using hy
  show (PyData.eqv (td x) (td y)&&PyData.eqvAll (tds xs) (tds ys))=(eqT x y&&eqTs xs ys)
  rw[eqv_T x y hx'.1 hy'.1,eqv_Ts xs ys hx'.2 hy'.2]
end
theorem eq_reads {pins:List (Addr×Obj)} {σ:L2.St} {H:Hp} {s:Shared} {G:Gp} {x y:T} {a b:V} {u v:Value} {k:Bool} (I:Inv X pins σ H s) (hg:GRel X.K H G) (ra:Rep X.K H x a) (rb:Rep X.K H y b) (ru:RelV a u) (rv:RelV b v) (h:eqG G x y=some k):
  ∃da db as bs,Reads s.heap u da as/\Reads s.heap v db bs/\da.canLay0=true/\db.canLay0=true/\da.depth<=50/\PyData.eqv da db=k:=by
 rcases eqG_cases h with ⟨p,q,xs,ys,ex,ey,hp,hq,ox,oy,e⟩ | ⟨ox,oy,e⟩
 ·subst ex;subst ey
  cases (show a= .ref p from ra);cases (show b= .ref q from rb)
  cases ru;cases rv
  obtain⟨vs,h1,h2⟩:=hg.lst hp
  obtain⟨ws,h3,h4⟩:=hg.lst hq
  obtain⟨its,r1,⟨o,n,ho,hc,_,hd⟩,_⟩:=I.list (.of h1)
  obtain⟨its',r2,⟨o',n',ho',hc',_,hd'⟩,_⟩:=I.list (.of h3)
  simp only[kVr,lJ3,decide_eq_true_eq] at ox oy
  obtain⟨as,r3⟩:=kJp I xs ox.1.1 h2 r1
  obtain⟨bs,r4⟩:=kJp I ys oy.1.1 h4 r2
  exact⟨.list (tds xs),.list (tds ys),_,_,.list ho hc hd (by simpa using r3),.list ho' hc' hd' (by simpa using r4),ox.1.2,oy.1.2,ox.2,by rw[e];exact eqv_Ts xs ys ox.1.1 oy.1.1⟩
 ·simp only[eqOk,lJ3,decide_eq_true_eq] at ox oy
  obtain⟨as,r3⟩:=reads_T I x ox.1.1 ra ru
  obtain⟨bs,r4⟩:=reads_T I y oy.1.1 rb rv
  exact⟨td x,td y,_,_,r3,r4,ox.1.2,oy.1.2,ox.2,by rw[e];exact eqv_T x y ox.1.1 oy.1.1⟩
theorem jZd (hu:X.A.units+64<cLine):Op3 X (compareOp .Eq) rEqA:=by
 rintro pins s τ G H x y v u Q ⟨σ,I,hs,hg⟩ ⟨a,ra,rv⟩ ⟨b,rb,ru⟩ ⟨k,hk,q⟩
 obtain⟨da,db,as,bs,r1,r2,c1,c2,d,e⟩:=eq_reads I hg ra rb rv ru hk
 exact SeqAt.compareEq_reads r1 r2 c1 c2 (by omega) ⟨.bl k,G,H,.refl H,⟨σ,I,hs,hg⟩,⟨.bl k,rfl,by rw[e];rfl⟩,q⟩
theorem o_neA (hu:X.A.units+64<cLine):Op3 X (compareOp .NotEq) rNeA:=by
 rintro pins s τ G H x y v u Q ⟨σ,I,hs,hg⟩ ⟨a,ra,rv⟩ ⟨b,rb,ru⟩ ⟨k,hk,q⟩
 obtain⟨da,db,as,bs,r1,r2,c1,c2,d,e⟩:=eq_reads I hg ra rb rv ru hk
 exact SeqAt.compareNe_reads r1 r2 c1 c2 (by omega) ⟨.bl (!k),G,H,.refl H,⟨σ,I,hs,hg⟩,⟨.bl (!k),rfl,by rw[e];rfl⟩,q⟩
end
section
variable {X:Cx}
noncomputable def jZl:T->Bool
 | .non=>true
 | .bl _=>true
 | .int _=>true
 | .str _=>true
 | _=>false
theorem kJz {K:PySem.W.Frag} {H:Hp} {x:T} {a:V} (r:Rep K H x a) (f:jZl x=true):kQs a=true:=by
 cases x with
 | non=>cases (show a= .non from r);rfl
 | bl _=>cases (show a= .bl _ from r);rfl
 | int _=>cases (show a= .int _ from r);rfl
 | str _=>cases (show a= .str _ from r);rfl
 | _=>exact absurd (show false=true from f) lJe
theorem flat_eq {K:PySem.W.Frag} {H:Hp} {x y:T} {a b:V} (r:Rep K H x a) (q:Rep K H y b) (f:jZl x=true) (g:jZl y=true):eqV a b=eqT x y:=by
 cases x with
 | non=>cases (show a= .non from r);cases y with
  | non=>cases (show b= .non from q);rfl
  | bl _=>cases (show b= .bl _ from q);rfl
  | int _=>cases (show b= .int _ from q);rfl
  | str _=>cases (show b= .str _ from q);rfl
  | _=>exact absurd (show false=true from g) lJe
 | bl _=>cases (show a= .bl _ from r);cases y with
  | non=>cases (show b= .non from q);rfl
  | bl _=>cases (show b= .bl _ from q);rfl
  | int _=>cases (show b= .int _ from q);rfl
  | str _=>cases (show b= .str _ from q);rfl
  | _=>exact absurd (show false=true from g) lJe
 | int _=>cases (show a= .int _ from r);cases y with
  | non=>cases (show b= .non from q);rfl
  | bl _=>cases (show b= .bl _ from q);rfl
  | int _=>cases (show b= .int _ from q);rfl
  | str _=>cases (show b= .str _ from q);rfl
  | _=>exact absurd (show false=true from g) lJe
 | str _=>cases (show a= .str _ from r);cases y with
  | non=>cases (show b= .non from q);rfl
  | bl _=>cases (show b= .bl _ from q);rfl
  | int _=>cases (show b= .int _ from q);rfl
  | str _=>cases (show b= .str _ from q);rfl
  | _=>exact absurd (show false=true from g) lJe
 | _=>exact absurd (show false=true from f) lJe
noncomputable def inT (x:T) (xs:List T):Bool:=xs.any fun y=>eqT y x
theorem kVp {K:PySem.W.Frag} {H:Hp} {x:T} {a:V} (r:Rep K H x a) (f:jZl x=true):∀ {xs:List T} {vs:List V},Reps K H xs vs->xs.all jZl=true->vs.all kQs=true/\inV a vs=inT x xs
 | [],_,h,_=>by cases h;exact⟨rfl,rfl⟩
 | y::ys,_,⟨v,ws,e,r1,r2⟩,g=>by
  subst e
  rw[lKp,lJ3] at g
  obtain⟨h1,h2⟩:=kVp r f r2 g.2
  refine⟨by rw[lKp,kJz r1 g.1,h1];rfl,?_⟩
  unfold inV inT at h2 ⊢
  rw[lKi,lKi,flat_eq r1 r g.1 f,h2]
noncomputable def rInF (neg:Bool):R3:=fun x y G Q=>∃xs,seqT G y=some xs/\jZl x=true/\xs.all jZl=true/\Q (.bl (if neg then !inT x xs else inT x xs)) G
theorem in_lift {neg:Bool} {op:CmpOp} (h:OpR X (compareOp op) (L2.rIn X.K neg)):Op3 X (compareOp op) (rInF neg):=
 Op3.of h fun H G x y a b Q hg ra rb ⟨xs,hx,fx,fs,q⟩=>by
  obtain⟨p,vs,e,hq,r⟩:=jVz hg rb hx
  obtain⟨h1,h2⟩:=kVp ra fx r fs
  exact⟨p,vs,e,hq,kJz ra fx,h1,.bl _,G,.refl H,hg,by rw[h2];rfl,q⟩
theorem o_inF:Op3 X (compareOp .In) (rInF false):=in_lift op_in_seq
theorem o_notInF:Op3 X (compareOp .NotIn) (rInF true):=in_lift op_notIn_seq
noncomputable def keyOf:T->Option Key
 | .int i=>some (.inl i)
 | .str x=>some (.inr x)
 | _=>none
noncomputable def allK {K:Type} (f:T->Option K):List T->Option (List K)
 | []=>some []
 | x::xs=>match f x,allK f xs with
  | some k,some ks=>some (k::ks)
  | _,_=>none
noncomputable def key1:T->Option K1
 | .tup ts=>(allK keyOf ts).map .inr
 | x=>(keyOf x).map .inl
noncomputable def key2:T->Option K2
 | .tup ts=>(allK key1 ts).map .inr
 | x=>(keyOf x).map .inl
noncomputable def jXa:List T->Option TKey:=allK key2
theorem kKk {K:PySem.W.Frag} {H:Hp} {x:T} {a:V} {k:Key} (h:keyOf x=some k) (r:Rep K H x a):a=kV k:=by
 cases x with
 | int i=>cases h;exact r
 | str i=>cases h;exact r
 | non=>cases h
 | bl _=>cases h
 | tup _=>cases h
 | scr _=>cases h
 | ref _=>cases h
 | ty _=>cases h
theorem kJ3 {K:PySem.W.Frag} {H:Hp} {κ:Type} {f:T->Option κ} {R:κ->V->Prop} (hf:∀x k a,f x=some k->Rep K H x a->R k a):∀ {xs:List T} {vs:List V} {ks:List κ},allK f xs=some ks->Reps K H xs vs->Paired R ks vs
 | [],_,_,h,r=>by cases h;cases (show _=[] from r);exact .nil
 | x::xs,_,ks,h,⟨v,ws,e,r1,r2⟩=>by
  subst e
  unfold allK at h
  cases e1:f x with
  | none=>rw[e1] at h;cases h
  | some k=>
   cases e2:allK f xs with
   | none=>rw[e1,e2] at h;cases h
   | some ks'=>
    rw[e1,e2] at h;cases h
    exact .cons (hf _ _ _ e1 r1) (kJ3 hf e2 r2)
theorem key1_rep {K:PySem.W.Frag} {H:Hp} (x:T) (k:K1) (a:V) (h:key1 x=some k) (r:Rep K H x a):Rk1 H k a:=by
 cases x with
 | tup ts=>
  obtain⟨ks,h1,rfl⟩:=lKf.mp (show (allK keyOf ts).map Sum.inr=some k from h)
  obtain⟨p,vs,e,h3,h4⟩:=(show ∃p vs,a= .ref p/\H p=some (.tup vs)/\Reps K H ts vs from r)
  exact⟨p,vs,e,h3,kJ3 (fun x k a h r=>kKk h r) h1 h4⟩
 | int i=>cases h;exact r
 | str i=>cases h;exact r
 | non=>cases h
 | bl _=>cases h
 | scr _=>cases h
 | ref _=>cases h
 | ty _=>cases h
theorem key2_rep {K:PySem.W.Frag} {H:Hp} (x:T) (k:K2) (a:V) (h:key2 x=some k) (r:Rep K H x a):Rk2 H k a:=by
 cases x with
 | tup ts=>
  obtain⟨ks,h1,rfl⟩:=lKf.mp (show (allK key1 ts).map Sum.inr=some k from h)
  obtain⟨p,vs,e,h3,h4⟩:=(show ∃p vs,a= .ref p/\H p=some (.tup vs)/\Reps K H ts vs from r)
  exact⟨p,vs,e,h3,kJ3 key1_rep h1 h4⟩
 | int i=>cases h;exact r
 | str i=>cases h;exact r
 | non=>cases h
 | bl _=>cases h
 | scr _=>cases h
 | ref _=>cases h
 | ty _=>cases h
theorem jV9 {K:PySem.W.Frag} {H:Hp} {xs:List T} {vs:List V} {ks:TKey} {p:Addr} (h:jXa xs=some ks) (e:H p=some (.tup vs)) (r:Reps K H xs vs):TKeyAt H ks p:=⟨vs,e,kJ3 key2_rep h r⟩
noncomputable def valT {κ:Type} [DecidableEq κ] (kvs:List (κ×T)) (k:κ):Option T:=(kvs.find? fun kv=>decide (kv.1=k)).map (·.2)
noncomputable def putT {κ:Type} [DecidableEq κ] (kvs:List (κ×T)) (k:κ) (v:T):List (κ×T):=
 if (kvs.any fun kv=>decide (kv.1=k))=true then kvs.map (fun kv=>if kv.1=k then (kv.1,v) else kv) else kvs++[(k,v)]
theorem PKV.val {κ:Type} [DecidableEq κ] {K:PySem.W.Frag} {H:Hp} {kvs:List (κ×T)} {ws:List (κ×V)} (r:PKV K H kvs ws) (k:κ):(∀t,valT kvs k=some t->∃v,valV ws k=some v/\Rep K H t v)/\(valT kvs k).isSome=(valV ws k).isSome:=by
 unfold PKV at r
 induction r with
 | nil=>exact⟨fun t h=>by simp[valT] at h,rfl⟩
 | @cons p q ps qs h t ih=>
  by_cases e:p.1=k
  ·have e':q.1=k:=h.1.symm.trans e
   have b:valT (p::ps) k=some p.2:=by simp[valT,lKe,e]
   rw[b,kJn e']
   exact⟨fun t ht=>by cases ht;exact⟨q.2,rfl,h.2⟩,rfl⟩
  ·have e':¬ q.1=k:=fun z=>e (h.1.trans z)
   have b:valT (p::ps) k=valT ps k:=by simp[valT,lKe,e]
   rw[b,kJo e']
   exact ih
theorem PKV.any {κ:Type} [DecidableEq κ] {K:PySem.W.Frag} {H:Hp} {kvs:List (κ×T)} {ws:List (κ×V)} (r:PKV K H kvs ws) (k:κ):(kvs.any fun kv=>decide (kv.1=k))=ws.any fun kv=>decide (kv.1=k):=by
 unfold PKV at r
 induction r with
 | nil=>rfl
 | cons h t ih=>rw[lKi,lKi,ih,h.1]
theorem PKV.put {κ:Type} [DecidableEq κ] {K:PySem.W.Frag} {H:Hp} {kvs:List (κ×T)} {ws:List (κ×V)} (r:PKV K H kvs ws) (k:κ) {t:T} {v:V} (rt:Rep K H t v):PKV K H (putT kvs k t) (putK ws k v):=by
 unfold putT putK
 rw[r.any k]
 by_cases e:(ws.any fun kv=>decide (kv.1=k))=true
 ·rw[if_pos e,if_pos e]
  unfold PKV at r ⊢
  clear e
  induction r with
  | nil=>exact .nil
  | @cons p q ps qs h t' ih=>
   rw[lJ4,lJ4]
   refine .cons ?_ ih
   obtain⟨h1,h2⟩:=h
   by_cases e:p.1=k
   ·rw[if_pos e,if_pos (h1.symm.trans e)];exact⟨h1,rt⟩
   ·rw[if_neg e,if_neg (fun z=>e (h1.trans z))];exact⟨h1,h2⟩
 ·rw[if_neg e,if_neg e];exact Paired.snoc r ⟨rfl,rt⟩
theorem PKV.length {κ:Type} {K:PySem.W.Frag} {H:Hp} {kvs:List (κ×T)} {ws:List (κ×V)} (r:PKV K H kvs ws):kvs.length=ws.length:=Paired.length r
noncomputable def dAt (G:Gp) (x y:T):Option (Option T):=match x with
 | .ref p=>match G p with
  | some (.dct kvs)=>match y with
   | .tup ys=>match jXa ys with
    | some ks=>some (valT kvs ks)
    | none=>none
   | _=>none
  | some (.dck kvs)=>match keyOf y with
   | some k=>some (valT kvs k)
   | none=>none
  | some (.fdc kvs)=>match y with
   | .tup ys=>match jXa ys with
    | some ks=>some (valT kvs ks)
    | none=>none
   | _=>none
  | _=>none
 | _=>none
theorem dAt_get {K:PySem.W.Frag} {H:Hp} {G:Gp} {x y:T} {a b:V} {o:Option T} (hg:GRel K H G) (ra:Rep K H x a) (rb:Rep K H y b) (h:dAt G x y=some o):
  ∃p ov,a= .ref p/\DGet H p b ov/\o.isSome=ov.isSome/\∀t,o=some t->∃v,ov=some v/\Rep K H t v:=by
 unfold dAt at h
 split at h
 ·rename_i p
  cases (show a= .ref p from ra)
  split at h
  ·rename_i kvs hG
   split at h
   ·rename_i ys
    split at h
    ·rename_i ks hk
     cases h
     obtain⟨ws,h1,h2⟩:=hg p _ hG
     obtain⟨q,vs,e,h3,h4⟩:=(show ∃q vs,b= .ref q/\H q=some (.tup vs)/\Reps K H ys vs from rb)
     subst e
     exact⟨p,_,rfl,DGet.t h1 (jV9 hk h3 h4),(h2.val ks).2,(h2.val ks).1⟩
    ·cases h
   ·cases h
  ·rename_i kvs hG
   split at h
   ·rename_i k hk
    cases h
    obtain⟨ws,h1,h2⟩:=hg p _ hG
    rw[kKk hk rb]
    exact⟨p,_,rfl,DGet.k h1,(h2.val k).2,(h2.val k).1⟩
   ·cases h
  ·rename_i kvs hG
   split at h
   ·rename_i ys
    split at h
    ·rename_i ks hk
     cases h
     obtain⟨ob,ws,h1,h2⟩:=(show ∃ob ws,H p=some (.frz ob (.dT ws))/\PKV K H kvs ws from hg p _ hG)
     obtain⟨q,vs,e,h3,h4⟩:=(show ∃q vs,b= .ref q/\H q=some (.tup vs)/\Reps K H ys vs from rb)
     subst e
     exact⟨p,_,rfl,.inr ⟨ws,ks,q,.inr ⟨ob,h1⟩,rfl,jV9 hk h3 h4,rfl⟩,(h2.val ks).2,(h2.val ks).1⟩
    ·cases h
   ·cases h
  ·cases h
 ·cases h
noncomputable def rDGet:R3:=fun x y G Q=>∃t,dAt G x y=some (some t)/\Q t G
theorem ix_dict (hu:X.A.units+20<cLine):Ix3 X rDGet:=by
 rintro value slice pins s τ G H x y v u Q ⟨σ,I,hs,hg⟩ ⟨a,ra,rv⟩ ⟨b,rb,ru⟩ ⟨t,hd,q⟩ hsl
 obtain⟨p,ov,e,g,_,hh⟩:=dAt_get hg ra rb hd
 obtain⟨w,ew,rw'⟩:=hh t rfl
 subst e;subst ew
 cases rv
 have hT:s.TypeIs (.ref p) "dict":=dict_typeIs I g
 unfold subscriptTail
 refine wpAny_bind ?_
 rw[getitemInPython_of_ne hT.not_modules]
 refine wpAny_bind (wpAny_specialOf hT PySem.F.slot_dict_getitem.lookup ?_)
 have fin:wpAny (model X.prog X.w) X.A (subscripted slice false (.ref p) u) (fun r s₃=>wpAny (model X.prog X.w) X.A (letTemporaryGo value (.ref p) r >>= fun _=>pure r) (EP3 X pins τ H Q) X.xe s₃) X.xe s:=by
  rw[hsl]
  exact wpAny_operating (d_getItem hu I g ru fun w' s' I' r'=>wpAny_bind (wpAny_letTemporaryGo (wpAny_pure ⟨t,G,H,.refl H,⟨σ,I',hs,hg⟩,⟨w,rw',r'⟩,q⟩)))
 first
  | exact wpAny_pure (wpAny_bind fin)
  | exact wpAny_bind (wpAny_pure (wpAny_bind fin))
  | exact wpAny_bind fin
theorem Ix3.or {r r':R3} (h:Ix3 X r) (h':Ix3 X r'):Ix3 X (fun x y G Q=>r x y G Q\/r' x y G Q):=by
 intro value slice pins s τ G H x y v u Q I rx ry q hs
 rcases q with q | q
 ·exact h value slice pins s τ G H x y v u Q I rx ry q hs
 ·exact h' value slice pins s τ G H x y v u Q I rx ry q hs
noncomputable def rIxA:R3:=fun x y G Q=>rIx x y G Q\/rDGet x y G Q
theorem ix_anyA (hu:X.A.units+20<cLine):Ix3 X rIxA:=ix_any.or (ix_dict hu)
noncomputable def rDIn:R3:=fun x y G Q=>∃o,dAt G y x=some o/\Q (.bl o.isSome) G
noncomputable def rDNotIn:R3:=fun x y G Q=>∃o,dAt G y x=some o/\Q (.bl (!o.isSome)) G
theorem o_dIn (hu:X.A.units+20<cLine):Op3 X (compareOp .In) rDIn:=by
 rintro pins s τ G H x y v u Q ⟨σ,I,hs,hg⟩ ⟨a,ra,rv⟩ ⟨b,rb,ru⟩ ⟨o,hd,q⟩
 obtain⟨p,ov,e,g,e2,_⟩:=dAt_get hg rb ra hd
 subst e;cases ru
 exact d_in hu I g rv fun s' I'=>⟨.bl _,G,H,.refl H,⟨σ,I',hs,hg⟩,⟨.bl _,rfl,by rw[<-e2];rfl⟩,q⟩
theorem o_dNotIn (hu:X.A.units+20<cLine):Op3 X (compareOp .NotIn) rDNotIn:=by
 rintro pins s τ G H x y v u Q ⟨σ,I,hs,hg⟩ ⟨a,ra,rv⟩ ⟨b,rb,ru⟩ ⟨o,hd,q⟩
 obtain⟨p,ov,e,g,e2,_⟩:=dAt_get hg rb ra hd
 subst e;cases ru
 exact d_notIn hu I g rv fun s' I'=>⟨.bl _,G,H,.refl H,⟨σ,I',hs,hg⟩,⟨.bl _,rfl,by rw[<-e2];rfl⟩,q⟩
noncomputable def rInL:R3:=fun x y G Q=>rInF false x y G Q\/rDIn x y G Q
noncomputable def rNotInL:R3:=fun x y G Q=>rInF true x y G Q\/rDNotIn x y G Q
theorem o_in (hu:X.A.units+20<cLine):Op3 X (compareOp .In) rInL:=o_inF.or (o_dIn hu)
theorem o_notIn (hu:X.A.units+20<cLine):Op3 X (compareOp .NotIn) rNotInL:=o_notInF.or (o_dNotIn hu)
noncomputable def kJ7:TE3:=fun _ G Q=>(∀p,G p=none->Q (.ref p) (gup G p (.dct [])))\/∀p,G p=none->Q (.ref p) (gup G p (.dck []))
theorem e_dct {pos:Pos}:PE3 X (.Dict [] [] pos) kJ7:=by
 rintro pins s τ G H Q ⟨σ,I,hs,hg⟩ h
 rcases h with h | h
 ·exact thn (pe_dnewT pins s σ H (up X.K H Q) I fun p hp=>⟨.ref p,_,.upd (.none hp),hg.upd (.none hp) (go:= .dct []) ⟨[],jQ6,.nil⟩,rfl,h p (hg.fresh hp)⟩) fun u s' z=>jXy hs z
 ·exact thn (pe_dnewK pins s σ H (up X.K H Q) I fun p hp=>⟨.ref p,_,.upd (.none hp),hg.upd (.none hp) (go:= .dck []) ⟨[],jQ6,.nil⟩,rfl,h p (hg.fresh hp)⟩) fun u s' z=>jXy hs z
noncomputable def rDPutT:T->T->T->Gp->(Gp->Prop)->Prop:=fun o i v G Q=>∃p ys ks kvs,o= .ref p/\i= .tup ys/\jXa ys=some ks/\G p=some (.dct kvs)/\kvs.length<sizeLine/\Q (gup G p (.dct (putT kvs ks v)))
noncomputable def rDPutK:T->T->T->Gp->(Gp->Prop)->Prop:=fun o i v G Q=>∃p k kvs,o= .ref p/\keyOf i=some k/\G p=some (.dck kvs)/\kvs.length<sizeLine/\Q (gup G p (.dck (putT kvs k v)))
theorem s_dictT (hu:X.A.units+20<cLine):Set3 X rDPutT:=by
 rintro pins s τ G H o i v ov iv u Q ⟨σ,I,hs,hg⟩ ⟨a,ra,rv⟩ ⟨b,rb,ru⟩ ⟨c,rc,rw'⟩ ⟨p,ys,ks,kvs,eo,ei,hk,hG,hz,q⟩
 subst eo;subst ei
 cases (show a= .ref p from ra);cases rv
 obtain⟨ws,h1,h2⟩:=hg p _ hG
 obtain⟨b',vs,e,h3,h4⟩:=(show ∃q vs,b= .ref q/\H q=some (.tup vs)/\Reps X.K H ys vs from rb)
 subst e
 have h3:=jV9 hk h3 h4
 have e:Ext H (upd H p (.dT (putK ws ks c))):= .upd (.dT h1)
 exact d_setItem hu I (DPut.t h1 h3 (by rw[<-h2.length];exact hz)) ru rw' fun s' I'=>⟨_,_,e,⟨σ,I',hs.mono e,hg.upd (.dT h1) (go:= .dct (putT kvs ks v)) ⟨_,jQ6,(h2.put ks rc).mono e⟩⟩,q⟩
theorem s_dictK (hu:X.A.units+20<cLine):Set3 X rDPutK:=by
 rintro pins s τ G H o i v ov iv u Q ⟨σ,I,hs,hg⟩ ⟨a,ra,rv⟩ ⟨b,rb,ru⟩ ⟨c,rc,rw'⟩ ⟨p,k,kvs,eo,hk,hG,hz,q⟩
 subst eo
 cases (show a= .ref p from ra);cases rv
 obtain⟨ws,h1,h2⟩:=hg p _ hG
 have eb:=kKk hk rb
 subst eb
 have e:Ext H (upd H p (.dK (putK ws k c))):= .upd (.dK h1)
 exact d_setItem hu I (DPut.k h1 (by rw[<-h2.length];exact hz)) ru rw' fun s' I'=>⟨_,_,e,⟨σ,I',hs.mono e,hg.upd (.dK h1) (go:= .dck (putT kvs k v)) ⟨_,jQ6,(h2.put k rc).mono e⟩⟩,q⟩
theorem Set3.or {r r':T->T->T->Gp->(Gp->Prop)->Prop} (h:Set3 X r) (h':Set3 X r'):Set3 X (fun o i v G Q=>r o i v G Q\/r' o i v G Q):=by
 intro pins s τ G H o i v ov iv u Q I ro ri rv q
 rcases q with q | q
 ·exact h pins s τ G H o i v ov iv u Q I ro ri rv q
 ·exact h' pins s τ G H o i v ov iv u Q I ro ri rv q
noncomputable def rSetA:T->T->T->Gp->(Gp->Prop)->Prop:=fun o i v G Q=>rSetL o i v G Q\/rDPutT o i v G Q\/rDPutK o i v G Q
theorem s_any (hu:X.A.units+20<cLine):Set3 X rSetA:=s_list.or ((s_dictT hu).or (s_dictK hu))
end
noncomputable def kJe (G:Gp):T->Option String
 | .non=>some "NoneType"
 | .bl _=>some "bool"
 | .int _=>some "int"
 | .str _=>some "str"
 | .tup _=>some "tuple"
 | .scr _=>some "list"
 | .ref p=>match G p with
  | some (.lst _)=>some "list"
  | some (.dct _)=>some "dict"
  | some (.dck _)=>some "dict"
  | some (.fdc _)=>none
  | some (.ins _ _)=>none
  | none=>none
 | .ty _=>none
noncomputable def subT (t n:String):Option Bool:=
 if n="bool"\/n="int"\/n="str"\/n="list"\/n="tuple" then some (t == n||(t == "bool"&&n == "int")) else none
theorem kit_bool (K:PySem.W.Frag) {n:String} {b:Bool} (h:subT "bool" n=some b):PySem.W.kitOne K (.type "bool") (.type n)=some b:=by
 unfold subT at h
 split at h
 ·rename_i hn
  rcases hn with rfl | rfl | rfl | rfl | rfl<;>(cases h;kernel_rfl)
 ·cases h
theorem kit_none (K:PySem.W.Frag) {n:String} {b:Bool} (h:subT "NoneType" n=some b):PySem.W.kitOne K (.type "NoneType") (.type n)=some b:=by
 unfold subT at h
 split at h
 ·rename_i hn
  rcases hn with rfl | rfl | rfl | rfl | rfl<;>(cases h;kernel_rfl)
 ·cases h
theorem kit_int (K:PySem.W.Frag) {n:String} {b:Bool} (h:subT "int" n=some b):PySem.W.kitOne K (.type "int") (.type n)=some b:=by
 unfold subT at h
 split at h
 ·rename_i hn
  rcases hn with rfl | rfl | rfl | rfl | rfl<;>(cases h;kernel_rfl)
 ·cases h
theorem kit_str (K:PySem.W.Frag) {n:String} {b:Bool} (h:subT "str" n=some b):PySem.W.kitOne K (.type "str") (.type n)=some b:=by
 unfold subT at h
 split at h
 ·rename_i hn
  rcases hn with rfl | rfl | rfl | rfl | rfl<;>(cases h;kernel_rfl)
 ·cases h
theorem kit_tuple (K:PySem.W.Frag) {n:String} {b:Bool} (h:subT "tuple" n=some b):PySem.W.kitOne K (.type "tuple") (.type n)=some b:=by
 unfold subT at h
 split at h
 ·rename_i hn
  rcases hn with rfl | rfl | rfl | rfl | rfl<;>(cases h;kernel_rfl)
 ·cases h
theorem kit_list (K:PySem.W.Frag) {n:String} {b:Bool} (h:subT "list" n=some b):PySem.W.kitOne K (.type "list") (.type n)=some b:=by
 unfold subT at h
 split at h
 ·rename_i hn
  rcases hn with rfl | rfl | rfl | rfl | rfl<;>(cases h;kernel_rfl)
 ·cases h
theorem kit_dict (K:PySem.W.Frag) {n:String} {b:Bool} (h:subT "dict" n=some b):PySem.W.kitOne K (.type "dict") (.type n)=some b:=by
 unfold subT at h
 split at h
 ·rename_i hn
  rcases hn with rfl | rfl | rfl | rfl | rfl<;>(cases h;kernel_rfl)
 ·cases h
section
variable {X:Cx}
theorem e_ty {x:Str} {n:String} {pos:Pos} (hg:Gl X x) (hm:X.mg x=none) (hv:bootBuiltins x=some (.type n)) (hn:x≠"__name__":=by decide) (hd:(x == ("__debug__":Str))=false:=by decide):PE3 X (.Name x pos) (tC (.ty n)):=
 fun pins s τ G H Q ⟨σ,I,hs,hg'⟩ q=>thn (pe_bltn (v:= .ty n) hg hm hv rfl hn hd pins s σ H (up X.K H Q) I ⟨.ty n,G,.refl H,hg',rfl,q⟩) fun u s' h=>jXy hs h
noncomputable def kitT (t:String):List T->Option Bool
 | []=>some false
 | .ty n::r=>match subT t n with
  | some true=>some true
  | some false=>kitT t r
  | none=>none
 | _::_=>none
noncomputable def isiC:Option String->T->Option Bool
 | some t,.ty n=>subT t n
 | some t,.tup cs=>kitT t cs
 | _,_=>none
noncomputable def isiT (G:Gp) (x c:T):Option Bool:=isiC (kJe G x) c
noncomputable def rIsi:List T->Gp->VK3->Prop:=fun xs G Q=>∃x c b,xs=[x,c]/\isiT G x c=some b/\Q (.bl b) G
theorem kit_any {K:PySem.W.Frag} {H:Hp} {t:String} (ok:∀n b,subT t n=some b->PySem.W.kitOne K (.type t) (.type n)=some b):∀ {cs:List T} {vs:List V} {us:List Value} {b:Bool},Reps K H cs vs->Vals vs us->kitT t cs=some b->PySem.W.kitAny K (.type t) us=some b
 | [],_,_,_,r,q,h=>by cases r;cases q;exact h
 | c::cs,_,_,b,⟨v,ws,e,r1,r2⟩,q,h=>by
  subst e
  cases q with
  | cons q1 q2=>
   cases c with
   | ty n=>
    cases (show v= .ty n from r1)
    cases q1
    unfold kitT at h
    unfold PySem.W.kitAny
    cases e:subT t n with
    | none=>rw[e] at h;cases h
    | some k=>
     rw[e] at h
     rw[ok n k e]
     cases k with
     | true=>exact h
     | false=>exact kit_any ok r2 q2 h
   | _=>cases h
theorem jU9 {pins:List (Addr×Obj)} {τ:St3} {G:Gp} {H:Hp} {s:Shared} {σ:L2.St} {c:T} {cv:V} {u cu:Value} {t:String} {b:Bool} {Q:VK3} {Hh:Heap->Prop} (I:Inv X pins σ H s) (hs:SRel X.K H σ τ) (hg:GRel X.K H G)
  (Z:PySem.W.KitX X.K u (.type t) Hh) (p:Hh s.heap) (hx:u≠ .builtin "__main__.__loader__#opaque") (ok:∀n b,subT t n=some b->PySem.W.kitOne X.K (.type t) (.type n)=some b)
  (rc:Rep X.K H c cv) (ru:RelV cv cu) (h:isiC (some t) c=some b) (q:Q (.bl b) G):
  wpAny (model X.prog X.w) X.A (call (.builtin "isinstance") [u,cu]) (EP3 X pins τ H Q) X.xe s:=by
 have fin:∀tk,EP3 X pins τ H Q (.bool b) {s with toks:=tk}:=fun tk=>⟨.bl b,G,H,.refl H,⟨σ,I.tok tk,hs,hg⟩,⟨.bl b,rfl,rfl⟩,q⟩
 cases c with
 | ty n=>
  cases (show cv= .ty n from rc);cases ru
  exact PySem.W.kia_one Z I.kIn p (ok n b h) hx fin
 | tup cs=>
  obtain⟨pp,vs,e,h1,h2⟩:=(show ∃p vs,cv= .ref p/\H p=some (.tup vs)/\Reps X.K H cs vs from rc)
  subst e;cases ru
  obtain⟨its,rv,⟨⟨cls,dd,data,sl⟩,ho,hc,n,hd⟩,_⟩:=I.tuple (.of h1)
  simp only at hc hd
  subst hc hd
  exact PySem.W.kia_tup Z I.kIn p ho (kit_any ok h2 rv h) hx fin
 | _=>cases h
theorem c_isi:Call3 X (.builtin "isinstance") rIsi:=by
 rintro pins s τ G H xs us Q ⟨σ,I,hs,hg⟩ ⟨as,ras,rvs⟩ ⟨x,c,b,e,h,q⟩
 subst e
 obtain⟨a,cv,rfl,ra,rc⟩:=kK9 ras
 obtain⟨u,cu,rfl,ru,rcu⟩:=rvs.two
 unfold isiT at h
 cases x with
 | non=>cases (show a= .non from ra);cases ru;exact jU9 I hs hg PySem.W.kitx_none True.intro (fun z=>nomatch z) (fun n b=>kit_none _) rc rcu h q
 | bl k=>cases (show a= .bl k from ra);cases ru;exact jU9 I hs hg PySem.W.kitx_bool True.intro (fun z=>nomatch z) (fun n b=>kit_bool _) rc rcu h q
 | int k=>cases (show a= .int k from ra);obtain⟨t,rfl⟩:=ru;exact jU9 I hs hg PySem.W.kitx_int True.intro (fun z=>nomatch z) (fun n b=>kit_int _) rc rcu h q
 | str k=>cases (show a= .str k from ra);obtain⟨t,rfl⟩:=ru;exact jU9 I hs hg PySem.W.kitx_str True.intro (fun z=>nomatch z) (fun n b=>kit_str _) rc rcu h q
 | tup ys=>
  obtain⟨p,vs,e,h1,h2⟩:=(show ∃p vs,a= .ref p/\H p=some (.tup vs)/\Reps X.K H ys vs from ra)
  subst e;cases ru
  obtain⟨its,rv,⟨o,ho,hc,_⟩,_⟩:=I.tuple (.of h1)
  exact jU9 I hs hg PySem.W.kitx_tuple ⟨o,ho,hc⟩ (fun z=>nomatch z) (fun n b=>kit_tuple _) rc rcu h q
 | scr ys=>
  obtain⟨p,vs,e,h1,h2⟩:=(show ∃p vs,a= .ref p/\FrL X.K H p vs/\Reps X.K H ys vs from ra)
  subst e;cases ru
  obtain⟨its,rv,⟨o,n,ho,hc,_⟩,_⟩:=I.list h1.sq
  exact jU9 I hs hg PySem.W.kitx_list ⟨o,ho,hc⟩ (fun z=>nomatch z) (fun n b=>kit_list _) rc rcu h q
 | ref p=>
  cases (show a= .ref p from ra);cases ru
  cases hG:G p with
  | none=>simp only[kJe,hG] at h;cases h
  | some g=>
   cases g with
   | lst ys=>
    simp only[kJe,hG] at h
    obtain⟨vs,h1,h2⟩:=hg.lst hG
    obtain⟨its,rv,⟨o,n,ho,hc,_⟩,_⟩:=I.list (.of h1)
    exact jU9 I hs hg PySem.W.kitx_list ⟨o,ho,hc⟩ (fun z=>nomatch z) (fun n b=>kit_list _) rc rcu h q
   | fdc kvs=>simp only[kJe,hG] at h;cases h
   | ins _ _=>simp only[kJe,hG] at h;cases h
   | dct kvs=>
    simp only[kJe,hG] at h
    obtain⟨ws,h1,_⟩:=hg p _ hG
    obtain⟨_,_,xs,_,o,es,ep,h3,h4,_⟩:=(show ObjOk X.prog X.w H s.heap p (.dT ws) from I.hok p _ h1)
    exact jU9 I hs hg PySem.W.kitx_dict ⟨o,h3,h4.1⟩ (fun z=>nomatch z) (fun n b=>kit_dict _) rc rcu h q
   | dck kvs=>
    simp only[kJe,hG] at h
    obtain⟨ws,h1,_⟩:=hg p _ hG
    obtain⟨_,_,vs,_,pp⟩:=(show ObjOk X.prog X.w H s.heap p (.dK ws) from I.hok p _ h1)
    obtain⟨o,es,ep,h3,h4,_⟩:=pp
    exact jU9 I hs hg PySem.W.kitx_dict ⟨o,h3,h4.1⟩ (fun z=>nomatch z) (fun n b=>kit_dict _) rc rcu h q
 | ty _=>cases h
noncomputable abbrev TO3:=St3->Gp->(Option Int->Gp->Prop)->Prop
def PO3 (X:Cx) (e:Option Expr) (t:TO3):Prop:=
 ∀(pins:List (Addr×Obj)) (s:Shared) (τ:St3) (G:Gp) (H:Hp) (Q:Option Int->Gp->Prop),Inv3 X pins τ G H s->t τ G Q->
  wpAny (model X.prog X.w) X.A (evalPart e X.env) (fun u s'=>∃o G' H',Ext H H'/\Inv3 X pins τ G' H' s'/\IsPart u o/\Q o G') X.xe s
noncomputable def jJs:TO3:=fun _ G Q=>Q none G
noncomputable def jKf (t:TE3):TO3:=fun τ G Q=>t τ G fun x G1=>∃i,x= .int i/\Q (some i) G1
theorem jV5:PO3 X none jJs:=by
 intro pins s τ G H Q I h
 rw[evalPart_none]
 exact wpAny_pure ⟨none,G,H,.refl H,I,.none,h⟩
theorem jUn {e:Expr} {te:TE3} (h:PE3 X e te):PO3 X (some e) (jKf te):=by
 intro pins s τ G H Q I hw
 rw[evalPart_some]
 refine thn (h pins s τ G H _ I hw) fun u s1 w_=>w_.el fun x G1 H1 e1 I1 r_ ⟨i,ex,q⟩=>r_.el fun v rv ru=> ?_
 subst ex
 cases (show v= .int i from rv)
 obtain⟨t,rfl⟩:=ru
 exact⟨some i,G1,H1,e1,I1,.int i t,q⟩
def Sl3 (X:Cx) (r:T->Option Int->Option Int->Gp->VK3->Prop):Prop:=
 ∀(pins:List (Addr×Obj)) (s:Shared) (τ:St3) (G:Gp) (H:Hp) (x:T) (v vl vu:Value) (lo hi:Option Int) (sl:Addr) (Q:VK3),Inv3 X pins τ G H s->RU X.K H x v->s.heap.IsSliceOf sl vl vu .none->IsPart vl lo->IsPart vu hi->r x lo hi G Q->
  ∃T id,typeLookup (.type T) "__getitem__"=pure (some (.builtin id))/\s.TypeIs v T/\wpAny (model X.prog X.w) X.A (getItem v (.ref sl)) (EP3 X pins τ H Q) X.xe s
noncomputable def tSl (r:T->Option Int->Option Int->Gp->VK3->Prop) (te:TE3) (tl th:TO3):TE3:=fun τ G Q=>te τ G fun x G1=>tl τ G1 fun l G2=>th τ G2 fun u G3=>r x l u G3 Q
theorem jUb {r:T->Option Int->Option Int->Gp->VK3->Prop} {e:Expr} {te:TE3} {lo hi:Option Expr} {tl th:TO3} {pos p2:Pos} (hr:Sl3 X r) (he:PE3 X e te) (hl:PO3 X lo tl) (hu:PO3 X hi th):PE3 X (.Subscript e (.Slice lo hi none p2) pos) (tSl r te tl th):=by
 intro pins s τ G H Q I h
 refine Subscript_ (thn (he pins s τ G H _ I h) fun v s1 w_=>w_.el fun x G1 H1 e1 I1 r1 q1=> ?_)
 refine wpAny_Slice (thn (hl pins s1 τ G1 H1 _ I1 q1) fun vl s2 ⟨l,G2,H2,e2,I2,pl,q2⟩=>thn (hu pins s2 τ G2 H2 _ I2 q2) fun vu s3 ⟨u,G3,H3,e3,⟨σ,I3,hs3,hg3⟩,pu,q3⟩=> ?_)
 rw[evalPart_none]
 refine wpAny_pure ?_
 have I4:Inv X pins σ H3 {s3 with heap:=s3.heap.push {cls:= .type "slice",data:= .fields #[vl,vu,.none]} }:=I3.kept (t':=s3.toks) fun b ob q=>Heap.get?_push_of_some _ q
 obtain⟨T0,id,hT,ht,hg⟩:=hr pins {s3 with heap:=s3.heap.push {cls:= .type "slice",data:= .fields #[vl,vu,.none]} } τ G3 H3 x v vl vu l u s3.heap.objs.size Q ⟨σ,I4,hs3,hg3⟩ ((r1.mono e2).mono e3) (Heap.IsSliceOf.new ..) pl pu q3
 show wpAny (model X.prog X.w) X.A (subscriptTail e (.Slice lo hi none p2) v (.ref s3.heap.objs.size)) (EP3 X pins τ H Q) X.xe {s3 with heap:=s3.heap.push {cls:= .type "slice",data:= .fields #[vl,vu,.none]} }
 exact thn (tail_any (ops:=[.ref s3.heap.objs.size,v]) ht hT hg (by with_unfolding_all rfl)) fun _ _ z=>z.ext ((e1.trans e2).trans e3)
noncomputable def cutT (xs:List T) (lo hi:Option Int):List T:=(xs.drop (HT.sIx xs.length 0 lo)).take (HT.sIx xs.length xs.length hi-HT.sIx xs.length 0 lo)
noncomputable def rSlA:T->Option Int->Option Int->Gp->VK3->Prop:=fun x lo hi G Q=>
 (∃xs,jV8 G x=some xs/\∀p,G p=none->Q (.ref p) (gup G p (.lst (cutT xs lo hi))))\/∃xs,x= .tup xs/\Q (.tup (cutT xs lo hi)) G
end
end L3
namespace HT
open PySem PyProof.Rows
theorem getItem_tuple_whole {prog:Program} {w:World} {A:Around} {E:Value->Shared->Prop} {s:Shared} {t sl:Addr} {items:Array Value} {vl vu:Value} {lo hi:Option Int} {Q:Value->Shared->Prop} (ht:IsTup s.heap t items) (hs:s.heap.IsSliceOf sl vl vu .none) (pl:IsPart vl lo) (pu:IsPart vu hi)
  (hw:sIx items.size 0 lo=0/\sIx items.size items.size hi=items.size) (h:Q (.ref t) s):wpAny (model prog w) A (getItem (.ref t) (.ref sl)) Q E s:=by
 obtain⟨os,hos,hcs,hds⟩:=id hs
 have hTs:s.TypeIs (.ref sl) "slice":=⟨os,hos,hcs⟩
 unfold getItem
 try with_reducible refine wpAny_holding ?_
 first | refine wpAny_bind (wpAny_pure ?_) | skip
 refine wpAny_bind (wpAny_sequenceKey ht.typeIs (by decide) ?_)
 refine wpAny_bind (wpAny_callSpecial?_slot (name:=Str.ofString "__getitem__") ht.typeIs PyProof.Rows.slot_tuple_getitem
  (wpAny_call_entry PyProof.Rows.slot_tuple_getitem ht.typeIs entry_tuple_getitem ?_ (args_tuple_getitem _ _)))
 show wpAny _ _ (Builtin.Tuple.tupleItemsOf (.ref t) >>= _) _ _ s
 refine wpAny_bind (tupleItemsOf_ ht ?_)
 refine wpAny_bind (wpAny_typeOf hTs ?_)
 rw[if_pos (by decide)]
 refine wpAny_bind (jXq hs pl pu ?_)
 have hyes:(((sIx items.size 0 lo:Nat):Int) == 0&&(1:Int) == 1&&(sIx items.size items.size hi-sIx items.size 0 lo) == items.size)=true:=by
  rw[hw.1,hw.2];simp
 show wpAny _ _ (if (((sIx items.size 0 lo:Nat):Int) == 0&&(1:Int) == 1&&(sIx items.size items.size hi-sIx items.size 0 lo) == items.size)=true then _ else _) _ _ s
 rw[if_pos hyes]
 refine wpAny_bind ?_
 unfold Builtin.Tuple.tupleIsExact
 refine wpAny_bind (wpAny_typeOf ht.typeIs (wpAny_pure ?_))
 rw[if_pos (by decide)]
 exact wpAny_bind (wpAny_rule (wpAny_pure ⟨_,rfl,wpAny_pure h⟩))
end HT
namespace L3
open PySem PySem.Spec PyProof.Rows L2
section
variable {X:Cx}
theorem Reps.cut {K:PySem.W.Frag} {H:Hp} {xs:List T} {vs:List V} (r:Reps K H xs vs) (lo hi:Option Int):Reps K H (cutT xs lo hi) (cutV vs lo hi):=by
 unfold cutT cutV
 rw[<-r.length]
 exact (r.drop _).take _
theorem cutT_whole {xs:List T} {lo hi:Option Int} (h:HT.sIx xs.length 0 lo=0/\HT.sIx xs.length xs.length hi=xs.length):cutT xs lo hi=xs:=by
 unfold cutT
 rw[h.1,h.2]
 simp
theorem sl_any:Sl3 X rSlA:=by
 rintro pins s τ G H x v vl vu lo hi sl Q ⟨σ,I,hs,hg⟩ ⟨a,ra,rv⟩ hsl pl pu h
 rcases h with ⟨xs,hx,q⟩ | ⟨xs,ex,q⟩
 ·obtain⟨p,vs,e,hq,r⟩:=kJx hg ra hx
  subst e
  obtain⟨T0,id,h1,h2,h3⟩:=sl_list pins s σ H (.ref p) v vl vu lo hi sl (up X.K H Q) I rv hsl pl pu ⟨p,vs,rfl,hq,fun l hl=>⟨.ref l,_,.upd (.none hl),hg.lstNew (r.cut lo hi) (.none hl),rfl,q l (hg.fresh hl)⟩⟩
  exact⟨T0,id,h1,h2,thn h3 fun _ _ z=>jXy hs z⟩
 ·subst ex
  obtain⟨p,vs,e,h1,h2⟩:=(show ∃p vs,a= .ref p/\H p=some (.tup vs)/\Reps X.K H xs vs from ra)
  subst e
  by_cases hw:HT.sIx xs.length 0 lo=0/\HT.sIx xs.length xs.length hi=xs.length
  ·cases rv
   obtain⟨its,rv',ht,hz⟩:=I.tuple (.of h1)
   have hlen:its.toArray.size=xs.length:=by rw[lJi,<-rv'.length,h2.length]
   refine⟨"tuple",_,PyProof.Rows.slot_tuple_getitem.lookup,ht.typeIs,HT.getItem_tuple_whole ht hsl pl pu (by rw[hlen];exact hw) ?_⟩
   rw[cutT_whole hw] at q
   exact⟨.tup xs,G,H,.refl H,⟨σ,I,hs,hg⟩,⟨.ref p,ra,rfl⟩,q⟩
  ·obtain⟨T0,id,h3,h4,h5⟩:=sl_tup pins s σ H (.ref p) v vl vu lo hi sl (up X.K H Q) I rv hsl pl pu ⟨p,vs,rfl,.of h1,by rw[<-h2.length];exact hw,fun l hl=>⟨.tup (cutT xs lo hi),G,.upd (.none hl),hg.tupNew hl,Rep.tupNew (h2.cut lo hi) hl,q⟩⟩
   exact⟨T0,id,h3,h4,thn h5 fun _ _ z=>jXy hs z⟩
noncomputable def jX2 (ta:TA3):TE3:=fun τ G Q=>ta τ G fun vs G1=>∃j:Int,vs=[.int j]/\ -(2^62)<=j/\j<=2^20/\∀p,G1 p=none->Q (.ref p) (gup G1 p (.lst (rngT 0 j.toNat)))
theorem reps_rng {K:PySem.W.Frag} {H:Hp} {n:Nat} {vs:List V} (hl:vs.length=n) (h:∀(i:Nat) v,vs[i]? =some v->v= .int (0+i)):Reps K H (rngT 0 n) vs:=by
 have e:vs=(List.range n).map fun (k:Nat)=>V.int (0+k):=by
  apply lJ8
  intro i
  cases hv:vs[i]? with
  | none=>
   have:n<=i:=by rw[<-hl];exact List.getElem?_eq_none_iff.mp hv
   simp[this]
  | some v=>
   have hi:i<n:=by rw[<-hl];exact (lJa.mp hv).1
   rw[h i v hv];simp[hi]
 rw[e]
 unfold rngT
 generalize List.range n=l
 induction l with
 | nil=>rfl
 | cons k ks ih=>exact⟨_,_,rfl,rfl,ih⟩
end
section
variable {X:Cx}
theorem e_listRange {a:Expr} {ta:TA3} {pos p p2 p3:Pos} (hgl:Gl X "list") (hml:X.mg "list"=none) (hgr:Gl X "range") (hmr:X.mg "range"=none) (hc:X.calm=true) (ha:PA3 X [a] ta) (hs:starEach [a] X.env=[(false,eval a X.env)]:=by rfl)
  (ho:starEach [Expr.Call (.Name "range" p2) [a] [] p3] X.env=[(false,eval (.Call (.Name "range" p2) [a] [] p3) X.env)]:=by rfl):
  PE3 X (.Call (.Name "list" p) [.Call (.Name "range" p2) [a] [] p3] [] pos) (jX2 ta):=by
 intro pins s τ G H Q I h
 obtain⟨σ0,I0,hs0,hg0⟩:=id I
 refine wpAny_Call_Name_kw (jXr I0 hgl hml (u:= .type "list") (by rfl) ?_)
 refine PyProof.Rows.callWith_type1 (T:="list") ?_ ho rfl
 rw[ho]
 show wpAny _ _ (spliced ((false,eval (.Call (.Name "range" p2) [a] [] p3) X.env)::backTo pos [])) _ _ s
 refine Calls.spliced_cons ?_
 refine Call_ (jXr I0 hgr hmr boot_range (PyProof.Rows.callWith_type1 (thn (ha p3 pins s τ G H _ I h) fun us s1 w_=>w_.el fun xs G1 H1 e1 i_ r_ ⟨j,e,q1,q2,q⟩=>i_.el fun σ I1 hs1 hg1=>r_.el fun as ras rvs=> ?_) hs rfl))
 subst e
 obtain⟨v,rfl,rv⟩:=jYs ras
 cases (show v= .int j from rv)
 obtain⟨u,rfl,ru⟩:=rvs.one
 obtain⟨t,rfl⟩:=ru
 refine call_range_1 ?_
 refine Calls.spliced_nil ?_
 have I2:Inv X pins σ H1 {s1 with heap:=s1.heap.push {cls:= .type "range",data:= .fields #[.int 0 s1.toks,.int j t,.int 1 (s1.toks+1)]},toks:=s1.toks+1+1}:=I1.kept fun b o e=>Heap.get?_push_of_some _ e
 refine call_list_range (n:=j.toNat) (I1.ok.hd hc) (IsRange.new ..) (small_one (by omega) (by omega) q1 (by omega)) (by rw[rangeSize_one];split<;>omega) (by omega) fun h' tk acc' c' hk hobj hit=> ?_
 have hf:H1 (s1.heap.push {cls:= .type "range",data:= .fields #[.int 0 s1.toks,.int j t,.int 1 (s1.toks+1)]}).objs.size=none:=I2.hok.fresh (lJd _)
 have hz:acc'.size<=sizeLine:=by rw[hit.1,sizeLine_eq];omega
 obtain⟨vs,hvs,rr⟩:∃vs:List V,Vals vs acc'.toList/\Reps X.K H1 (rngT 0 j.toNat) vs:=by
  refine⟨(List.range j.toNat).map fun (k:Nat)=>V.int (0+k),?_,reps_rng (by simp) (fun i v hv=> ?_)⟩
  ·have all:∀(l:List Value) (n0:Nat),(∀(i:Nat) v,l[i]? =some v->∃t,v= .int ((0:Int)+((n0+i:Nat):Int)*1) t)->Vals ((List.range' n0 l.length).map fun (k:Nat)=>V.int (0+k)) l:=by
    intro l
    induction l with
    | nil=>intro n0 _;exact .nil
    | cons v l ih=>
     intro n0 hh
     obtain⟨t,ht⟩:=hh 0 v rfl
     rw[lJz,List.range'_succ,lJ4]
     refine .cons ⟨t,by rw[ht];simp⟩ (ih (n0+1) fun i w hw=> ?_)
     obtain⟨t',ht'⟩:=hh (i+1) w (by simpa using hw)
     exact⟨t',by rw[ht'];congr 1;omega⟩
   have:=all acc'.toList 0 (fun i v hv=>by
    obtain⟨t,ht⟩:=hit.2 i v (by simpa using hv)
    exact⟨t,by rw[ht];simp⟩)
   rw[List.range_eq_range']
   rw[show acc'.toList.length=j.toNat by simpa using hit.1] at this
   exact this
  ·rw[lJf] at hv
   cases e:(List.range j.toNat)[i]? with
   | none=>rw[e] at hv;cases hv
   | some k=>
    rw[e] at hv;cases hv
    have:=lJa.mp e
    obtain⟨h1,h2⟩:=this
    simp at h2;rw[<-h2]
 refine⟨.ref _,_,_,e1.trans (.upd (.none hf)),⟨σ,I2.laid (t':=tk) (o:= .lst vs) hk (lJd _) ⟨by rw[hvs.length];simpa using hz,acc'.toList,c',hvs,by simpa using hobj⟩,hs1.mono (.upd (.none hf)),hg1.lstNew rr (.none hf)⟩,⟨.ref _,rfl,rfl⟩,q _ (hg1.fresh hf)⟩
noncomputable def insT (xs:List T) (k:Nat) (y:T):List T:=xs.take k++y::xs.drop k
noncomputable def kKc:T->List T->Gp->VK3->Prop:=fun x as G Q=>∃p xs k y,x= .ref p/\as=[.int k,y]/\G p=some (.lst xs)/\0<=k/\k<=xs.length/\xs.length<sizeLine/\Q .non (gup G p (.lst (insT xs k.toNat y)))
theorem m_insert:Mt3 X "list.insert" kKc:=by
 rintro pins s τ G H x as v us Q ⟨σ,I,hs,hg⟩ ⟨a,ra,rv⟩ ⟨bs,rbs,rus⟩ ⟨p,xs,k,y,ex,ea,hp,k0,k1,hz,q⟩
 subst ex;subst ea
 cases (show a= .ref p from ra);cases rv
 obtain⟨b1,b2,rfl,r1,r2⟩:=kK9 rbs
 cases (show b1= .int k from r1)
 obtain⟨u1,u2,rfl,ru1,ru2⟩:=rus.two
 obtain⟨t,rfl⟩:=ru1
 obtain⟨vs,h1,h2⟩:=hg.lst hp
 obtain⟨z,its,n,r,hl,e⟩:=I.lstM h1
 have hlen:=h2.length
 have hfit:¬ (!Builtin.List.listFitsIndex k)=true:=by
  have h63:=kQ1
  rw[fitsIndex_both (by omega) (by omega)]
  exact lJe
 refine call_meets F.slot_list_insert ⟨_,e,rfl⟩ F.entry_list_insert (F.args_list_insert_3 _ _ _) (AutoSeq1.list_insert_list_int_val_1 p its.toArray n k t u2 hfit (by rw[lJi];omega)) ⟨e,?_⟩
 have e2:Ext H (upd H p (.lst (vs.take k.toNat++b2::vs.drop k.toNat))):= .upd (.lst h1)
 refine⟨.non,_,_,e2,⟨σ,I.lset (its':=its.take k.toNat++u2::its.drop k.toNat) h1 e ?_ ((r.take _).append (.cons ru2 (r.drop _))) ?_,hs.mono e2,hg.lstNew (xs:=insT xs k.toNat y) ((h2.take _).append ⟨b2,_,rfl,r2,h2.drop _⟩) (.lst h1)⟩,⟨.non,rfl,rfl⟩,q⟩
 ·have hk:¬ k<0:=by omega
  have hm:min k.toNat its.toArray.size=k.toNat:=by rw[lJi];omega
  simp only[hk,if_false,hm]
  apply Array.ext'
  simp[Array.toList_extract]
  rw[lQh (Nat.le_of_eq (by simp))]
 ·simp only[lJl,lJz,lKm,List.length_drop]
  omega
noncomputable def rCount:T->List T->Gp->VK3->Prop:=fun x as G Q=>∃p xs y,x= .ref p/\as=[y]/\G p=some (.lst xs)/\jZl y=true/\xs.all jZl=true/\Q (.int (xs.countP fun z=>eqT z y)) G
theorem count_eqU {K:PySem.W.Frag} {H:Hp} {y:T} {b:V} (ry:Rep K H y b) (fy:jZl y=true):∀ {xs:List T} {vs:List V} {us:List Value},Reps K H xs vs->Vals vs us->xs.all jZl=true->us.countP (eqU b)=xs.countP fun z=>eqT z y
 | [],_,_,r,q,_=>by cases r;cases q;rfl
 | x::xs,_,_,⟨v,ws,e,r1,r2⟩,q,f=>by
  subst e
  cases q with
  | cons q1 q2=>
   rw[lKp,lJ3] at f
   rw[List.countP_cons,List.countP_cons,count_eqU ry fy r2 q2 f.2,eqU_of q1 (kJz r1 f.1),flat_eq r1 ry f.1 fy]
theorem m_count:Mt3 X "list.count" rCount:=by
 rintro pins s τ G H x as v us Q ⟨σ,I,hs,hg⟩ ⟨a,ra,rv⟩ ⟨bs,rbs,rus⟩ ⟨p,xs,y,ex,ea,hp,fy,fs,q⟩
 subst ex;subst ea
 cases (show a= .ref p from ra);cases rv
 obtain⟨b,rfl,rb⟩:=jYs rbs
 obtain⟨u,rfl,ru⟩:=rus.one
 obtain⟨vs,h1,h2⟩:=hg.lst hp
 obtain⟨z,its,n,r,hl,e⟩:=I.lstM h1
 have fl:=(kVp rb fy h2 fs).1
 refine call_meets F.slot_list_count ⟨_,e,rfl⟩ F.entry_list_count (F.args_list_count_2 _ _) (SeqAt.list_countAt p its.toArray n none #[] u (eqU b)) ⟨e,fun w hw=>jYi ru (kJz rb fy) r fl w (by simpa using hw),?_⟩
 refine⟨.int _,G,H,.refl H,⟨σ,I.tok _,hs,hg⟩,⟨.int _,rfl,s.toks,?_⟩,q⟩
 rw[<-count_eqU rb fy h2 r fs]
noncomputable def allBl:List T->Option Bool
 | []=>some true
 | .bl b::r=>match allBl r with
  | some c=>some (b&&c)
  | none=>none
 | _::_=>none
noncomputable def rAll:List T->Gp->VK3->Prop:=fun as G Q=>∃p xs b,as=[.ref p]/\G p=some (.lst xs)/\allBl xs=some b/\Q (.bl b) G
theorem allBl_map:∀ {xs:List T} {b:Bool},allBl xs=some b->∃bs:List Bool,xs=bs.map T.bl/\b=bs.all (fun x=>x)
 | [],b,h=>by cases h;exact⟨[],rfl,rfl⟩
 | .bl c::r,b,h=>by
  unfold allBl at h
  cases e:allBl r with
  | none=>rw[e] at h;cases h
  | some d=>
   rw[e] at h;cases h
   obtain⟨bs,h1,h2⟩:=allBl_map e
   exact⟨c::bs,by rw[h1];rfl,by rw[h2];rfl⟩
 | .non::_,_,h=>by cases h
 | .int _::_,_,h=>by cases h
 | .str _::_,_,h=>by cases h
 | .tup _::_,_,h=>by cases h
 | .scr _::_,_,h=>by cases h
 | .ref _::_,_,h=>by cases h
 | .ty _::_,_,h=>by cases h
theorem reps_bls {K:PySem.W.Frag} {H:Hp}:∀ {bs:List Bool} {vs:List V} {us:List Value},Reps K H (bs.map T.bl) vs->Vals vs us->us=bs.map Value.bool
 | [],_,_,h,q=>by cases h;cases q;rfl
 | n::ns,_,_,⟨v,ws,e,r,rs⟩,q=>by
  subst e;cases (show v= .bl n from r)
  cases q with
  | cons q1 q2=>cases q1;rw[reps_bls rs q2];rfl
theorem all_range:∀(bs:List Bool),bs.all (fun x=>x)=(List.range bs.length).all fun i=>bs.getD i true
 | []=>rfl
 | b::bs=>by
  rw[lKp,all_range bs,lJz,List.range_succ_eq_map,lKp,List.all_map]
  simp[Function.comp_def,List.getD]
theorem c_all (hc:X.calm=true):Call3 X (.builtin "all") rAll:=by
 rintro pins s τ G H as us Q ⟨σ,I,hs,hg⟩ ⟨bs',rbs,rus⟩ ⟨p,xs,b,e,hp,hb,q⟩
 subst e
 obtain⟨a,rfl,ra⟩:=jYs rbs
 cases (show a= .ref p from ra)
 obtain⟨u,rfl,ru⟩:=rus.one
 cases ru
 obtain⟨vs,h1,h2⟩:=hg.lst hp
 obtain⟨bs,ex,eb⟩:=allBl_map hb
 subst ex
 obtain⟨its,rv,pl,hz⟩:=I.list (.of h1)
 have eit:=reps_bls h2 rv
 subst eit
 refine call_all_walk (wpAny_pyIter_list pl.isList ?_)
 have hne:p≠s.heap.objs.size:=by obtain⟨o,n,ho,_⟩:=pl;exact lJj (Heap.lt_size ho)
 refine⟨s.heap.objs.size,[s.heap.objs.size,p],[s.heap.objs.size],(bs.map Value.bool).toArray.size,_,_,fun i=>bs.getD i true,rfl,Walks.list (A:=X.A.in1) (show X.A.in1.handled=none from I.ok.hd hc) s.heap.objs.size p hne (bs.map Value.bool).toArray,⟨⟨_,Heap.get?_push_size _ rfl,rfl,rfl⟩,pl.isList.push _⟩,?_,?_⟩
 ·intro i v s' Q' E' hP hQ
  have hP':(bs.map Value.bool)[i]? =some v:=by simpa using hP
  rw[lJf] at hP'
  cases e:bs[i]? with
  | none=>rw[e] at hP';cases hP'
  | some c=>
   rw[e] at hP';cases hP'
   have:bs.getD i true=c:=by simp[List.getD,e]
   have hQ':Q' (bs.getD i true) s':=hQ
   rw[this] at hQ'
   exact wpAny_truthy_bool hQ'
 ·intro h' tk hk
  have hk2:∀b o,s.heap.get? b=some o->h'.get? b=some o:=fun b o e=>hk b o (by simpa using lJj (Heap.lt_size e)) (Heap.get?_push_of_some _ e)
  refine⟨.bl b,G,H,.refl H,⟨σ,I.kept hk2,hs,hg⟩,⟨.bl b,rfl,?_⟩,q⟩
  rw[eb,all_range]
  simp
  rfl
end
structure Cal (P:Program) (w:World) (K:PySem.W.Frag) (mg:Str->Option Value) (base:Heap) (k:Nat) (x:Str) (ps:List Str) (sp:Sp3):Prop where
 ex:∃f fd,Fn3 P w K mg base k f fd ps sp/\mg x=some (.ref f)/\PySem.W.keepIn K (.ref f)=true/\Binds K fd ps []
 mono:Mono sp
 len:∀xs G Q,sp xs G Q->xs.length=ps.length
theorem jJx {X:Cx} {k:Nat} {ps:List Str} {sp:Sp3} {x:Str} {p pos:Pos} {e:Expr} {es:List Expr} {t:TA3} (C:Cal X.prog X.w X.K X.mg X.base k x ps sp) (hr:Room k X.A) (ha:PA3 X (e::es) t) (hg:Gl X x:=by rfl)
  (hdb:(x == ("__debug__":Str))=false:=by decide) (he:starEach (e::es) X.env=(false,eval e X.env)::starEach es X.env:=by rfl) (hpl:(backTo pos (starEach es X.env)).any (·.1)=false:=by rfl):
  PE3 X (.Call (.Name x p) (e::es) [] pos) (jJo sp t):=by
 intro pins s τ G H Q I h
 obtain⟨f,fd,F,hm,hk,hb⟩:=C.ex
 obtain⟨σ0,I0,hs0,hg0⟩:=id I
 refine wpAny_Call_Name_kw (ld_glob I0 hg hm ?_ hdb)
 refine PySem.W.callWith_K (h₀:=X.base) I0.ok.mod.kin hk (thn (ha pos pins s τ G H _ I h) fun us s1 w_=>w_.el fun xs G1 H1 e1 i_ r_ q=>i_.el fun σ I1 hs1 hg1=>r_.el fun as ras rvs=>⟨I1.kIn,?_⟩) he hpl
 refine thn (run_fn (dvs:=[]) (ds:=[]) (E:=E0) (Q:=up X.K H1 Q) F hr hb .nil pass0 I1 rvs ?_) fun u s' z=>(jXy hs1 z).ext e1
 rw[List.append_nil]
 exact⟨by rw[<-ras.length];exact C.len _ _ _ q,xs,G1,ras,hg1,C.mono _ _ _ _ (fun t G' hq v H' e g r=>⟨t,G',e,g,r,hq⟩) q⟩
noncomputable def jUd:=jVw
theorem kKz {X:Cx}:Call3 X (.type "list") jUd:=c_list
end L3
namespace L3
open PySem PySem.Spec PyProof.Rows
inductive Res where
 | val (t:T) | newL (xs:List T)
noncomputable def fin3:Res->Gp->VK3->Prop
 | .val t,G,Q=>Q t G
 | .newL xs,G,Q=>∀p,G p=none->Q (.ref p) (gup G p (.lst xs))
theorem Op3.imp {X:L2.Cx} {f:Value->Value->Sem Value} {r r':R3} (h:Op3 X f r) (i:∀x y G Q,r' x y G Q->r x y G Q):Op3 X f r':=fun pins s τ G H x y v u Q I rx ry q=>h pins s τ G H x y v u Q I rx ry (i x y G Q q)
theorem Ix3.imp {X:L2.Cx} {r r':R3} (h:Ix3 X r) (i:∀x y G Q,r' x y G Q->r x y G Q):Ix3 X r':=fun a b pins s τ G H x y v u Q I rx ry q hs=>h a b pins s τ G H x y v u Q I rx ry (i x y G Q q) hs
theorem Set3.imp {X:L2.Cx} {r r':T->T->T->Gp->(Gp->Prop)->Prop} (h:Set3 X r) (i:∀o j v G Q,r' o j v G Q->r o j v G Q):Set3 X r':=fun pins s τ G H o j v a b c Q I ro rj rv q=>h pins s τ G H o j v a b c Q I ro rj rv (i o j v G Q q)
theorem Sl3.imp {X:L2.Cx} {r r':T->Option Int->Option Int->Gp->VK3->Prop} (h:Sl3 X r) (i:∀x l u G Q,r' x l u G Q->r x l u G Q):Sl3 X r':=fun pins s τ G H x v vl vu lo hi sl Q I rx hs pl pu q=>h pins s τ G H x v vl vu lo hi sl Q I rx hs pl pu (i x lo hi G Q q)
noncomputable def addR (G:Gp):T->T->Option Res
 | .int i,.int j=>some (.val (.int (i+j)))
 | .ref p,.ref q=>match G p,G q with
  | some (.lst xs),some (.lst ys)=>if xs.length+ys.length<=sizeLine then some (.newL (xs++ys)) else none
  | _,_=>none
 | .tup xs,.tup ys=>if xs.length≠0/\xs.length+ys.length<=sizeLine then some (.val (.tup (xs++ys))) else none
 | _,_=>none
noncomputable def jKk:R3:=fun x y G Q=>∃r,addR G x y=some r/\fin3 r G Q
theorem add_F {x y:T} {G:Gp} {Q:VK3} (h:jKk x y G Q):rAddA x y G Q:=by
 obtain⟨r,hr,q⟩:=h
 unfold addR at hr
 split at hr
 ·cases hr;exact .inl ⟨_,_,rfl,rfl,q⟩
 ·rename_i p q'
  split at hr
  ·rename_i xs ys h1 h2
   split at hr
   ·rename_i hz;cases hr;exact .inr (.inl ⟨p,q',xs,ys,rfl,rfl,h1,h2,hz,q⟩)
   ·cases hr
  ·cases hr
 ·rename_i xs ys
  split at hr
  ·rename_i hz;cases hr;exact .inr (.inr ⟨xs,ys,rfl,rfl,fun z=>hz.1 (by rw[z];rfl),hz.2,q⟩)
  ·cases hr
 ·cases hr
theorem o_addF {X:L2.Cx}:Op3 X (binaryOp .Add) jKk:=o_addA.imp fun _ _ _ _=>add_F
noncomputable def mulR (G:Gp):T->T->Option Res
 | .int i,.int j=>some (.val (.int (i*j)))
 | .ref p,.int n=>match G p with
  | some (.lst xs)=>if n.toNat * xs.length<=sizeLine/\n<2^62/\ -(2^62)<n then some (.newL (List.replicate n.toNat xs).flatten) else none
  | _=>none
 | _,_=>none
noncomputable def mulC:T->T->Prop
 | .int i,.int j=>L2.CMul i j
 | _,_=>True
noncomputable def jXt:R3:=fun x y G Q=>∃r,mulR G x y=some r/\mulC x y/\fin3 r G Q
theorem mul_F {x y:T} {G:Gp} {Q:VK3} (h:jXt x y G Q):rMulA x y G Q:=by
 obtain⟨r,hr,c,q⟩:=h
 unfold mulR at hr
 split at hr
 ·cases hr;exact .inl ⟨_,_,rfl,rfl,c,q⟩
 ·rename_i p n
  split at hr
  ·rename_i xs h1
   split at hr
   ·rename_i hz;cases hr;exact .inr ⟨p,xs,n,rfl,rfl,h1,hz.1,hz.2.1,hz.2.2,q⟩
   ·cases hr
  ·cases hr
 ·cases hr
theorem jVi {X:L2.Cx}:Op3 X (binaryOp .Mult) jXt:=o_mulA.imp fun _ _ _ _=>mul_F
noncomputable def ixR (G:Gp) (x y:T):Option T:=match seqT G x with
 | some xs=>match y with
  | .int i=>L2.atI xs i
  | _=>none
 | none=>match dAt G x y with
  | some o=>o
  | none=>none
noncomputable def rIxF:R3:=fun x y G Q=>∃t,ixR G x y=some t/\Q t G
theorem ix_F' {x y:T} {G:Gp} {Q:VK3} (h:rIxF x y G Q):rIxA x y G Q:=by
 obtain⟨t,ht,q⟩:=h
 unfold ixR at ht
 split at ht
 ·rename_i xs hx
  split at ht
  ·rename_i i;exact .inl ⟨xs,i,t,hx,rfl,ht,q⟩
  ·cases ht
 ·split at ht
  ·rename_i o ho;subst ht;exact .inr ⟨t,ho,q⟩
  ·cases ht
theorem ix_F {X:L2.Cx} (hu:X.A.units+20<cLine):Ix3 X rIxF:=(ix_anyA hu).imp fun _ _ _ _=>ix_F'
noncomputable def setR (G:Gp) (o i v:T):Option Gp:=match o with
 | .ref p=>match G p with
  | some (.lst xs)=>match i with
   | .int k=>match L2.ixN xs.length k with
    | some j=>some (gup G p (.lst (xs.set j v)))
    | none=>none
   | _=>none
  | some (.dct kvs)=>match i with
   | .tup ys=>match jXa ys with
    | some ks=>if kvs.length<sizeLine then some (gup G p (.dct (putT kvs ks v))) else none
    | none=>none
   | _=>none
  | some (.dck kvs)=>match keyOf i with
   | some k=>if kvs.length<sizeLine then some (gup G p (.dck (putT kvs k v))) else none
   | none=>none
  | some (.fdc _)=>none
  | some (.ins _ _)=>none
  | none=>none
 | _=>none
noncomputable def jXx:T->T->T->Gp->(Gp->Prop)->Prop:=fun o i v G Q=>∃G',setR G o i v=some G'/\Q G'
theorem set_F' {o i v:T} {G:Gp} {Q:Gp->Prop} (h:jXx o i v G Q):rSetA o i v G Q:=by
 obtain⟨G',hr,q⟩:=h
 unfold setR at hr
 split at hr
 ·rename_i p
  split at hr
  ·rename_i xs h1
   split at hr
   ·rename_i k
    split at hr
    ·rename_i j hj;cases hr;exact .inl ⟨p,xs,k,j,rfl,rfl,h1,hj,q⟩
    ·cases hr
   ·cases hr
  ·rename_i kvs h1
   split at hr
   ·rename_i ys
    split at hr
    ·rename_i ks hk
     split at hr
     ·rename_i hz;cases hr;exact .inr (.inl ⟨p,ys,ks,kvs,rfl,rfl,hk,h1,hz,q⟩)
     ·cases hr
    ·cases hr
   ·cases hr
  ·rename_i kvs h1
   split at hr
   ·rename_i k hk
    split at hr
    ·rename_i hz;cases hr;exact .inr (.inr ⟨p,k,kvs,rfl,hk,h1,hz,q⟩)
    ·cases hr
   ·cases hr
  ·cases hr
  ·cases hr
  ·cases hr
 ·cases hr
theorem s_F {X:L2.Cx} (hu:X.A.units+20<cLine):Set3 X jXx:=(s_any hu).imp fun _ _ _ _ _=>set_F'
noncomputable def rLeF:R3:=fun x y G Q=>∃b,(match x,y with
 | .int i,.int j=>some (decide (i<=j))
 | .tup [.int a,.int b],.tup [.int c,.int d]=>some (HT.lexLe [a,b] [c,d])
 | _,_=>none)=some b/\Q (.bl b) G
theorem le_F' {x y:T} {G:Gp} {Q:VK3} (h:rLeF x y G Q):rLeA x y G Q:=by
 obtain⟨b,hb,q⟩:=h
 split at hb
 ·cases hb;exact .inl ⟨_,_,rfl,rfl,q⟩
 ·cases hb;exact .inr ⟨_,_,rfl,rfl,q⟩
 ·cases hb
theorem o_leF {X:L2.Cx} (hu:X.A.units+20<cLine):Op3 X (compareOp .LtE) rLeF:=(o_leA hu).imp fun _ _ _ _=>le_F'
noncomputable def inR (G:Gp) (x y:T):Option Bool:=match seqT G y with
 | some xs=>if jZl x=true/\xs.all jZl=true then some (inT x xs) else none
 | none=>match dAt G y x with
  | some o=>some o.isSome
  | none=>none
noncomputable def rInFu:R3:=fun x y G Q=>∃b,inR G x y=some b/\Q (.bl b) G
noncomputable def jZa:R3:=fun x y G Q=>∃b,inR G x y=some b/\Q (.bl (!b)) G
theorem in_F' {x y:T} {G:Gp} {Q:VK3} (h:rInFu x y G Q):rInL x y G Q:=by
 obtain⟨b,hb,q⟩:=h
 unfold inR at hb
 split at hb
 ·rename_i xs hx
  split at hb
  ·rename_i hc;cases hb;exact .inl ⟨xs,hx,hc.1,hc.2,q⟩
  ·cases hb
 ·split at hb
  ·rename_i o ho;cases hb;exact .inr ⟨o,ho,q⟩
  ·cases hb
theorem notIn_F' {x y:T} {G:Gp} {Q:VK3} (h:jZa x y G Q):rNotInL x y G Q:=by
 obtain⟨b,hb,q⟩:=h
 unfold inR at hb
 split at hb
 ·rename_i xs hx
  split at hb
  ·rename_i hc;cases hb;exact .inl ⟨xs,hx,hc.1,hc.2,q⟩
  ·cases hb
 ·split at hb
  ·rename_i o ho;cases hb;exact .inr ⟨o,ho,q⟩
  ·cases hb
theorem o_inFu {X:L2.Cx} (hu:X.A.units+20<cLine):Op3 X (compareOp .In) rInFu:=(o_in hu).imp fun _ _ _ _=>in_F'
theorem o_notInFu {X:L2.Cx} (hu:X.A.units+20<cLine):Op3 X (compareOp .NotIn) jZa:=(o_notIn hu).imp fun _ _ _ _=>notIn_F'
noncomputable def slR (G:Gp) (x:T) (lo hi:Option Int):Option Res:=match x with
 | .tup xs=>some (.val (.tup (cutT xs lo hi)))
 | .scr xs=>some (.newL (cutT xs lo hi))
 | .ref p=>match G p with
  | some (.lst xs)=>some (.newL (cutT xs lo hi))
  | _=>none
 | _=>none
noncomputable def rSlF:T->Option Int->Option Int->Gp->VK3->Prop:=fun x lo hi G Q=>∃r,slR G x lo hi=some r/\fin3 r G Q
theorem sl_F' {x:T} {lo hi:Option Int} {G:Gp} {Q:VK3} (h:rSlF x lo hi G Q):rSlA x lo hi G Q:=by
 obtain⟨r,hr,q⟩:=h
 unfold slR at hr
 split at hr
 ·cases hr;exact .inr ⟨_,rfl,q⟩
 ·cases hr;exact .inl ⟨_,rfl,q⟩
 ·split at hr
  ·rename_i xs h1;cases hr;exact .inl ⟨xs,by simp only[jV8,h1,asL],q⟩
  ·cases hr
 ·cases hr
theorem sl_F {X:L2.Cx}:Sl3 X rSlF:=sl_any.imp fun _ _ _ _ _=>sl_F'
end L3
namespace L2
open PySem PySem.Spec PyProof.Rows
noncomputable def Its (lo c:Int) (n:Nat):It:=⟨fun i _=>i<n,fun i H x H'=>H'=H/\x= .int (lo+i*c),fun i _=>n<=i⟩
theorem turn_ranges {P:Program} {w:World} {K:PySem.W.Frag} {tg:Expr} (it:Addr) (lo c:Int) (n:Nat):Turn P w K tg (Its lo c n) [it] it (fun i h=>IsRangeIter h it (lo+(i:Nat)*c) ((n:Int)-(i:Nat)) c) where
 mem:=by simp
 obj:=fun i h st b hb=>by
  have e:b=it:=by simpa using hb
  subst e
  exact⟨_,st,fun v z=>by
   have z':Data.fields _=Data.cell v:=z
   cases z'⟩
 keep:=fun i h h' st k=>k it (by simp) _ st
 item:=by
  intro X hP hw hK hc i pins s σ H E I hf st hg
  subst hP hw hK
  obtain⟨f0,f1,f2,f3,f4,f5⟩:=hf it (by simp)
  have W:=Walks.range (prog:=X.prog) (w:=X.w) (I.ok.hd hc) it lo c n
  refine W.item i s _ _ hg st fun v h' tk hv st' kk=> ?_
  obtain⟨t,rfl⟩:=hv
  have I1:Inv X pins σ H {s with heap:=h',toks:=tk}:=I.turned (fun b o hb e=>kk b o (by simpa using hb) e) f0 f1 f3 f4 f5
  exact⟨_,rfl,go_of (s:={s with heap:=h',toks:=tk}) (n:="range_iterator") st' rfl rfl (by decide) ⟨.int (lo+i*c),H,I1,⟨t,rfl⟩,⟨rfl,rfl⟩,st',fun b hb=>(hf b hb).1⟩⟩
 done:=by
  intro X hP hw hK hc i pins s σ H E I hf st hg
  subst hP hw hK
  obtain⟨f0,f1,f2,f3,f4,f5⟩:=hf it (by simp)
  exact wpAny_pyNext_range_end (I.ok.hd hc) st (by have:n<=i:=hg;omega) fun h' eb=>⟨rfl,I.turned (t':=s.toks) (fun b o hb e=>eb b o hb e) f0 f1 f3 f4 f5⟩
 self:=fun _ _ _ _ _ st h=>wpAny_pyIter_rangeiter st h
section
variable {X:Cx} {tg:Expr}
theorem ranges_it {pins:List (Addr×Obj)} {σ:St} {H:Hp} {s:Shared} {R:It->Hp->Prop} {E:Value->Shared->Prop} {lo hi c:Int} {t u v:Tok} {tk:Nat} (I:Inv X pins σ H s) (hsm:Builtin.Range.small lo hi c=true)
  (q:R (Its lo c (Builtin.Range.rangeSize lo hi c).toNat) H):wpAny (model X.prog X.w) X.A (pyIter (.ref s.heap.objs.size)) (PIE X pins σ tg R) E {s with heap:=s.heap.push {cls:= .type "range",data:= .fields #[.int lo t,.int hi u,.int c v]},toks:=tk}:=by
 refine wpAny_pyIter_range (IsRange.new ..) hsm ?_
 have I1:Inv X pins σ H {s with heap:=s.heap.push {cls:= .type "range",data:= .fields #[.int lo t,.int hi u,.int c v]},toks:=tk}:=I.kept fun b o e=>Heap.get?_push_of_some _ e
 refine⟨(s.heap.push {cls:= .type "range",data:= .fields #[.int lo t,.int hi u,.int c v]}).objs.size,[(s.heap.push {cls:= .type "range",data:= .fields #[.int lo t,.int hi u,.int c v]}).objs.size],_,_,H,rfl,
  I1.kept (t':=tk) fun b o e=>Heap.get?_push_of_some _ e,turn_ranges _ lo c (Builtin.Range.rangeSize lo hi c).toNat,?_,fun b hb=> ?_,q⟩
 ·show IsRangeIter _ _ (lo+((0:Nat):Int)*c) ((((Builtin.Range.rangeSize lo hi c).toNat:Nat):Int)-((0:Nat):Int)) c
  rw[<-rangeSize_toNat,show lo+((0:Nat):Int)*c=lo by simp,show Builtin.Range.rangeSize lo hi c-((0:Nat):Int)=Builtin.Range.rangeSize lo hi c by simp]
  exact Heap.get?_push_size _ rfl
 ·have e:b=(s.heap.push {cls:= .type "range",data:= .fields #[.int lo t,.int hi u,.int c v]}).objs.size:=by simpa using hb
  subst e
  exact I1.fpOk (lJd _) (I1.hok.fresh (lJd _))
end
end L2
namespace L3
open PySem PySem.Spec PyProof.Rows L2
noncomputable def rngS (lo c:Int) (n:Nat):List T:=(List.range n).map fun (k:Nat)=>T.int (lo+k*c)
noncomputable def iRng3 (ta:TA3):TI3:=fun τ G R=>ta τ G fun vs G1=>∃i j c:Int,vs=[.int i,.int j,.int c]/\(c≠0/\c.natAbs<1073741824/\Builtin.Range.small i j c=true)/\R (rngS i c (Builtin.Range.rangeSize i j c).toNat) (fun _=>True) G1
theorem items_rngS {K:PySem.W.Frag} {H:Hp} (lo c:Int) (n:Nat):Items K H (Its lo c n) (rngS lo c n) fun _=>True:=by
 intro i H' G e g _
 have hl:(rngS lo c n).length=n:=by simp[rngS]
 refine⟨fun h=>by rw[hl] at h;exact h,fun h=>by rw[hl] at h;exact h,fun hi x H2 ⟨eH,ex⟩=> ?_⟩
 rw[hl] at hi
 subst eH;subst ex
 exact⟨.refl _,g,.int (lo+i*c),by simp[rngS,hi],rfl⟩
theorem i_range3 {X:Cx} {tg:Expr} {pos:Pos} {a b c:Expr} {ta:TA3} {p:Pos} (hg:Gl X "range") (hm:X.mg "range"=none) (ha:PA3 X [a,b,c] ta) (hs:starEach [a,b,c] X.env=[(false,eval a X.env),(false,eval b X.env),(false,eval c X.env)]:=by rfl) (hs2:starEach [b,c] X.env=[(false,eval b X.env),(false,eval c X.env)]:=by rfl):
  PI3 X tg (.Call (.Name "range" p) [a,b,c] [] pos) (iRng3 ta):=by
 intro pins s τ G H R I h
 obtain⟨σ,I0,hs0,hg0⟩:=id I
 refine Call_ (jXr I0 hg hm boot_range (PyProof.Rows.callWith_type1 (thn (ha pos pins s τ G H _ I h) fun us s1 w_=>w_.el fun xs G1 H1 e1 i_ r_ q1=>i_.el fun σ I1 hs1 hg1=>r_.el fun as ras rvs=> ?_) (by rw[hs,hs2]) (by rw[hs2];rfl)))
 obtain⟨i,j,k,e,⟨q1,q2,q3⟩,q⟩:=q1
 subst e
 obtain⟨v,as1,rfl,rv,ras1⟩:=ras
 obtain⟨w,z,rfl,rw',rz⟩:=kK9 ras1
 cases (show v= .int i from rv);cases (show w= .int j from rw');cases (show z= .int k from rz)
 cases rvs with
 | cons ru rvs=>
  obtain⟨u',u'',rfl,ru',ru''⟩:=Vals.two rvs
  obtain⟨t,rfl⟩:=ru
  obtain⟨t',rfl⟩:=ru'
  obtain⟨t'',rfl⟩:=ru''
  refine call_range_3 q1 (thn (ranges_it (tg:=tg) (R:=fun J H'=>J=Its i k (Builtin.Range.rangeSize i j k).toNat/\H'=H1) I1 q3 ⟨rfl,rfl⟩) fun itv s2 z=> ?_) (Or.inl (PyProof.noPylong_small q2))
  obtain⟨it,fp,tn,J,H',ei,I2,T0,st,fk,eJ,eH⟩:=z
  subst eJ;subst eH
  exact⟨it,fp,tn,_,rngS i k (Builtin.Range.rangeSize i j k).toNat,fun _=>True,G1,H',ei,e1,⟨σ,I2,hs1,hg1⟩,T0,st,fk,items_rngS i k _,q⟩
def Draw (P:Program) (w:World) (A:Around) (i:Addr) (r:Option Value) (S S':Heap->Prop):Prop:=
 ∀(s:Shared) (Q E:Value->Shared->Prop),S s.heap->
  (∀x g,r=some x->S' g->Heap.SameBut i s.heap g->Q x {s with heap:=g})->
  (∀g e o,r=none->Heap.ExtBut i s.heap g->g.get? e=some o->o.cls= .type "StopIteration"->E (.ref e) {s with heap:=g})->
  wpAny (model P w) A (Builtin.SmallTypes.nextOf (.ref i)) Q E s
def OnTup (i t:Addr) (k:Nat) (xs:Array Value) (h:Heap):Prop:=h.IsTupleIter i t k/\h.IsTuple t xs
theorem kUk {P:Program} {w:World} {A:Around} {i t:Addr} {k:Nat} {xs:Array Value} (hh:A.handled=none) (ne:t≠i):Draw P w A i xs[k]? (OnTup i t k xs) (OnTup i t (k+1) xs):=by
 rintro s Q E ⟨⟨o,ho,hc,hd⟩,q,hq,hqc,n,hn⟩ item stop
 have ty:s.TypeIs (.ref i) "tuple_iterator":=⟨o,ho,hc⟩
 refine wpAny_bind (wpAny_callSpecial?_slot (name:=Str.ofString "__next__") ty F.slot_tuple_iterator_next (wpAny_call_entry F.slot_tuple_iterator_next ty F.entry_tuple_iterator_next ?_ (F.args_tuple_iterator_next_1 _)))
 refine (show wpAny _ _ (field (.ref i) 0 >>= _) _ _ s from wpAny_bind (wpAny_field ho hd (x:= .ref t) rfl ?_))
 refine (show wpAny _ _ (if (Value.ref t == Value.none)=true then _ else field (.ref i) 1 >>= _) _ _ s from ?_)
 rw[if_neg (by exact lJe)]
 refine wpAny_bind (wpAny_field ho hd (x:= .int k 0) rfl (show wpAny _ _ (seqItems? (.ref t) >>= _) _ _ s from wpAny_bind (wpAny_seqItems hq hn ?_)))
 cases hx:xs[k]? with
 | some x=>
  simp only[hx,Int.toNat_natCast]
  have up:OnTup i t (k+1) xs (s.heap.update i (Obj.mapFields (·.setIfInBounds 1 (rawInt ((k:Int)+1))))):=by
   refine⟨⟨_,Heap.get?_update_self _ ho (Obj.isFreed_of_fields (Obj.data_mapFields hd _)),(Obj.cls_mapFields ..).trans hc,?_⟩,q,(Heap.SameBut.update ..).extBut t q ne hq,hqc,n,hn⟩
   rw[Obj.data_mapFields hd];simp[rawInt]
  exact wpAny_bind (wpAny_setField ho hd (by simp) (wpAny_pure ⟨x,rfl,wpAny_pure (item x _ hx up (Heap.SameBut.update ..))⟩))
 | none=>
  simp only[hx,Int.toNat_natCast]
  refine wpAny_bind (wpAny_rule (wpAny_bind (wpAny_setField ho hd (by simp) (show wpAny _ _ (newExc (.type "StopIteration") [] >>= _) _ _ _ from wpAny_bind ?_))))
  simp only[newExc,newTuple,raiseNew]
  refine wpAny_bind (wpAny_newObj_type (wpAny_bind (m:=firstArgMember _ _) (wpAny_of_eq (a:=Value.none) (by first | rfl | (simp only[firstArgMember];rfl)) (wpAny_newObj_type ?_ (by size_fits)))) (by size_fits))
  refine wpAny_bind (wpAny_handled ?_);rw[show A.in1.handled=none from hh]
  exact wpAny_bind (wpAny_pure (wpAny_throw (stop _ _ _ hx (((Heap.SameBut.update ..).extBut.push _).push _) (Heap.get?_push_size _ rfl) rfl)))
noncomputable def itOf (t:Addr):Obj:={cls:= .type "tuple_iterator",data:= .fields #[.ref t,.int 0 0]}
end L3
namespace L3
open PySem
theorem atN {α:Type} {xs:List α} {n:Nat}:L2.atI xs (n:Int)=xs[n]? :=by
 unfold L2.atI L2.ixN
 by_cases h:n<xs.length
 ·simp[h]
 ·simp[h]
theorem at0 {α:Type} {x:α} {xs:List α}:L2.atI (x::xs) 0=some x:=(atN (n:=0)).trans rfl
theorem at1 {α:Type} {x y:α} {xs:List α}:L2.atI (x::y::xs) 1=some y:=(atN (n:=1)).trans rfl
theorem at2 {α:Type} {x y z:α} {xs:List α}:L2.atI (x::y::z::xs) 2=some z:=(atN (n:=2)).trans rfl
theorem atZ {α:Type} {xs:List α} {i:Int} (h:0<=i):L2.atI xs i=xs[i.toNat]? :=by
 obtain⟨n,rfl⟩:=lJm h
 simpa using atN
theorem at_last {α:Type} {xs:List α} {y:α}:L2.atI (xs++[y]) (-1)=some y:=by
 unfold L2.atI L2.ixN
 have:¬ (0:Int)<= -1:=by decide
 simp only[this,if_false]
 rw[if_pos (by simp;omega)]
 have e:(-1+((xs++[y]).length:Int)).toNat=xs.length:=by simp;omega
 rw[e];simp
theorem kVk {n k:Nat} (h:k<n):L2.ixN n (k:Int)=some k:=by simp[L2.ixN,h]
theorem ix0 {n:Nat}:L2.ixN (n+1) 0=some 0:=kVk (k:=0) (by omega)
theorem ix1 {n:Nat}:L2.ixN (n+2) 1=some 1:=kVk (k:=1) (by omega)
theorem ix2 {n:Nat}:L2.ixN (n+3) 2=some 2:=kVk (k:=2) (by omega)
theorem ix30:L2.ixN 3 0=some 0:=ix0
theorem ix31:L2.ixN 3 1=some 1:=ix1
theorem ix32:L2.ixN 3 2=some 2:=ix2
theorem ixZ {n:Nat} {k:Int} (h0:0<=k) (h:k<n):L2.ixN n k=some k.toNat:=by simp[L2.ixN,h0,h]
theorem addR_int {G:Gp} {i j:Int}:addR G (.int i) (.int j)=some (.val (.int (i+j))):=rfl
theorem jZr {G:Gp} {p q:Addr} {xs ys:List T} (h1:G p=some (.lst xs)) (h2:G q=some (.lst ys)) (hz:xs.length+ys.length<=sizeLine):addR G (.ref p) (.ref q)=some (.newL (xs++ys)):=by simp only[addR,h1,h2,hz,if_true]
theorem mulR_int {G:Gp} {i j:Int}:mulR G (.int i) (.int j)=some (.val (.int (i*j))):=rfl
theorem mulC_int {i j:Int}:mulC (.int i) (.int j)=L2.CMul i j:=rfl
theorem mulC_ref {p:Addr} {j:Int}:mulC (.ref p) (.int j)=True:=rfl
theorem fin_val {t:T} {G:Gp} {Q:VK3}:fin3 (.val t) G Q=Q t G:=rfl
theorem jYw {xs:List T} {G:Gp} {Q:VK3}:fin3 (.newL xs) G Q=∀p,G p=none->Q (.ref p) (gup G p (.lst xs)):=rfl
theorem ixR_tup {G:Gp} {xs:List T} {i:Int}:ixR G (.tup xs) (.int i)=L2.atI xs i:=rfl
theorem ixR_scr {G:Gp} {xs:List T} {i:Int}:ixR G (.scr xs) (.int i)=L2.atI xs i:=rfl
theorem jJ2 {G:Gp} {p:Addr} {xs:List T} {i:Int} (h:G p=some (.lst xs)):ixR G (.ref p) (.int i)=L2.atI xs i:=by simp only[ixR,seqT,h,asL]
theorem jYx {G:Gp} {p:Addr} {xs:List T} {k:Int} {j:Nat} {v:T} (h:G p=some (.lst xs)) (hj:L2.ixN xs.length k=some j):setR G (.ref p) (.int k) v=some (gup G p (.lst (xs.set j v))):=by simp only[setR,h,hj]
theorem seqT_tup {G:Gp} {xs:List T}:seqT G (.tup xs)=some xs:=rfl
theorem jJp {G:Gp} {p:Addr} {xs:List T} (h:G p=some (.lst xs)):seqT G (.ref p)=some xs:=by simp only[seqT,h,asL]
theorem setR_m {G:Gp} {p:Addr} {xs:List T} {k:Int} {v:T} (h:G p=some (.lst xs)):setR G (.ref p) (.int k) v=(L2.ixN xs.length k).map fun j=>gup G p (.lst (xs.set j v)):=by
 cases e:L2.ixN xs.length k with
 | none=>simp only[setR,h,e,Option.map_none]
 | some j=>simp only[setR,h,e,lKx]
theorem setR_gup {G:Gp} {p:Addr} {xs:List T} {k:Int} {v:T}:setR (gup G p (.lst xs)) (.ref p) (.int k) v=(L2.ixN xs.length k).map fun j=>gup G p (.lst (xs.set j v)):=by
 rw[setR_m jJg];simp only[gup_gup]
theorem ixR_gup {G:Gp} {p:Addr} {xs:List T} {i:Int}:ixR (gup G p (.lst xs)) (.ref p) (.int i)=L2.atI xs i:=jJ2 jJg
theorem seqT_gup {G:Gp} {p:Addr} {xs:List T}:seqT (gup G p (.lst xs)) (.ref p)=some xs:=jJp jJg
def ForAt (g:TG3) (tb:TS3) (D:Ends3) (τ:St3) (xs:List T) (stay:Gp->Prop) (G:Gp):Prop:=∃P:Nat->St3->Gp->Prop,P 0 τ G/\(∀i τ G,i<=xs.length->P i τ G->stay G)/\
 (∀i x τ G,xs[i]? =some x->P i τ G->g x τ G fun τ2 G2=>tb {D with nx:=P (i+1),ct:=P (i+1),bk:=D.nx} τ2 G2)/\∀ τ G,P xs.length τ G->D.nx τ G
theorem jJ5 {wi:TI3} {g:TG3} {tb:TS3} {D:Ends3} {τ:St3} {G:Gp}:tFor wi g tb D τ G=wi τ G fun xs stay G1=>ForAt g tb D τ xs stay G1:=rfl
def CompAt (mask:List Bool) (g:TG3) (tif:TT3) (te:TE3) (τ:St3) (xs:List T) (stay:Gp->Prop) (G:Gp) (Q:VK3):Prop:=tCompAt mask g tif te τ xs stay G Q
theorem tComp_at {mask:List Bool} {wi:TI3} {g:TG3} {tif:TT3} {te:TE3} {τ:St3} {G:Gp} {Q:VK3}:jQ3 mask wi g tif te τ G Q=wi τ G fun xs stay G1=>CompAt mask g tif te τ xs stay G1 Q:=rfl
def Sub (G G':Gp):Prop:=∀c o,G c=some o->G' c=some o
theorem Sub.refl (G:Gp):Sub G G:=fun _ _ h=>h
theorem Sub.trans {G G1 G2:Gp} (h:Sub G G1) (h':Sub G1 G2):Sub G G2:=fun c o e=>h' c o (h c o e)
theorem Sub.new {p:Addr} {G:Gp} {o:GO} (hp:G p=none):Sub G (gup G p o):=fun c u e=>by rw[jJt];exact e;rintro rfl;rw[hp] at e;cases e
theorem Sub.over {p:Addr} {G G':Gp} {o:GO} (h:Sub G G') (hp:G p=none):Sub G (gup G' p o):=fun c u e=>by rw[jJt];exact h c u e;rintro rfl;rw[hp] at e;cases e
theorem Sub.none {G G':Gp} {p:Addr} (h:Sub G G') (hp:G' p=none):G p=none:=by
 cases e:G p with
 | none=>rfl
 | some o=>rw[h p o e] at hp;cases hp
theorem jQz {G:Gp} {a p:Addr} {o:GO} (h:gup G a o p=none):p≠a/\G p=none:=by
 by_cases e:p=a
 ·subst e;rw[jJg] at h;cases h
 ·rw[jJt e] at h;exact⟨e,h⟩
theorem jJe {G:Gp} {a p:Addr} {o:GO} (h:G a=some o) (hp:G p=none):a≠p:=by rintro rfl;rw[h] at hp;cases hp
theorem Sub.seq {G G':Gp} {x:T} {xs:List T} (h:Sub G G') (e:seqT G x=some xs):seqT G' x=some xs:=by
 cases x with
 | ref p=>have:=jYn e;simp only[seqT,h p _ this,asL]
 | tup _=>exact e
 | scr _=>exact e
 | non=>exact e
 | bl _=>exact e
 | int _=>exact e
 | str _=>exact e
 | ty _=>exact e
theorem jUa {α β:Type} {enc:α->β} {es:List α} {i:Nat} {x:β} (h:(es.map enc)[i]? =some x):∃e,es[i]? =some e/\x=enc e:=by
 rw[lJf] at h
 cases e1:es[i]? with
 | none=>rw[e1] at h;cases h
 | some e=>rw[e1] at h;exact⟨e,rfl,(lJ0 h).symm⟩
theorem jZo {α:Type} {mask:List Bool} {g:TG3} {tif:TT3} {te:TE3} {τ:St3} {es:List α} {enc:α->T} {stay:Gp->Prop} {G:Gp} {Q:VK3} (f:α->Option T) (hz:es.length<=sizeLine) (hst:∀G',Sub G G'->stay G')
  (h:∀(i:Nat) e,es[i]? =some e->∀G' (K:T->Gp->Prop) (K0:Gp->Prop),Sub G G'->(∀y G4,f e=some y->Sub G' G4->K y G4)->(f e=none->∀G4,Sub G' G4->K0 G4)->g (enc e) (msk mask τ) G' fun τ2 G2=>tif τ2 G2 fun b G3=>if b=true then te τ2 G3 K else K0 G3)
  (hq:∀D G',G D=none->G' D=some (.lst (es.filterMap f))->Sub G G'->Q (.ref D) G'):CompAt mask g tif te τ (es.map enc) stay G Q:=by
 intro D hD
 refine⟨fun i acc G'=>acc=(es.take i).filterMap f/\G' D=some (.lst acc)/\Sub G G',⟨by simp,jJg,.new hD⟩,?_,?_,?_⟩
 ·rintro i acc G' hi ⟨ea,eg,hs⟩
  exact⟨hst G' hs,eg⟩
 ·rintro i x acc G' hx0 ⟨ea,eg,hs⟩
  obtain⟨e,hx,rfl⟩:=jUa hx0
  have hi:i<es.length:=(lJa.mp hx).1
  have tk:es.take (i+1)=es.take i++[e]:=by rw[lKj,hx];rfl
  have hlen:acc.length<sizeLine:=by
   have h1:acc.length<=(es.take i).length:=by rw[ea];exact List.length_filterMap_le _ _
   rw[lKm] at h1;omega
  refine h i e hx G' _ _ hs (fun y G4 hy h4=>⟨h4 D _ eg,hlen,?_,jJg,(hs.trans h4).over hD⟩) fun hn G4 h4=>⟨?_,h4 D _ eg,hs.trans h4⟩
  ·rw[tk,lK7,<-ea];simp[hy]
  ·rw[tk,lK7,<-ea];simp[hn]
 ·rintro acc G' ⟨ea,eg,hs⟩
  rw[lJb,lKy] at ea
  rw[ea] at eg
  exact hq D G' hD eg hs
theorem jQh {α:Type} {mask:List Bool} {g:TG3} {tif:TT3} {te:TE3} {τ:St3} {es:List α} {enc:α->T} {stay:Gp->Prop} {G:Gp} {Q:VK3} (f:α->T) (hz:es.length<=sizeLine) (hst:∀G',Sub G G'->stay G')
  (h:∀(i:Nat) e,es[i]? =some e->∀G' (K:T->Gp->Prop) (K0:Gp->Prop),Sub G G'->(∀G4,Sub G' G4->K (f e) G4)->g (enc e) (msk mask τ) G' fun τ2 G2=>tif τ2 G2 fun b G3=>if b=true then te τ2 G3 K else K0 G3)
  (hq:∀D G',G D=none->G' D=some (.lst (es.map f))->Sub G G'->Q (.ref D) G'):CompAt mask g tif te τ (es.map enc) stay G Q:=by
 refine jZo (fun e=>some (f e)) hz hst (fun i e he G' K K0 hs hk _=>h i e he G' K K0 hs fun G4 h4=>hk _ G4 rfl h4) fun D G' hD h1 h2=>hq D G' hD ?_ h2
 rw[h1];congr 2;induction es with
 | nil=>rfl
 | cons a as ih=>simp
theorem jQg {G:Gp} {p:Addr} {xs:List T} (h:G p=some (.lst xs)):tyT G "list" (.ref p)=True:=by simp[tyT,h]
theorem tyT_gup {G:Gp} {p:Addr} {xs:List T}:tyT (gup G p (.lst xs)) "list" (.ref p)=True:=jQg jJg
theorem jZ8 {α:Type} {mask:List Bool} {g:TG3} {tif:TT3} {te:TE3} {τ:St3} {es:List α} {enc:α->T} {stay:Gp->Prop} {G:Gp} {Q:VK3} (f:α->List T) (hz:es.length<=sizeLine) (hst:∀G',Sub G G'->stay G')
  (h:∀(i:Nat) e,es[i]? =some e->∀G' (K:T->Gp->Prop) (K0:Gp->Prop),Sub G G'->(∀p G4,G' p=none->G4 p=some (.lst (f e))->Sub G' G4->K (.ref p) G4)->g (enc e) (msk mask τ) G' fun τ2 G2=>tif τ2 G2 fun b G3=>if b=true then te τ2 G3 K else K0 G3)
  (hq:∀D rs G',G D=none->G' D=some (.lst (rs.map T.ref))->Sub G G'->rs.length=es.length->(D::rs).Nodup->(∀(i:Nat) (r:Addr) (e:α),rs[i]? =some r->es[i]? =some e->G r=none/\G' r=some (.lst (f e)))->Q (.ref D) G'):CompAt mask g tif te τ (es.map enc) stay G Q:=by
 intro D hD
 refine⟨fun i acc G'=>∃rs:List Addr,acc=rs.map T.ref/\rs.length=i/\G' D=some (.lst acc)/\Sub G G'/\(D::rs).Nodup/\(∀(i:Nat) (r:Addr) (e:α),rs[i]? =some r->es[i]? =some e->G r=none/\G' r=some (.lst (f e))),⟨[],rfl,rfl,jJg,.new hD,by simp,by simp⟩,?_,?_,?_⟩
 ·rintro i acc G' hi ⟨rs,ea,hl,eg,hs,hn,hr⟩
  exact⟨hst G' hs,eg⟩
 ·rintro i x acc G' hx0 ⟨rs,ea,hl,eg,hs,hn,hr⟩
  obtain⟨e,hx,rfl⟩:=jUa hx0
  have hi:i<es.length:=(lJa.mp hx).1
  have hlen:acc.length<sizeLine:=by rw[ea,lJb];omega
  refine h i e hx G' _ _ hs fun p G4 hp h4 s4=>⟨s4 D _ eg,hlen,rs++[p],by simp[ea],by simp[hl],jJg,(hs.trans s4).over hD,?_,?_⟩
  ·have hDp:D≠p:=jJe eg hp
   have hpr:p∉rs:=by
    intro hm
    obtain⟨j,hj⟩:∃j:Nat,_:=lJs hm
    have hjl:j<rs.length:=(lJa.mp hj).1
    have:=(hr j p es[j] hj (lJc (by omega))).2
    rw[hp] at this;cases this
   rw[lKc] at hn
   simp only[lKc,lJu,lJp,not_or,lK1,lK8,not_false_eq_true,List.nodup_nil,and_true]
   exact⟨⟨hn.1,hDp⟩,hn.2,trivial,fun a ha b hb=>by subst hb;rintro rfl;exact hpr ha⟩
  ·intro j r e' hj he'
   have hjl:j<rs.length+1:=by have:=(lJa.mp hj).1;simpa using this
   by_cases hjr:j<rs.length
   ·rw[lJy hjr] at hj
    obtain⟨q1,q2⟩:=hr j r e' hj he'
    have:r≠D:=by rintro rfl;exact (lKc.mp hn).1 (lJg hj)
    exact⟨q1,by rw[jJt this];exact s4 _ _ q2⟩
   ·have hj2:j=rs.length:=by omega
    subst hj2
    rw[lKn (lJd _)] at hj
    simp at hj
    subst hj
    rw[hl,hx] at he';cases he'
    exact⟨hs.none hp,by rw[jJt (jJe eg hp).symm];exact h4⟩
 ·rintro acc G' ⟨rs,ea,hl,eg,hs,hn,hr⟩
  rw[ea] at eg
  exact hq D rs G' hD eg hs (by simpa using hl) hn hr
end L3
namespace L3
open PySem PySem.Spec PyProof.Rows L2
section
variable {X:Cx}
noncomputable def rAddE:R3:=fun x y G Q=>∃ys,x= .tup []/\y= .tup ys/\Q (.tup ys) G
theorem o_addE:Op3 X (binaryOp .Add) rAddE:=by
 rintro pins s τ G H x y v u Q ⟨σ,I,hs,hg⟩ ⟨a,ra,rv⟩ ⟨b,rb,ru⟩ ⟨ys,ex,ey,q⟩
 subst ex;subst ey
 obtain⟨pa,vs,rfl,h1,r1⟩:=(show ∃p vs,a= .ref p/\H p=some (.tup vs)/\Reps X.K H [] vs from ra)
 obtain⟨pb,ws,rfl,h2,r2⟩:=(show ∃p vs,b= .ref p/\H p=some (.tup vs)/\Reps X.K H ys vs from rb)
 cases rv;cases ru
 obtain⟨its,q1,p1,_⟩:=I.tuple (.of h1)
 obtain⟨its2,q2,p2,_⟩:=I.tuple (.of h2)
 have e0:its.toArray.isEmpty=true:=by
  have e1:=r1.length
  have e2:=q1.length
  have:its=[]:=lK9 (by simp at e1;omega)
  rw[this];rfl
 obtain⟨⟨cls,dd,data,sl⟩,ho,hc,n,hd⟩:=id p1
 obtain⟨⟨cls2,dd2,data2,sl2⟩,ho2,hc2,n2,hd2⟩:=id p2
 simp only at hc hd hc2 hd2
 subst hc hd hc2 hd2
 exact concat_meets ⟨_,ho,rfl⟩ ⟨_,ho2,rfl⟩ noFill_tuple_add seq_tuple_add PySem.F.slot_tuple_add PySem.F.entry_tuple_add (PySem.F.args_tuple_add_2 _ _) (tuple_addW0 pa pb its.toArray its2.toArray n n2 dd dd2 sl sl2 e0)
  ⟨ho,ho2,.tup ys,G,H,.refl H,⟨σ,I,hs,hg⟩,⟨.ref pb,⟨pb,ws,rfl,h2,r2⟩,rfl⟩,q⟩
noncomputable def jJ3:R3:=fun x y G Q=>jKk x y G Q\/rAddE x y G Q
theorem jUe:Op3 X (binaryOp .Add) jJ3:=o_addF.or o_addE
end
theorem draws_tup {P:Program} {w:World} {A:Around} (hh:A.handled=none) (it t:Addr) (ne:t≠it) (xs:Array Value):Draws P w A it [it,t] xs.size (fun i v=>xs[i]? =some v) (fun i h=>OnTup it t i xs h) where
 live:=fun _ _ ⟨⟨o,ho,_⟩,_⟩=>⟨o,ho⟩
 frame:=fun _ _ _ ⟨⟨o,ho,r⟩,⟨q,hq,r'⟩⟩ k=>⟨⟨o,k it (by simp) o ho,r⟩,⟨q,k t (by simp) q hq,r'⟩⟩
 item:=fun i s Q E hi st hQ=>kUk hh ne s Q E st (fun x g e s' b=>hQ x g s.toks e s' b) fun _ _ _ e=>by rw[Array.getElem?_eq_getElem hi] at e;cases e
 done:=fun s Q E st hE=>kUk hh ne s Q E st (fun x _ e=>by rw[Array.getElem?_eq_none (lJd _)] at e;cases e) fun g e o _ b he hc=>hE g e b ⟨o,he,hc⟩
noncomputable def enumOf (i:Addr):Obj:={cls:= .type "enumerate",data:= .fields #[.none,.bool false,.ref i,rawInt 0,.none,.none]}
theorem enum_new (t:Addr) (xs:Array Value):
  Meets (Builtin.«enumerate.__new__» ⟨[.type "enumerate",.ref t],[]⟩) fun _ R s=>s.heap.IsTuple t xs/\R (.ok (.ret (.ref (s.heap.push (itOf t)).objs.size))) {s with heap:=(s.heap.push (itOf t)).push (enumOf s.heap.objs.size)}:=by
 refine .of_wp fun P w A R s ⟨ht,h⟩=> ?_
 obtain⟨g,a1,a2,a3,a4⟩:=s
 have sb:=sub_enumerate
 have m1:Heap.IsTuple (Shared.heap ⟨g,a1,a2,a3,a4⟩) t xs:=ht
 obtain⟨⟨c,dct,dt,sl⟩,hl,hc,n,hd⟩:=id ht
 replace hc:c= .type "tuple":=hc
 replace hd:dt= .seq xs n:=hd
 subst hc hd
 wp_walk using AutoSeq1.wpAny_loadPart' hl
 refine wpAny_stack_any (fun stk=>wpAny_pure ?_)
 split
 ·rename_i k _ _ _ _ _
  cases (k == Value.type "enumerate")<;>(wp_walk using AutoSeq1.wpAny_loadPart' hl,wpAny_pyIter_tuple m1;exact⟨_,rfl,h⟩)
 ·wp_walk using AutoSeq1.wpAny_loadPart' hl,wpAny_pyIter_tuple m1;exact⟨_,rfl,h⟩
theorem enum_made {P:Program} {w:World} {A:Around} {s:Shared} {t:Addr} {xs:Array Value} {Q E:Value->Shared->Prop} (ht:s.heap.IsTuple t xs)
  (h:∀g n,n=s.heap.objs.size->IsEnum g (n+1) n 0 .none->OnTup n t 0 xs g->(∀c o,s.heap.get? c=some o->g.get? c=some o)->Q (.ref (n+1)) {s with heap:=g}):wpAny (model P w) A (call (.type "enumerate") [.ref t]) Q E s:=by
 refine callType_new F.called_enumerate (by decide) (F.typeCall_enumerate_1 _) (F.newCall_enumerate_1 _) (fun obj=>F.args_object_init_2 obj _) F.entry_enumerate_new (enum_new t xs) ⟨ht,?_⟩
 have hn:∀(g:Heap) (o:Obj),(g.push o).objs.size=g.objs.size+1:=fun _ _=>Heap.size_push ..
 have up:∀ {g:Heap} {o q:Obj} {c:Addr},g.get? c=some q->(g.push o).get? c=some q:=fun e=>Heap.get?_push_of_some _ e
 obtain⟨q,hq,hr⟩:=ht
 have c0:((s.heap.push (itOf t)).push (enumOf s.heap.objs.size)).get? s.heap.objs.size=some (itOf t):=up (Heap.get?_push_size _ rfl)
 have c1:((s.heap.push (itOf t)).push (enumOf s.heap.objs.size)).get? (s.heap.push (itOf t)).objs.size=some (enumOf s.heap.objs.size):=Heap.get?_push_size _ rfl
 show _/\_
 simp only[hn] at c1 ⊢
 exact⟨⟨_,c1,rfl⟩,h _ _ rfl c1 ⟨⟨_,c0,rfl,rfl⟩,q,up (up hq),hr⟩ fun c o e=>up (up e)⟩
theorem jXd {P:Program} {w:World} {A:Around} {s:Shared} {e it t:Addr} {i:Int} {k:Nat} {old:Value} {xs:Array Value} {Q:Option Value->Shared->Prop} {E:Value->Shared->Prop} (hh:A.handled=none) (ne:t≠it) (he:IsEnum s.heap e it i old) (st:OnTup it t k xs s.heap) (hk:xs.size<=k)
  (hQ:∀g,Heap.ExtBut it s.heap g->Q none {s with heap:=g}):wpAny (model P w) A (pyNext (.ref e)) Q E s:=by
 have ty:s.TypeIs (.ref e) "enumerate":=⟨_,he,rfl⟩
 refine wpAny_bind (wpAny_attempt (wpAny_callSpecial?_slot (name:=Str.ofString "__next__") ty F.slot_enumerate_next (wpAny_call_entry F.slot_enumerate_next ty F.entry_enumerate_next ?_ (F.args_enumerate_next_1 _))))
 refine (show wpAny _ _ (field (.ref e) 2 >>= _) _ _ _ from wpAny_bind (wpAny_field he rfl (x:= .ref it) rfl (wpAny_bind ?_)))
 refine kUk (A:=A.in1) hh ne s _ _ st (fun x _ e=>by rw[Array.getElem?_eq_none hk] at e;cases e) fun g x o _ b hx hc=> ?_
 exact wpAny_bind (wpAny_isInstance (T:="StopIteration") (b:=true) ⟨o,hx,hc⟩ isSubtype_stop (wpAny_pure (hQ g b)))
noncomputable def Itn (K:PySem.W.Frag) (a:Addr):It:=
 ⟨fun i H=>∃xs x,SqT K H a xs/\xs[i]? =some x,fun i H x H'=>∃p y,H p=none/\x= .ref p/\(∀xs,SqT K H a xs->xs[i]? =some y)/\H'=upd H p (.tup [.int i,y]),fun i H=>∃xs,SqT K H a xs/\xs.length<=i⟩
theorem enum_off {h:Heap} {a e it:Addr} {i:Int} {old:Value} {k:Nat} {xs:Array Value} (he:IsEnum h e it i old) (hi:h.IsTupleIter it a k) (ht:h.IsTuple a xs):a≠it/\e∉[it,a]:=by
 obtain⟨o,ho,hc,_⟩:=hi
 obtain⟨q,hq,hqc,_⟩:=ht
 refine⟨fun z=> ?_,fun m=> ?_⟩
 ·subst z;rw[ho] at hq;cases hq;rw[hc] at hqc;simp at hqc
 ·simp only[lJk,lK8,or_false] at m
  rcases m with rfl | rfl
  ·rw[he] at ho;cases ho;simp at hc
  ·rw[he] at hq;cases hq;simp at hqc
theorem turn_enumT {P:Program} {w:World} {K:PySem.W.Frag} {elts:List Expr} {k:Nat} {pos:Pos} (a e it:Addr) (hei:e≠it):
  Turn P w K (.Tuple elts k pos) (Itn K a) [e,it] e (fun i h=>(∃old,IsEnum h e it i old)/\h.IsTupleIter it a i) where
 mem:=lKb ..
 obj:=fun i h ⟨⟨old,h1⟩,h2⟩ b hb=>by
  simp only[lK8,lJk,or_false] at hb
  rcases hb with rfl | rfl
  ·exact⟨_,h1,fun v z=>nomatch (show Data.fields _=Data.cell v from z)⟩
  ·obtain⟨o,e2,c,d⟩:=h2
   exact⟨o,e2,fun v z=>by rw[d] at z;cases z⟩
 keep:=fun i h h' ⟨⟨old,h1⟩,h2⟩ kp=>⟨⟨old,kp e (by simp) _ h1⟩,h2.at fun o q=>kp it (by simp) o q⟩
 item:=by
  rintro X hP hw hK hc i pins s σ H E I hf ⟨⟨old,he⟩,hit⟩ ⟨xs,x,hq,hx⟩
  subst hP hw hK
  obtain⟨its,rv,p,hz⟩:=I.tuple hq
  obtain⟨u,hu,ru⟩:=rv.get hx
  have p':s.heap.IsTuple a its.toArray:=p
  obtain⟨nei,hef⟩:=enum_off he hit p'
  have hlt:i<its.toArray.size:=by simpa using (lJa.mp hu).1
  refine wpAny_pyNext_enum_itemD (draws_tup (A:=X.A.in1) (I.ok.hd hc) it a nei its.toArray) he ⟨hit,p'⟩ hlt hei hef fun x' h1 tk hx' ho hit1 hT hsz hk=> ?_
  obtain rfl:u=x':=by simpa[hu] using hx'
  refine⟨_,rfl,wpAny_letOwnedTupleGo_enum ho fun h2 he2 hs2=> ?_⟩
  have hel:e<s.heap.objs.size:=Heap.lt_size he
  have hp2:∀b o,b∉[e,it]->s.heap.get? b=some o->h2.get? b=some o:=fun b o hb q=>by
   simp only[lJk,lK8,or_false,not_or] at hb
   exact (hs2.2 b hb.1).trans (hk b o hb.1 hb.2 q)
  have hT2:h2.get? s.heap.objs.size=some {cls:= .type "tuple",data:= .seq #[.int i tk,u]}:=(hs2.2 _ (Nat.ne_of_gt hel)).trans hT
  have I2:=turnedTup (t':=tk+1) (h':=h2) (p:=s.heap.objs.size) (vs:=[.int i,x]) (us:=[.int i tk,u]) I hp2 hf (lJd _) ⟨_,hT2,rfl,_,rfl,rfl⟩ (.cons ⟨_,rfl⟩ (.cons ru .nil)) (by show 2<=sizeLine;decide)
  refine⟨.ref s.heap.objs.size,_,I2,rfl,⟨_,x,I.hok.fresh (lJd _),rfl,fun ys hy=>by rw[I.tuple_inj hy hq];exact hx,rfl⟩,⟨⟨u,by simpa using he2⟩,hit1.1.at fun o q=>(hs2.2 it hei.symm).trans q⟩,fun b hb=> ?_⟩
  have hbs:∃o,s.heap.get? b=some o:=by
   have hb':=hb
   simp only[lK8,lJk,or_false] at hb'
   rcases hb' with rfl | rfl
   ·exact⟨_,he⟩
   ·obtain⟨o,q,_⟩:=hit;exact⟨o,q⟩
  obtain⟨o,q⟩:=hbs
  rw[jKw (lJj (Heap.lt_size q))]
  exact (hf b hb).1
 done:=by
  rintro X hP hw hK hc i pins s σ H E I hf ⟨⟨old,he⟩,hit⟩ ⟨xs,hq,hx⟩
  subst hP hw hK
  obtain⟨its,rv,p,hz⟩:=I.tuple hq
  have p':s.heap.IsTuple a its.toArray:=p
  obtain⟨nei,hef⟩:=enum_off he hit p'
  have hl:=rv.length
  refine jXd (I.ok.hd hc) nei he ⟨hit,p'⟩ (by simp;omega) fun h1 hx1=>⟨rfl,turnedL (t':=s.toks) I (fun b o hb q=>hx1 b o (fun z=>hb (by simp[z])) q) hf⟩
 self:=fun _ _ _ _ _ ⟨⟨old,he⟩,_⟩ h=>wpAny_pyIter_enum he h
noncomputable def iEnT (ta:TA3):TI3:=fun τ G R=>ta τ G fun vs G1=>∃xs,vs=[.tup xs]/\R (numT xs) (fun _=>True) G1
theorem i_enT {X:Cx} {elts:List Expr} {k:Nat} {tpos pos p:Pos} {a:Expr} {ta:TA3} (hg:Gl X "enumerate") (hm:X.mg "enumerate"=none) (hv:bootBuiltins "enumerate"=some (.type "enumerate")) (ha:PA3 X [a] ta) (hs:starEach [a] X.env=[(false,eval a X.env)]:=by rfl):
  PI3 X (.Tuple elts k tpos) (.Call (.Name "enumerate" p) [a] [] pos) (iEnT ta):=by
 intro pins s τ G H R I h
 obtain⟨σ0,I0,_,_⟩:=id I
 refine Call_ (jXr I0 hg hm hv (PyProof.Rows.callWith_type1 (thn (ha pos pins s τ G H _ I h) fun us s1 w_=>w_.el fun xs' G1 H1 e1 i_ r_ q1=>i_.el fun σ I1 hs1 hg1=>r_.el fun as ras rvs=> ?_) hs rfl))
 obtain⟨xs,e,q⟩:=q1
 subst e
 obtain⟨v,rfl,rv⟩:=jYs ras
 obtain⟨u,rfl,ru⟩:=rvs.one
 obtain⟨pa,vs,rfl,hq,r⟩:=(show ∃p vs,v= .ref p/\H1 p=some (.tup vs)/\Reps X.K H1 xs vs from rv)
 cases ru
 obtain⟨its,rvv,pl,hz⟩:=I1.tuple (.of hq)
 refine enum_made (show s1.heap.IsTuple pa its.toArray from pl) fun h1 n hn he hit hk=> ?_
 subst hn
 have I2:Inv X pins σ H1 {s1 with heap:=h1}:=I1.kept (t':=s1.toks) hk
 refine wpAny_pyIter_enum (Q:=PIE3 X pins τ H (.Tuple elts k tpos) R) he ?_
 have fr:∀b∈[s1.heap.objs.size+1,s1.heap.objs.size],FpOk X pins H1 b:=fun b hb=>by
  simp only[lK8,lJk,or_false] at hb
  have hle:s1.heap.objs.size<=b:=by omega
  exact I1.fpOk hle (I1.hok.fresh hle)
 refine⟨s1.heap.objs.size+1,[s1.heap.objs.size+1,s1.heap.objs.size],_,_,numT xs,fun _=>True,G1,H1,rfl,e1,⟨σ,I2,hs1,hg1⟩,turn_enumT pa _ _ (Nat.succ_ne_self _),⟨⟨.none,he⟩,hit.1⟩,fr,?_,q⟩
 intro i H2 G2 e2 g2 _
 obtain⟨pb,ws,eb,h1',h2⟩:=(show ∃p vs,V.ref pa= .ref p/\H2 p=some (.tup vs)/\Reps X.K H2 xs vs from Rep.mono e2 _ rv)
 cases eb
 have hlen:=h2.length
 refine⟨fun hi=> ?_,fun hi=>⟨ws,.of h1',by rw[jK8] at hi;omega⟩,fun hi y H' ⟨pp,z,hn,ey,hy,eH⟩=> ?_⟩
 ·rw[jK8] at hi
  exact⟨ws,ws[i]'(by omega),.of h1',by simp[hlen▸hi]⟩
 ·subst ey;subst eH
  obtain⟨t,ht,rt⟩:=h2.get' (hy ws (.of h1'))
  exact⟨.upd (.none hn),g2.tupNew hn,_,jXm ht,Rep.tupNew ⟨_,_,rfl,rfl,_,_,rfl,rt,rfl⟩ hn⟩
section
variable {X:Cx}
end
section
variable {X:Cx}
end
end L3
namespace L3
open PySem PySem.Spec PyProof.Rows L2 MeetsSeq
section
variable {X:Cx}
end
end L3
namespace L3
open PySem PySem.Spec PyProof.Rows L2
section
variable {X:Cx}
end
section
variable {X:Cx}
end
section
variable {P:Program} {w:World} {A:Around} {E:Value->Shared->Prop} {s:Shared} {d:Addr}
theorem kJb {o:Obj} {es:Array DictEntry} {ep:Nat} {Q:Value->Shared->Prop} (hd:(d == sysModules)=false) (ho:s.heap.get? d=some o) (hc:o.ExactDict) (hx:o.data= .dict es ep) (hz:es.size<=sizeLine)
  (h:Q (.int es.size (s.toks+1)) {s with toks:=s.toks+1+1}):wpAny (model P w) A (call (.builtin "len") [.ref d]) Q E s:=by
 have hsl:=sizeLine_eq
 have ty:s.TypeIs (.ref d) "dict":=⟨o,ho,hc.1⟩
 refine Calls.call_function_entry kind_len plain_len entry_len (args_len1 _) ?_;unfold Builtin.«len»; refine wpAny_bind (m:=oneArg "len" _) (wpAny_pure ?_)
 have M:MeetsIn P w (Builtin.«dict.__len__» ⟨[.ref d],[]⟩) (fun _ R z=>(∃o es ep,z.heap.get? d=some o/\o.data= .dict es ep/\R (.ok (.ret (.int es.size z.toks))) {z with toks:=z.toks+1})):=
  .of_wp fun A R z ⟨o,es,ep,ho,hx,h⟩=>by
   refine (show wpAny _ _ (dictSize d >>= _) _ _ z from ?_)
   unfold dictSize;refine wpAny_bind (wpAny_bind (wpAny_dictEntries ho hx (wpAny_pure ?_)))
   refine (show wpAny _ _ (Builtin.Dict.pendingCount d >>= _) _ _ z from wpAny_bind (wpAny_pendingCount_other hd (wpAny_ret_mkInt ?_)))
   rw[Nat.add_zero];exact h
 refine wpAny_bind (m:=callSpecial? (.ref d) (Str.ofString "__len__")) (wpAny_callSpecial?_slot (name:=Str.ofString "__len__") ty F.slot_dict_len (call_meetsIn F.slot_dict_len ty F.entry_dict_len (F.args_dict_len_1 _) M ⟨o,es,ep,ho,hx,?_⟩))
 refine (show wpAny _ _ _ _ _ {s with toks:=s.toks+1} from wpAny_bind (wpAny_holding (wpAny_pure (wpAny_bind (wpAny_letGo ?_)))))
 refine (show wpAny _ _ (if ((es.size:Nat):Int)<0 then _ else _) _ _ _ from ?_);rw[if_neg (by omega)]
 refine (show wpAny _ _ (if ((es.size:Nat):Int)>=2^63 then _ else _) _ _ _ from ?_);rw[if_neg (by omega)]
 exact (wpAny_bind (wpAny_mkInt (wpAny_pure ⟨_,rfl,h⟩)))
theorem kJ8 {K:Type} [DecidableEq K] {knd:HeapKind P w K} {a:Addr} {xs:List (K×Addr×Value)} {k:K} {v:Value} {Q:Value->Shared->Prop} (hu:knd.room A) (hkey:knd.is s.heap k a) (hm:s.heap.DictOfH knd d xs) (hz:xs.length<=sizeLine)
  (h1:∀p,atKey xs k=some p->Q p.2 {s with toks:=s.toks+knd.draws k})
  (h2:atKey xs k=none->∀h',h'.DictOfH knd d (storedH xs k a v)->Heap.SameBut d s.heap h'->Q v {s with heap:=h',toks:=s.toks+knd.draws k}):wpAny (model P w) A (dictSetDefault d (.ref a) v) Q E s:=by
 obtain⟨o,es,ep,ho,hc,hd,he,his,hn⟩:=hm;unfold dictSetDefault;refine wpAny_holding (wpAny_bind (knd.pyHash hu hkey (wpAny_bind (wpAny_dictFind_heap (s:={s with toks:=s.toks+knd.draws k}) hu hkey ho hd he his hn ?_ ?_))))
 ·intro no
  have an:=atKey_none_of_get no
  have nk:k∉xs.map (·.1):=not_mem_keys_of_get no
  refine wpAny_bind (wpAny_rule (wpAny_bind (wpAny_updateDictKeys (hz:=by have e:=size_of_entries he;omega) (s:={s with toks:=s.toks+knd.draws k}) ho hd (wpAny_pure (h2 an _ ⟨_,_,ep+1,Heap.get?_update_self _ ho (Obj.isFreed_of_dict (Obj.data_mapDictKeys hd _)),hc.mapDictKeys _,Obj.data_mapDictKeys hd _,?_,?_,?_⟩ (Heap.SameBut.update ..))))))
  ·rw[storedH_new an];simp[he,entryOfKey]
  ·rw[storedH_new an];intro x hx
   rcases (lJu.mp hx) with z | z
   ·exact knd.keeps (his x z) ho hd (Heap.SameBut.update ..)
   ·rw[lJp.mp z];exact knd.keeps hkey ho hd (Heap.SameBut.update ..)
  ·rw[storedH_new an,lKk];rw[lK1]
   refine⟨hn,by simp,fun x hx y hy=> ?_⟩
   have:y=k:=by simpa using hy
   subst this;exact fun e=>nk (e▸hx)
 ·intro j p hj
  refine wpAny_bind (wpAny_dictEntries (s:={s with toks:=s.toks+knd.draws k}) ho hd ?_);rw[entry_at he j,hj]
  exact wpAny_bind (wpAny_rule (wpAny_pure (h1 p (atKey_of_get hn hj))))
theorem jZ0 {K:Type} [DecidableEq K] (knd:HeapKind P w K) (a:Addr) (v:Value) (hd:(d == sysModules)=false):
  MeetsIn P w (Builtin.«dict.setdefault» ⟨[.ref d,.ref a,v],[]⟩) (fun A R s=>knd.room A.in1/\∃k xs,knd.is s.heap k a/\s.heap.DictOfH knd d xs/\xs.length<=sizeLine/\
   (∀p,atKey xs k=some p->R (.ok (.ret p.2)) {s with toks:=s.toks+knd.draws k})/\(atKey xs k=none->∀h',h'.DictOfH knd d (storedH xs k a v)->Heap.SameBut d s.heap h'->R (.ok (.ret v)) {s with heap:=h',toks:=s.toks+knd.draws k})):=
 .of_wp fun A R s ⟨hu,k,xs,hkey,hm,hz,h1,h2⟩=>by
  unfold Builtin.«dict.setdefault»; refine wpAny_bind ?_
  unfold Builtin.Dict.keyAndDefault;refine wpAny_bind (wpAny_notOrdered_dict hm.typeIs ?_)
  refine (show wpAny _ _ (pure (d,Value.ref a,some v)) _ _ s from wpAny_pure ?_)
  refine (show wpAny _ _ (if (d == sysModules)=true then _ else (dictSetDefault d (.ref a) v >>= _)) _ _ s from ?_)
  rw[if_neg (by rw[hd];exact lJe)];exact wpAny_bind (kJ8 hu hkey hm hz (fun p hp=>wpAny_pure ⟨p.2,rfl,h1 p hp⟩) fun hn h' hm' hs'=>wpAny_pure ⟨v,rfl,h2 hn h' hm' hs'⟩)
end
section
variable {X:Cx}
noncomputable def lenG (G:Gp):T->Option Nat
 | .ref p=>match G p with
  | some (.lst xs)=>some xs.length
  | some (.dct kvs)=>some kvs.length
  | some (.dck kvs)=>some kvs.length
  | some (.fdc _)=>none
  | some (.ins _ _)=>none
  | none=>none
 | .tup xs=>some xs.length
 | .scr xs=>some xs.length
 | _=>none
noncomputable def rLenD:List T->Gp->VK3->Prop:=fun xs G Q=>∃x n,xs=[x]/\lenG G x=some n/\Q (.int (n:Nat)) G
theorem c_lenD:Call3 X (.builtin "len") rLenD:=by
 rintro pins s τ G H xs us Q I rs ⟨x,n,ex,hx,q⟩
 by_cases hd:∃p,x= .ref p/\((∃kvs,G p=some (.dct kvs))\/∃kvs,G p=some (.dck kvs))
 ·subst ex
  obtain⟨p,rfl,hk⟩:=hd
  obtain⟨σ,I,hs,hg⟩:=I
  obtain⟨as,ras,rvs⟩:=rs
  obtain⟨v,rfl,rv⟩:=jYs ras
  obtain⟨u,rfl,ru⟩:=rvs.one
  cases (show v= .ref p from rv);cases ru
  rcases hk with ⟨kvs,hG⟩ | ⟨kvs,hG⟩
  ·simp only[lenG,hG] at hx;cases hx
   obtain⟨ws,h1,h2⟩:=hg p _ hG
   obtain⟨z,y,xs,r,o,es,ep,e1,e2,e3,e4,e5⟩:=(show ObjOk X.prog X.w H s.heap p (.dT ws) from I.hok p _ h1)
   have l1:es.size=kvs.length:=by
    have a1:=congrArg List.length e4
    have a2:=Paired.length r
    have a3:=h2.length
    simp at a1;omega
   refine kJb y e1 e2 e3 (by have:=h2.length;omega) ?_
   rw[l1]
   exact⟨.int (kvs.length:Nat),G,H,.refl H,⟨σ,I.tok _,hs,hg⟩,⟨.int _,rfl,_,rfl⟩,q⟩
  ·simp only[lenG,hG] at hx;cases hx
   obtain⟨ws,h1,h2⟩:=hg p _ hG
   obtain⟨z,y,vs,rel,o,es,ep,e1,e2,e3,e4,e5,e6⟩:=(show ObjOk X.prog X.w H s.heap p (.dK ws) from I.hok p _ h1)
   have l1:es.size=kvs.length:=by
    have a1:=e5.length
    have a2:=rel.length
    have a3:=h2.length
    simp at a1;omega
   refine kJb y e1 e2 e3 (by have:=h2.length;omega) ?_
   rw[l1]
   exact⟨.int (kvs.length:Nat),G,H,.refl H,⟨σ,I.tok _,hs,hg⟩,⟨.int _,rfl,_,rfl⟩,q⟩
 ·refine jK2 pins s τ G H xs us Q I rs ?_
  cases x with
  | ref p=>
   cases hG:G p with
   | none=>simp only[lenG,hG] at hx;cases hx
   | some g=>
    cases g with
    | lst ys=>simp only[lenG,hG] at hx;cases hx;exact⟨_,ys,ex,by simp only[seqT,hG,asL],q⟩
    | dct kvs=>exact absurd ⟨p,rfl,.inl ⟨kvs,hG⟩⟩ hd
    | fdc kvs=>simp only[lenG,hG] at hx;cases hx
    | ins _ _=>simp only[lenG,hG] at hx;cases hx
    | dck kvs=>exact absurd ⟨p,rfl,.inr ⟨kvs,hG⟩⟩ hd
  | tup ys=>cases hx;exact⟨_,ys,ex,rfl,q⟩
  | scr ys=>cases hx;exact⟨_,ys,ex,rfl,q⟩
  | non=>cases hx
  | bl _=>cases hx
  | int _=>cases hx
  | str _=>cases hx
  | ty _=>cases hx
noncomputable def rSetDef:T->List T->Gp->VK3->Prop:=fun x as G Q=>∃p ys ks kvs v,x= .ref p/\as=[.tup ys,v]/\jXa ys=some ks/\G p=some (.dct kvs)/\kvs.length<sizeLine/\Q (match valT kvs ks with | some t=>t | none=>v) (match valT kvs ks with | some _=>G | none=>gup G p (.dct (putT kvs ks v)))
theorem m_setdef (hu:X.A.units+20<cLine):Mt3 X "dict.setdefault" rSetDef:=by
 rintro pins s τ G H x as v us Q ⟨σ,I,hs,hg⟩ ⟨a,ra,rv⟩ ⟨bs,rbs,rus⟩ ⟨p,ys,ks,kvs,v',ex,ea,hk,hG,hz,q⟩
 subst ex;subst ea
 cases (show a= .ref p from ra);cases rv
 obtain⟨b,c,rfl,rb,rc⟩:=kK9 rbs
 obtain⟨u1,u2,rfl,ru1,ru2⟩:=rus.two
 obtain⟨ws,h1,h2⟩:=hg p _ hG
 obtain⟨q',vs,e,h3,h4⟩:=(show ∃q vs,b= .ref q/\H q=some (.tup vs)/\Reps X.K H ys vs from rb)
 subst e
 cases (show u1=Value.ref q' from ru1)
 have eb:=jV9 hk h3 h4
 obtain⟨z,hd,xs,rel,dd⟩:=dt_of I.hok h1
 have hl:xs.length<=sizeLine:=by rw[<-Paired.length rel];exact z
 refine call_meetsIn PySem.F.slot_dict_setdefault dd.typeIs PySem.F.entry_dict_setdefault (PySem.F.args_dict_setdefault_3 _ _ _) (jZ0 (jUx X.prog X.w) q' u2 hd) ⟨jK9 hu,ks,xs,kKj I.hok eb,dd,hl,fun pp hp=> ?_,fun hn h' dd' hsb=> ?_⟩
 ·have ro:=rel.val ks
  rw[hp] at ro
  obtain⟨g1,g2⟩:=h2.val ks
  cases ev:valV ws ks with
  | none=>rw[ev] at ro;exact (show False from ro).elim
  | some wv=>
   rw[ev] at ro g2
   obtain⟨t,ht⟩:=Option.isSome_iff_exists.mp (g2.trans rfl)
   obtain⟨wv',e',rt⟩:=g1 t ht
   rw[ev] at e';cases e'
   rw[ht] at q
   exact⟨t,G,H,.refl H,⟨σ,I.tok _,hs,hg⟩,⟨wv,rt,ro⟩,q⟩
 ·have ro:=rel.val ks
  rw[hn] at ro
  obtain⟨g1,g2⟩:=h2.val ks
  have en:valT kvs ks=none:=by
   cases et:valT kvs ks with
   | none=>rfl
   | some t=>
    obtain⟨wv,e',_⟩:=g1 t et
    rw[e'] at ro;exact (show False from ro).elim
  rw[en] at q
  have hl':(putK ws ks c).length<=sizeLine:=by have:=jYu ws ks c;have:=h2.length;omega
  obtain⟨qo,es,ep,hq,k2,k3,k4,_,k5⟩:=dd'
  have I':=kVv (t':=s.toks+(jUx X.prog X.w).draws ks) I (by rw[h1];exact True.intro) hsb ⟨qo,hq⟩ (ob:= .dT (putK ws ks c)) ⟨hl',hd,_,(rel.put ks eb ru2).keeps (fun b' ys' ec=>by rw[jKw (ne_of ec h1 (fun z=>nomatch z))];exact ec),qo,es,ep,hq,k2,k3,k4,k5⟩
  have e:Ext H (upd H p (.dT (putK ws ks c))):= .upd (.dT h1)
  exact⟨v',_,_,e,⟨σ,I',hs.mono e,hg.upd (.dT h1) (go:= .dct (putT kvs ks v')) ⟨_,jQ6,(h2.put ks rc).mono e⟩⟩,⟨c,Rep.mono e _ rc,ru2⟩,q⟩
end
noncomputable def Itl (K:PySem.W.Frag) (a1 a2:Addr):It:=
 ⟨fun i H=>∃xs ys x y,SqL K H a1 xs/\SqL K H a2 ys/\xs[i]? =some x/\ys[i]? =some y,
  fun i H v H'=>∃p x y,H p=none/\v= .ref p/\(∀xs,SqL K H a1 xs->xs[i]? =some x)/\(∀ys,SqL K H a2 ys->ys[i]? =some y)/\H'=upd H p (.tup [x,y]),
  fun i H=>∃xs ys,SqL K H a1 xs/\SqL K H a2 ys/\(xs.length<=i\/ys.length<=i)⟩
section
variable {X:Cx}
noncomputable def rMin2:List T->Gp->VK3->Prop:=fun xs G Q=>∃i j,xs=[.int i,.int j]/\Q (.int (if j<i then j else i)) G
theorem c_min2 (hc:X.calm=true):Call3 X (.builtin "min") rMin2:=
 Call3.of (call_min2 hc) fun H G xs as Q hg ra ⟨i,j,e,q⟩=>by
  subst e
  obtain⟨v,w,rfl,rv,rw'⟩:=kK9 ra
  cases (show v= .int i from rv);cases (show w= .int j from rw')
  exact⟨i,j,rfl,.int _,G,.refl H,hg,rfl,q⟩
noncomputable def jXz (b:Int):List Int->Int
 | []=>b
 | x::xs=>jXz (if x<b then x else b) xs
theorem leastB_snoc (xs:List Int):∀(b y:Int),jXz b (xs++[y])=if y<jXz b xs then y else jXz b xs:=by
 induction xs with
 | nil=>intro b y;rfl
 | cons x xs ih=>intro b y;exact ih _ y
theorem kXa (f:Nat->Int):∀k,f (argBest (fun i j=>decide (f i<f j)) k)=jXz (f 0) ((List.range k).map fun i=>f (i+1)):=by
 intro k
 induction k with
 | zero=>rfl
 | succ k ih=>
  rw[lKr,lKk,List.map_singleton,leastB_snoc,<-ih]
  simp only[argBest,decide_eq_true_eq]
  by_cases h:f (k+1)<f (argBest (fun i j=>decide (f i<f j)) k)
  ·rw[if_pos h,if_pos h]
  ·rw[if_neg h,if_neg h]
theorem jXu:∀ {is:List Int} {us:List Value},Vals (is.map V.int) us->∃ps:List (Int×Tok),us=ps.map (fun p=> .int p.1 p.2)/\ps.map (·.1)=is
 | [],_,.nil=>⟨[],rfl,rfl⟩
 | i::is,_,.cons ⟨t,e⟩ r=>by
  obtain⟨ps,e1,e2⟩:=jXu r
  subst e1;subst e2;subst e
  exact⟨(i,t)::ps,rfl,rfl⟩
theorem call_minL (hc:X.calm=true):kQt X (.builtin "min") (fun xs H Q=>∃p i is,xs=[.ref p]/\SqL X.K H p ((i::is).map V.int)/\Q (.int (jXz i is)) H):=by
 intro pins s σ H xs us Q I r h
 obtain⟨p,i,is,rfl,hx,q⟩:=h
 obtain⟨u,rfl,ru⟩:=vals1 r
 cases ru
 obtain⟨its,r',pl,hz⟩:=I.list hx
 obtain⟨ps,e1,e2⟩:=jXu r'
 subst e1
 have hne:0<ps.toArray.size:=by
  have:=congrArg List.length e2
  simp at this ⊢; omega
 have eI:(ps.map (fun p=>Value.int p.1 p.2)).toArray=intItems ps.toArray:=by simp[intItems]
 refine min_intList (xs:=ps.toArray) (I.ok.hd hc) (eI▸pl.isList) hne fun v h' tk hv k=> ?_
 obtain⟨t,rfl⟩:=(intItems_at hv)
 have hl:ps.toArray.size-1=is.length:=by
  have:=congrArg List.length e2
  simp at this ⊢; omega
 have hn:∀j,numAt ps.toArray j=((i::is)[j]?).getD 0:=fun j=>by rw[<-e2];simp[numAt]
 refine⟨.int (jXz i is),H,I.kept k,?_,q⟩
 refine⟨t,?_⟩
 rw[kXa (numAt ps.toArray),hl]
 have a0:numAt ps.toArray 0=i:=by rw[hn];rfl
 have a1:((List.range is.length).map fun j=>numAt ps.toArray (j+1))=is:=by
  apply lJ8 ; intro j
  rw[lJf]
  by_cases hj:j<is.length
  ·rw[lKs hj,lKx,hn,List.getElem?_cons_succ,lJc hj];rfl
  ·rw[lJh (by simpa using hj),lJh (by simpa using hj)];rfl
 rw[a0,a1]
noncomputable def rMinL:List T->Gp->VK3->Prop:=fun xs G Q=>∃p i is,xs=[.ref p]/\G p=some (.lst ((i::is).map T.int))/\Q (.int (jXz i is)) G
theorem c_minL (hc:X.calm=true):Call3 X (.builtin "min") rMinL:=
 Call3.of (call_minL hc) fun H G xs as Q hg ra ⟨p,i,is,e,hG,q⟩=>by
  subst e
  obtain⟨v,rfl,rv⟩:=jYs ra
  cases (show v= .ref p from rv)
  obtain⟨vs,h1,h2⟩:=hg.lst hG
  have e:=jVh h2
  subst e
  exact⟨p,i,is,rfl,.of h1,.int _,G,.refl H,hg,rfl,q⟩
end
section
variable {X:Cx}
theorem valsRev:∀ {xs:List V} {us:List Value},Vals xs us->Vals xs.reverse us.reverse
 | _,_,.nil=> .nil
 | x::xs,u::us,.cons r rs=>by
  rw[lKq,(lKq)]
  exact Vals.append (valsRev rs) (.cons r .nil)
theorem repsRev {K:PySem.W.Frag} {H:Hp}:∀ {xs:List T} {vs:List V},Reps K H xs vs->Reps K H xs.reverse vs.reverse
 | [],_,h=>by cases (show _=_ from h);rfl
 | x::xs,_,⟨v,ws,e,r,rs⟩=>by
  subst e
  rw[lKq,(lKq)]
  exact (repsRev rs).append ⟨v,[],rfl,r,rfl⟩
noncomputable def tRevL (te:TE3) (tk:TO3):TE3:=fun τ G Q=>te τ G fun x G1=>tk τ G1 fun k G2=>k=some (-1)/\∃xs,jV8 G2 x=some xs/\∀p,G2 p=none->Q (.ref p) (gup G2 p (.lst xs.reverse))
theorem e_revL {e st:Expr} {te:TE3} {tk:TO3} {pos p2:Pos} (he:PE3 X e te) (hk:PO3 X (some st) tk):PE3 X (.Subscript e (.Slice none none (some st) p2) pos) (tRevL te tk):=by
 intro pins s τ G H Q I h
 refine Subscript_ (thn (he pins s τ G H _ I h) fun v s1 w_=>w_.el fun x G1 H1 e1 I1 r1 q1=> ?_)
 refine wpAny_Slice ?_
 rw[evalPart_none]
 refine wpAny_pure (wpAny_pure (thn (hk pins s1 τ G1 H1 _ I1 q1) fun vk s3 ⟨k,G3,H3,e3,⟨σ,I3,hs3,hg3⟩,pk,ek,xs,hx,q3⟩=> ?_))
 subst ek
 have I4:Inv X pins σ H3 {s3 with heap:=s3.heap.push {cls:= .type "slice",data:= .fields #[.none,.none,vk]} }:=I3.kept (t':=s3.toks) fun b ob q=>Heap.get?_push_of_some _ q
 obtain⟨a,ra,rv⟩:=r1.mono e3
 obtain⟨p,vs,ea,hq,r⟩:=kJx hg3 ra hx
 subst ea
 cases rv
 obtain⟨its,rr,ht,hz⟩:=I4.list hq
 have hlen:=rr.length
 have hg:wpAny (model X.prog X.w) X.A (getItem (.ref p) (.ref s3.heap.objs.size)) (EP3 X pins τ H3 Q) X.xe {s3 with heap:=s3.heap.push {cls:= .type "slice",data:= .fields #[.none,.none,vk]} }:=by
  refine wpAny_getItem_list_slice ht.isList (Heap.IsSliceOf.new ..) .none .none pk (by simp) ?_ (by rw[lJi]<;>omega)
  rw[PySem.W.krv_pick]
  refine jXy hs3 ⟨.ref _,_,I4.laid (t':=s3.toks) (o:= .lst vs.reverse) (fun b ob q=>Heap.get?_push_of_some _ q) (lJd _) ⟨by rw[List.length_reverse];exact hz,_,0,valsRev rr,Heap.get?_push_size _ rfl⟩,rfl,?_⟩
  exact⟨.ref _,_,.upd (.none (I4.hok.fresh (lJd _))),hg3.lstNew (repsRev r) (.none (I4.hok.fresh (lJd _))),rfl,q3 _ (hg3.fresh (I4.hok.fresh (lJd _)))⟩
 show wpAny (model X.prog X.w) X.A (subscriptTail e (.Slice none none (some st) p2) (.ref p) (.ref s3.heap.objs.size)) (EP3 X pins τ H Q) X.xe {s3 with heap:=s3.heap.push {cls:= .type "slice",data:= .fields #[.none,.none,vk]} }
 exact thn (tail_any (ops:=[.ref p,.ref s3.heap.objs.size]) ht.isList.typeIs slot_list_getitem.lookup hg (by with_unfolding_all rfl)) fun _ _ z=>z.ext (e1.trans e3)
end
section
variable {X:Cx}
noncomputable def tDisp1T (tk tv:TE3):TE3:=fun τ G Q=>∀p,G p=none->tk τ (gup G p (.dct [])) fun x G1=>tv τ G1 fun y G2=>∃ys ks,x= .tup ys/\jXa ys=some ks/\G2 p=some (.dct [])/\Q (.ref p) (gup G2 p (.dct [(ks,y)]))
theorem e_disp1T (hu:X.A.units+20<cLine) {pos:Pos} {k v:Expr} {tk tv:TE3} (hk:PE3 X k tk) (hv:PE3 X v tv):PE3 X (.Dict [some k] [v] pos) (tDisp1T tk tv):=by
 rintro pins s τ G H Q ⟨σ,I,hs,hg⟩ h
 have hn:=I.hok.fresh (lJd s.heap.objs.size)
 have I1:=I.laid (a:=s.heap.objs.size) (o:= .dT []) (h':=s.heap.push {cls:= .type "dict",data:= .dict #[]}) (t':=s.toks) (fun _ _ q=>Heap.get?_push_of_some _ q) (lJd _) (dt_empty s.heap I.big)
 have I3:Inv3 X pins τ (gup G s.heap.objs.size (.dct [])) (upd H s.heap.objs.size (.dT [])) {s with heap:=s.heap.push {cls:= .type "dict",data:= .dict #[]},toks:=s.toks}:=
  ⟨σ,I1,hs.mono (.upd (.none hn)),hg.upd (.none hn) (go:= .dct []) ⟨[],jQ6,.nil⟩⟩
 refine wpAny_Dict_any rfl rfl (by simp) (by simp) (pairTrees_cons_walk (thn (hk pins _ τ _ _ _ I3 (h _ (hg.fresh hn))) fun u s1 w_=>w_.el fun x G1 H1 e1 J1 ru q1=>thn (hv pins s1 τ G1 H1 _ J1 q1) fun u2 s2 w_=>w_.el fun y G2 H2 e2 i_ ru2 ⟨ys,ks,ex,hkey,hd,q2⟩=>i_.el fun σ2 J2 hs2 hg2=>pairTrees_nil_walk ?_))
 subst ex
 obtain⟨ws,hH2,pk⟩:=(show ∃ws,H2 s.heap.objs.size=some (.dT ws)/\PKV X.K H2 [] ws from hg2 _ _ hd)
 cases pk
 obtain⟨a,ra,rva⟩:=ru.mono e2
 obtain⟨c,rc,rvc⟩:=ru2
 obtain⟨q',vs,e,h3,h4⟩:=(show ∃q vs,a= .ref q/\H2 q=some (.tup vs)/\Reps X.K H2 ys vs from ra)
 subst e
 cases (show u=Value.ref q' from rva)
 have eb:=jV9 hkey h3 h4
 obtain⟨z,hdd,xs,rel,dd⟩:=dt_of J2.hok hH2
 have hl:xs.length<=sizeLine:=by rw[<-Paired.length rel];exact z
 unfold storeAll
 rw[List.forIn_cons]
 refine wpAny_bind (wpAny_bind (wpAny_dictSet_heap (hsz:=hl) (knd:=jUx X.prog X.w) (show X.A.units+6<cLine by omega) (kKj J2.hok eb) dd fun h' dd' hsb=>wpAny_pure ?_))
 dsimp only
 rw[List.forIn_nil]
 obtain⟨qo,es,ep,hq,k2,k3,k4,_,k5⟩:=dd'
 have JJ:=kVv (t':=s2.toks+(jUx X.prog X.w).draws ks) J2 (by rw[hH2];exact True.intro) hsb ⟨qo,hq⟩ (ob:= .dT (putK [] ks c)) ⟨by rw[sizeLine_eq];exact Nat.succ_le_of_lt (Nat.succ_pos _),hdd,_,(rel.put ks eb rvc).keeps (fun b' ys' ec=>by rw[jKw (ne_of ec hH2 (fun z=>nomatch z))];exact ec),qo,es,ep,hq,k2,k3,k4,k5⟩
 have ext:Ext H2 (upd H2 s.heap.objs.size (.dT (putK [] ks c))):= .upd (.dT hH2)
 exact wpAny_pure ⟨.ref s.heap.objs.size,_,_,(((Ext.upd (.none hn)).trans e1).trans e2).trans ext,⟨σ2,JJ,hs2.mono ext,hg2.upd (.dT hH2) (go:= .dct [(ks,y)]) ⟨_,jQ6,PKV.put (kvs:=[]) .nil ks (Rep.mono ext _ rc)⟩⟩,⟨.ref _,rfl,rfl⟩,q2⟩
end
section
variable {X:Cx} {pos:Pos}
noncomputable def tPar3 (i j k:Nat) (ta:TA3):TS3:=fun D τ G=>ta τ G fun vs G1=>∃u v w,vs=[u,v,w]/\D.nx (((τ.set i (some u)).set j (some v)).set k (some w)) G1
theorem s_par3 {i j k:Nat} {x y z:Str} {a b c:Expr} {ta:TA3} {px py pz pt:Pos} {kt k2 pt2} (hc:X.calm=true) (hN:X.N.Nodup) (hij:i≠j) (hik:i≠k) (hjk:j≠k) (ha:PA3 X [a,b,c] ta) (hi:X.N[i]? =some x:=by rfl) (hj:X.N[j]? =some y:=by rfl) (hk:X.N[k]? =some z:=by rfl)
  (hx:X.env.scope.names.lookup x=some .local:=by rfl) (hy:X.env.scope.names.lookup y=some .local:=by rfl) (hz:X.env.scope.names.lookup z=some .local:=by rfl)
  (hw:swappedStores [.Tuple [.Name x px,.Name y py,.Name z pz] kt pt] (.Tuple [a,b,c] k2 pt2) X.env=pure (some [x,y,z]):=by rfl)
  (hs:swapsWithSole [.Tuple [.Name x px,.Name y py,.Name z pz] kt pt] (.Tuple [a,b,c] k2 pt2) pos.line X.env=pure false:=by rfl):
  PS3 X (.Assign [.Tuple [.Name x px,.Name y py,.Name z pz] kt pt] (.Tuple [a,b,c] k2 pt2) pos) (tPar3 i j k ta):=by
 intro pins s τ G H D I h
 rw[exec_Assign_arm]
 refine wpAny_bind (wpAny_standAt ?_)
 rw[hs]
 refine wpAny_bind (wpAny_pure ?_)
 rw[if_neg (by decide)]
 refine wpAny_bind (Tuple_ (thn (ha _ pins s τ G H _ I h) fun us s1 w_=>w_.el fun vs G1 H1 e1 i_ r_ q1=>i_.el fun σ I1 hs1 hg1=>r_.el fun as ras rvs=> ?_))
 obtain⟨v1,v2,v3,ev,q1⟩:=q1
 subst ev
 obtain⟨a1,t1,et1,ra1,rr1⟩:=(show ∃v ws,as=v::ws/\Rep X.K H1 v1 v/\Reps X.K H1 [v2,v3] ws from ras)
 subst et1
 obtain⟨a2,a3,et2,ra2,ra3⟩:=kK9 rr1
 subst et2
 obtain⟨u1,us1,eu,rv1,rvs1⟩:∃u us',us=u::us'/\RelV a1 u/\Vals [a2,a3] us':=by
  cases rvs with
  | cons r q=>exact⟨_,_,rfl,r,q⟩
 subst eu
 obtain⟨u2,u3,eu2,rv2,rv3⟩:=rvs1.two
 subst eu2
 refine wpAny_newObj_type ?_ (by show 3<=sizeLine;decide)
 have I2:Inv X pins σ H1 {s1 with heap:=s1.heap.push {cls:= .type "tuple",data:= .seq [u1,u2,u3].toArray} }:=I1.kept (t':=s1.toks) fun b o e=>Heap.get?_push_of_some _ e
 rw[hw]
 refine wpAny_bind (wpAny_pure ?_)
 show wpAny (model X.prog X.w) X.A (do rule "assign.swapped-stores"; let items <-unpackItems (.ref s1.heap.objs.size) 3 none;assignInOrder [fun v=>bindName X.env z v,fun v=>bindName X.env y v,fun v=>bindName X.env x v] items.reverse;pure Flow.next) _ _ _
 refine wpAny_bind (wpAny_rule (wpAny_bind (unpackItems_tuple (items:= #[u1,u2,u3]) (I1.ok.hd hc) (IsTup.new s1.heap _) fun h' hx'=> ?_)))
 have I3:=I2.kept (h':=h') (t':=s1.toks) fun b o e=>hx' b o (lJj (Heap.lt_size e)) e
 show wpAny _ _ (assignInOrder [fun v=>bindName X.env z v,fun v=>bindName X.env y v,fun v=>bindName X.env x v] [u3,u2,u1] >>= fun _=>pure Flow.next) _ _ _
 refine wpAny_bind (assignInOrder_cons (wpAny_bindName (jVl I3 hN hk (.inl hz) rv3 (fun s2 I4=> ?_) (.inr hz))))
 refine assignInOrder_cons (wpAny_bindName (jVl I4 hN hj (.inl hy) rv2 (fun s3 I5=> ?_) (.inr hy)))
 refine assignInOrder_cons (wpAny_bindName (jVl I5 hN hi (.inl hx) rv1 (fun s4 I6=>assignInOrder_nil (wpAny_pure ?_)) (.inr hx)))
 rw[List.set_comm (i:=j) (j:=i) _ _ (Ne.symm hij),List.set_comm (i:=k) (j:=i) _ _ (Ne.symm hik),List.set_comm (i:=k) (j:=j) _ _ (Ne.symm hjk)] at I6
 exact⟨_,G1,H1,e1,⟨_,I6,((hs1.set i ra1).set j ra2).set k ra3,hg1⟩,q1⟩
end
theorem szle {n:Nat} (h:Nat.ble n 16777216=true):n<=sizeLine:=by rw[PySem.sizeLine_eq];exact Nat.le_of_ble_eq_true h
end L3
namespace L3
theorem xe1 {A0:Type} {σ:Type} {f:A0->σ} {p:A0->Prop} {τ:σ} {C:σ->Prop} (h:∃a0,τ=f a0/\p a0) (k:∀a0,p a0->C (f a0)):C τ:=by
 obtain⟨a0,e,h⟩:=h;rw[e];exact k _ h
theorem xi1 {A0:Type} {σ:Type} {f:A0->σ} {p:A0->Prop} {τ:σ} (a0:A0) (e:τ=f a0) (h:p a0):∃a0,τ=f a0/\p a0:=⟨a0,e,h⟩
theorem xe2 {A0 A1:Type} {σ:Type} {f:A0->A1->σ} {p:A0->A1->Prop} {τ:σ} {C:σ->Prop} (h:∃a0 a1,τ=f a0 a1/\p a0 a1) (k:∀a0 a1,p a0 a1->C (f a0 a1)):C τ:=by
 obtain⟨a0,a1,e,h⟩:=h;rw[e];exact k _ _ h
theorem xi2 {A0 A1:Type} {σ:Type} {f:A0->A1->σ} {p:A0->A1->Prop} {τ:σ} (a0:A0) (a1:A1) (e:τ=f a0 a1) (h:p a0 a1):∃a0 a1,τ=f a0 a1/\p a0 a1:=⟨a0,a1,e,h⟩
theorem xe3 {A0 A1 A2:Type} {σ:Type} {f:A0->A1->A2->σ} {p:A0->A1->A2->Prop} {τ:σ} {C:σ->Prop} (h:∃a0 a1 a2,τ=f a0 a1 a2/\p a0 a1 a2) (k:∀a0 a1 a2,p a0 a1 a2->C (f a0 a1 a2)):C τ:=by
 obtain⟨a0,a1,a2,e,h⟩:=h;rw[e];exact k _ _ _ h
theorem xe4 {A0 A1 A2 A3:Type} {σ:Type} {f:A0->A1->A2->A3->σ} {p:A0->A1->A2->A3->Prop} {τ:σ} {C:σ->Prop} (h:∃a0 a1 a2 a3,τ=f a0 a1 a2 a3/\p a0 a1 a2 a3) (k:∀a0 a1 a2 a3,p a0 a1 a2 a3->C (f a0 a1 a2 a3)):C τ:=by
 obtain⟨a0,a1,a2,a3,e,h⟩:=h;rw[e];exact k _ _ _ _ h
theorem xi4 {A0 A1 A2 A3:Type} {σ:Type} {f:A0->A1->A2->A3->σ} {p:A0->A1->A2->A3->Prop} {τ:σ} (a0:A0) (a1:A1) (a2:A2) (a3:A3) (e:τ=f a0 a1 a2 a3) (h:p a0 a1 a2 a3):∃a0 a1 a2 a3,τ=f a0 a1 a2 a3/\p a0 a1 a2 a3:=⟨a0,a1,a2,a3,e,h⟩
theorem xe5 {A0 A1 A2 A3 A4:Type} {σ:Type} {f:A0->A1->A2->A3->A4->σ} {p:A0->A1->A2->A3->A4->Prop} {τ:σ} {C:σ->Prop} (h:∃a0 a1 a2 a3 a4,τ=f a0 a1 a2 a3 a4/\p a0 a1 a2 a3 a4) (k:∀a0 a1 a2 a3 a4,p a0 a1 a2 a3 a4->C (f a0 a1 a2 a3 a4)):C τ:=by
 obtain⟨a0,a1,a2,a3,a4,e,h⟩:=h;rw[e];exact k _ _ _ _ _ h
theorem xi5 {A0 A1 A2 A3 A4:Type} {σ:Type} {f:A0->A1->A2->A3->A4->σ} {p:A0->A1->A2->A3->A4->Prop} {τ:σ} (a0:A0) (a1:A1) (a2:A2) (a3:A3) (a4:A4) (e:τ=f a0 a1 a2 a3 a4) (h:p a0 a1 a2 a3 a4):∃a0 a1 a2 a3 a4,τ=f a0 a1 a2 a3 a4/\p a0 a1 a2 a3 a4:=⟨a0,a1,a2,a3,a4,e,h⟩
theorem xe6 {A0 A1 A2 A3 A4 A5:Type} {σ:Type} {f:A0->A1->A2->A3->A4->A5->σ} {p:A0->A1->A2->A3->A4->A5->Prop} {τ:σ} {C:σ->Prop} (h:∃a0 a1 a2 a3 a4 a5,τ=f a0 a1 a2 a3 a4 a5/\p a0 a1 a2 a3 a4 a5) (k:∀a0 a1 a2 a3 a4 a5,p a0 a1 a2 a3 a4 a5->C (f a0 a1 a2 a3 a4 a5)):C τ:=by
 obtain⟨a0,a1,a2,a3,a4,a5,e,h⟩:=h;rw[e];exact k _ _ _ _ _ _ h
theorem xi6 {A0 A1 A2 A3 A4 A5:Type} {σ:Type} {f:A0->A1->A2->A3->A4->A5->σ} {p:A0->A1->A2->A3->A4->A5->Prop} {τ:σ} (a0:A0) (a1:A1) (a2:A2) (a3:A3) (a4:A4) (a5:A5) (e:τ=f a0 a1 a2 a3 a4 a5) (h:p a0 a1 a2 a3 a4 a5):∃a0 a1 a2 a3 a4 a5,τ=f a0 a1 a2 a3 a4 a5/\p a0 a1 a2 a3 a4 a5:=⟨a0,a1,a2,a3,a4,a5,e,h⟩
theorem xe7 {A0 A1 A2 A3 A4 A5 A6:Type} {σ:Type} {f:A0->A1->A2->A3->A4->A5->A6->σ} {p:A0->A1->A2->A3->A4->A5->A6->Prop} {τ:σ} {C:σ->Prop} (h:∃a0 a1 a2 a3 a4 a5 a6,τ=f a0 a1 a2 a3 a4 a5 a6/\p a0 a1 a2 a3 a4 a5 a6) (k:∀a0 a1 a2 a3 a4 a5 a6,p a0 a1 a2 a3 a4 a5 a6->C (f a0 a1 a2 a3 a4 a5 a6)):C τ:=by
 obtain⟨a0,a1,a2,a3,a4,a5,a6,e,h⟩:=h;rw[e];exact k _ _ _ _ _ _ _ h
theorem xi7 {A0 A1 A2 A3 A4 A5 A6:Type} {σ:Type} {f:A0->A1->A2->A3->A4->A5->A6->σ} {p:A0->A1->A2->A3->A4->A5->A6->Prop} {τ:σ} (a0:A0) (a1:A1) (a2:A2) (a3:A3) (a4:A4) (a5:A5) (a6:A6) (e:τ=f a0 a1 a2 a3 a4 a5 a6) (h:p a0 a1 a2 a3 a4 a5 a6):∃a0 a1 a2 a3 a4 a5 a6,τ=f a0 a1 a2 a3 a4 a5 a6/\p a0 a1 a2 a3 a4 a5 a6:=⟨a0,a1,a2,a3,a4,a5,a6,e,h⟩
theorem xe8 {A0 A1 A2 A3 A4 A5 A6 A7:Type} {σ:Type} {f:A0->A1->A2->A3->A4->A5->A6->A7->σ} {p:A0->A1->A2->A3->A4->A5->A6->A7->Prop} {τ:σ} {C:σ->Prop} (h:∃a0 a1 a2 a3 a4 a5 a6 a7,τ=f a0 a1 a2 a3 a4 a5 a6 a7/\p a0 a1 a2 a3 a4 a5 a6 a7) (k:∀a0 a1 a2 a3 a4 a5 a6 a7,p a0 a1 a2 a3 a4 a5 a6 a7->C (f a0 a1 a2 a3 a4 a5 a6 a7)):C τ:=by
 obtain⟨a0,a1,a2,a3,a4,a5,a6,a7,e,h⟩:=h;rw[e];exact k _ _ _ _ _ _ _ _ h
theorem xi8 {A0 A1 A2 A3 A4 A5 A6 A7:Type} {σ:Type} {f:A0->A1->A2->A3->A4->A5->A6->A7->σ} {p:A0->A1->A2->A3->A4->A5->A6->A7->Prop} {τ:σ} (a0:A0) (a1:A1) (a2:A2) (a3:A3) (a4:A4) (a5:A5) (a6:A6) (a7:A7) (e:τ=f a0 a1 a2 a3 a4 a5 a6 a7) (h:p a0 a1 a2 a3 a4 a5 a6 a7):∃a0 a1 a2 a3 a4 a5 a6 a7,τ=f a0 a1 a2 a3 a4 a5 a6 a7/\p a0 a1 a2 a3 a4 a5 a6 a7:=⟨a0,a1,a2,a3,a4,a5,a6,a7,e,h⟩
theorem xe9 {A0 A1 A2 A3 A4 A5 A6 A7 A8:Type} {σ:Type} {f:A0->A1->A2->A3->A4->A5->A6->A7->A8->σ} {p:A0->A1->A2->A3->A4->A5->A6->A7->A8->Prop} {τ:σ} {C:σ->Prop} (h:∃a0 a1 a2 a3 a4 a5 a6 a7 a8,τ=f a0 a1 a2 a3 a4 a5 a6 a7 a8/\p a0 a1 a2 a3 a4 a5 a6 a7 a8) (k:∀a0 a1 a2 a3 a4 a5 a6 a7 a8,p a0 a1 a2 a3 a4 a5 a6 a7 a8->C (f a0 a1 a2 a3 a4 a5 a6 a7 a8)):C τ:=by
 obtain⟨a0,a1,a2,a3,a4,a5,a6,a7,a8,e,h⟩:=h;rw[e];exact k _ _ _ _ _ _ _ _ _ h
theorem xi9 {A0 A1 A2 A3 A4 A5 A6 A7 A8:Type} {σ:Type} {f:A0->A1->A2->A3->A4->A5->A6->A7->A8->σ} {p:A0->A1->A2->A3->A4->A5->A6->A7->A8->Prop} {τ:σ} (a0:A0) (a1:A1) (a2:A2) (a3:A3) (a4:A4) (a5:A5) (a6:A6) (a7:A7) (a8:A8) (e:τ=f a0 a1 a2 a3 a4 a5 a6 a7 a8) (h:p a0 a1 a2 a3 a4 a5 a6 a7 a8):∃a0 a1 a2 a3 a4 a5 a6 a7 a8,τ=f a0 a1 a2 a3 a4 a5 a6 a7 a8/\p a0 a1 a2 a3 a4 a5 a6 a7 a8:=⟨a0,a1,a2,a3,a4,a5,a6,a7,a8,e,h⟩
theorem xe10 {A0 A1 A2 A3 A4 A5 A6 A7 A8 A9:Type} {σ:Type} {f:A0->A1->A2->A3->A4->A5->A6->A7->A8->A9->σ} {p:A0->A1->A2->A3->A4->A5->A6->A7->A8->A9->Prop} {τ:σ} {C:σ->Prop} (h:∃a0 a1 a2 a3 a4 a5 a6 a7 a8 a9,τ=f a0 a1 a2 a3 a4 a5 a6 a7 a8 a9/\p a0 a1 a2 a3 a4 a5 a6 a7 a8 a9) (k:∀a0 a1 a2 a3 a4 a5 a6 a7 a8 a9,p a0 a1 a2 a3 a4 a5 a6 a7 a8 a9->C (f a0 a1 a2 a3 a4 a5 a6 a7 a8 a9)):C τ:=by
 obtain⟨a0,a1,a2,a3,a4,a5,a6,a7,a8,a9,e,h⟩:=h;rw[e];exact k _ _ _ _ _ _ _ _ _ _ h
theorem xi10 {A0 A1 A2 A3 A4 A5 A6 A7 A8 A9:Type} {σ:Type} {f:A0->A1->A2->A3->A4->A5->A6->A7->A8->A9->σ} {p:A0->A1->A2->A3->A4->A5->A6->A7->A8->A9->Prop} {τ:σ} (a0:A0) (a1:A1) (a2:A2) (a3:A3) (a4:A4) (a5:A5) (a6:A6) (a7:A7) (a8:A8) (a9:A9) (e:τ=f a0 a1 a2 a3 a4 a5 a6 a7 a8 a9) (h:p a0 a1 a2 a3 a4 a5 a6 a7 a8 a9):∃a0 a1 a2 a3 a4 a5 a6 a7 a8 a9,τ=f a0 a1 a2 a3 a4 a5 a6 a7 a8 a9/\p a0 a1 a2 a3 a4 a5 a6 a7 a8 a9:=⟨a0,a1,a2,a3,a4,a5,a6,a7,a8,a9,e,h⟩
theorem ae2 {a0 a1 C:Prop} (h:a0/\a1) (k:a0->a1->C):C:=k h.1 h.2
theorem ae3 {a0 a1 a2 C:Prop} (h:a0/\a1/\a2) (k:a0->a1->a2->C):C:=k h.1 h.2.1 h.2.2
theorem ae4 {a0 a1 a2 a3 C:Prop} (h:a0/\a1/\a2/\a3) (k:a0->a1->a2->a3->C):C:=k h.1 h.2.1 h.2.2.1 h.2.2.2
theorem ae5 {a0 a1 a2 a3 a4 C:Prop} (h:a0/\a1/\a2/\a3/\a4) (k:a0->a1->a2->a3->a4->C):C:=k h.1 h.2.1 h.2.2.1 h.2.2.2.1 h.2.2.2.2
theorem ae6 {a0 a1 a2 a3 a4 a5 C:Prop} (h:a0/\a1/\a2/\a3/\a4/\a5) (k:a0->a1->a2->a3->a4->a5->C):C:=k h.1 h.2.1 h.2.2.1 h.2.2.2.1 h.2.2.2.2.1 h.2.2.2.2.2
theorem ae7 {a0 a1 a2 a3 a4 a5 a6 C:Prop} (h:a0/\a1/\a2/\a3/\a4/\a5/\a6) (k:a0->a1->a2->a3->a4->a5->a6->C):C:=k h.1 h.2.1 h.2.2.1 h.2.2.2.1 h.2.2.2.2.1 h.2.2.2.2.2.1 h.2.2.2.2.2.2
theorem ae8 {a0 a1 a2 a3 a4 a5 a6 a7 C:Prop} (h:a0/\a1/\a2/\a3/\a4/\a5/\a6/\a7) (k:a0->a1->a2->a3->a4->a5->a6->a7->C):C:=k h.1 h.2.1 h.2.2.1 h.2.2.2.1 h.2.2.2.2.1 h.2.2.2.2.2.1 h.2.2.2.2.2.2.1 h.2.2.2.2.2.2.2
end L3
namespace L3
open PySem PySem.Spec PyProof.Rows L2
section
variable {X:Cx}
end
section
variable {X:Cx}
end
section
variable {X:Cx}
end
section
variable {P:Program} {w:World} {A:Around} {E:Value->Shared->Prop} {s:Shared} {d it:Addr} {o:Obj} {es:Array DictEntry} {ep i:Nat}
end
section
variable {X:Cx}
end
section
variable {X:Cx} {cn f m:Str} {pos pos' apos p:Pos} {e o value:Expr} {es:List Expr} {ta tv:TE3} {t:TA3} {k:Nat} {ps:List Str} {sp:Sp3}
end
section
variable {X:Cx}
end
section
variable {X:Cx}
end
section
variable {P:Program} {w:World} {d:Addr}
end
section
variable {X:Cx}
end
theorem rt_init:Slot "reversed" "__init__" "object.__init__":=
 .of (n:="__init__") (owner:="object") (by rw[typeLookup_type,builtinLookup_eq_fast];kernel_rfl) (by decide +kernel) (by decide +kernel) (by decide +kernel)
  (by first | exact .inl (by decide +kernel) | exact .inr (by decide +kernel)) (by rw[isSubtype_type];kernel_rfl)
theorem rt_next:Slot "reversed" "__next__" "reversed.__next__":=
 .of (owner:="reversed") (n:="__next__") (by rw[typeLookup_type,builtinLookup_eq_fast];kernel_rfl) (by decide +kernel) (by decide +kernel) (by decide +kernel)
  (by first | exact .inl (by decide +kernel) | exact .inr (by decide +kernel)) (by rw[isSubtype_type];kernel_rfl)
theorem rt_called:TypeCalled "reversed" "reversed.__new__" "object.__init__":=
 ⟨by decide +kernel,F.create_reversed,⟨_,_,F.mro_reversed⟩,F.made_reversed,F.plain_reversed_new,F.sub_reversed_self,rt_init⟩
theorem rt_norev:typeLookup (.type "tuple") "__reversed__"=pure none:=by rw[typeLookup_type,builtinLookup_eq_fast];kernel_rfl
noncomputable def kJ4 (l:Addr) (i:Int):Obj:={cls:= .type "reversed",data:= .fields #[.ref l,rawInt i]}
def IsTRev (h:Heap) (a l:Addr) (i:Int):Prop:=∃o,h.get? a=some o/\o.cls= .type "reversed"/\o.data= .fields #[.ref l,rawInt i]
section
variable {prog:Program} {w:World} {A:Around} {E:Value->Shared->Prop} {s:Shared}
theorem rt_new {l:Addr} {items:Array Value} {Q₁:Value->Shared->Prop} (hl:IsTup s.heap l items) (hz:items.size<=sizeLine)
  (h:∀t,Q₁ (.ref s.heap.objs.size) {s with heap:=s.heap.push (kJ4 l ((items.size:Int)-1)),toks:=t}):codeAny (model prog w) A (.call (.builtin "reversed.__new__") ⟨[.type "reversed",.ref l],[]⟩) (wants Q₁ E) s:=by
 refine codeAny_of_tree ?_
 refine (show wpAny _ A.in1 (do checkBuiltinCall "reversed.__new__" ⟨[.type "reversed",.ref l],[]⟩;again (.builtin "reversed.__new__" ⟨[.type "reversed",.ref l],[]⟩)) _ _ s from ?_)
 (refine wpAny_bind (wpAny_of_eq (F.newCall_reversed_1 _) (wpAny_pure ⟨plainId_quiet F.plain_reversed_new _,codeAny_builtin F.entry_reversed_new ?_⟩)))
 (rw[Around.under_plainId F.plain_reversed_new _])
 (unfold Builtin.«reversed.__new__»)
 (refine wpAny_bind (wpAny_of_eq (newClass_reversed _) ?_))
 try dsimp only
 (refine wpAny_bind (wpAny_of_eq (a:=()) (by first | rfl | kernel_rfl) ?_))
 (refine wpAny_bind (wpAny_of_eq (a:=()) (by first | rfl | kernel_rfl) ?_))
 try dsimp only
 have ty:s.TypeIs (.ref l) "tuple":=hl.typeIs
 refine wpAny_bind (wpAny_specialOf ty rt_norev ?_)
 try dsimp only
 refine wpAny_bind (show wpAny _ _ (isInstance (Value.ref l) (.type "dict") >>= _) _ _ s from wpAny_bind (wpAny_isInstance ty (b:=false) (by rw[isSubtype_type];kernel_rfl) ?_))
 refine (show wpAny _ _ (specialOf (Value.ref l) "__getitem__" >>= _) _ _ s from wpAny_bind (wpAny_specialOf ty slot_tuple_getitem.lookup ?_))
 refine (show wpAny _ _ (if List.contains _ _=true then pure true else _) _ _ s from ?_)
 rw[if_pos (by decide +kernel)]
 refine wpAny_pure ?_
 rw[if_neg (by decide)]
 refine wpAny_bind (len_tuple hl (by have:=sizeLine_eq;omega) ?_)
 refine wpAny_bind (wpAny_of_eq (a:=some (items.size:Int)) (by first | rfl | kernel_rfl) ?_)
 try dsimp only
 unfold Builtin.SmallTypes.newRecord
 exact wpAny_bind (wpAny_newObj_type (wpAny_pure (h _)))
theorem jZ9 {l:Addr} {items:Array Value} {Q:Value->Shared->Prop} (hl:IsTup s.heap l items) (hz:items.size<=sizeLine)
  (h:∀t,Q (.ref s.heap.objs.size) {s with heap:=s.heap.push (kJ4 l ((items.size:Int)-1)),toks:=t}):wpAny (model prog w) A (call (.type "reversed") [.ref l]) Q E s:=by
 refine callType_codes (Q₁:=fun obj z=>∃t,obj= .ref s.heap.objs.size/\z={s with heap:=s.heap.push (kJ4 l ((items.size:Int)-1)),toks:=t}) rt_called (F.typeCall_reversed_1 _) F.entry_object_init (rt_new hl hz fun t=>⟨t,rfl,rfl⟩) ?_
 rintro obj z ⟨t,rfl,rfl⟩
 have ty:({s with heap:=s.heap.push (kJ4 l ((items.size:Int)-1)),toks:=t}:Shared).TypeIs (.ref s.heap.objs.size) "reversed":=⟨_,Heap.get?_push_size _ rfl,rfl⟩
 exact⟨ty,F.args_object_init_2 _ _,object_init_meets rt_init.lookup F.made_reversed (by decide) prog w A.in1 _ _ ⟨ty,rfl,h t⟩⟩
theorem IsTRev.typeIs {a l:Addr} {i:Int} (x:IsTRev s.heap a l i):s.TypeIs (.ref a) "reversed":=let ⟨o,ho,hc,_⟩:=x;⟨o,ho,hc⟩
theorem IsTRev.at {h h':Heap} {a l:Addr} {i:Int} (x:IsTRev h a l i) (e:∀o,h.get? a=some o->h'.get? a=some o):IsTRev h' a l i:=let ⟨o,ho,r⟩:=x;⟨o,e _ ho,r⟩
theorem kUt:Manifest.owners.lookup (String.ofList ['d','e','s','r','e','v','e','r'].reverse)=some Manifest.sig_reversed:=by kernel_rfl
theorem rt_args (a:Value):argsOk "reversed.__next__" ⟨[a],[]⟩:=by
 unfold argsOk;rw[signature?_of (id:="reversed.__next__") (n:=['_','_','t','x','e','n','_','_']) (o:=['d','e','s','r','e','v','e','r']) (by kernel_rfl) kUt];kernel_rfl
theorem rt_entry:entryFor table "reversed.__next__"=some Builtin.«reversed.__next__» :=entryFor_of_tree (by kernel_rfl)
theorem rt_next_item {it l:Addr} {i:Nat} {items:Array Value} {x:Value} {Q:Option Value->Shared->Prop} (hit:IsTRev s.heap it l (i:Int)) (hl:IsTup s.heap l items) (hz:items.size<=sizeLine) (hx:items[i]? =some x)
  (hQ:∀h' t,IsTRev h' it l ((i:Int)-1)->Heap.SameBut it s.heap h'->Q (some x) {s with heap:=h',toks:=t}):wpAny (model prog w) A (pyNext (.ref it)) Q E s:=by
 (obtain⟨o,ho,hc,hd⟩:=id hit)
 unfold pyNext
 refine wpAny_bind (wpAny_attempt (wpAny_callSpecial?_slot (name:=Str.ofString "__next__") hit.typeIs rt_next (wpAny_call_entry rt_next hit.typeIs rt_entry ?_ (rt_args _))))
 unfold Builtin.«reversed.__next__»
 (refine wpAny_bind (wpAny_of_eq (a:=(Value.ref it,[])) rfl ?_))
 try dsimp only
 (refine wpAny_bind (wpAny_field ho hd (x:= .ref l) rfl ?_))
 (refine wpAny_bind (wpAny_field ho hd (x:=rawInt (i:Int)) rfl ?_))
 refine (show wpAny _ _ (if (i:Int)<0 then _ else _) _ _ s from ?_)
 rw[if_neg (by omega)]
 have ty:s.TypeIs (.ref l) "tuple":=hl.typeIs
 refine wpAny_bind (wpAny_specialOf ty slot_tuple_getitem.lookup ?_)
 rw[if_neg (by decide)]
 have hi:i<items.size:=(Array.getElem?_eq_some_iff.mp hx).1
 have hsl:=sizeLine_eq
 refine wpAny_bind (wpAny_mkInt (wpAny_bind (wpAny_attempt (getItem_tuple (s:={s with toks:=s.toks+1}) hl (by omega) (by omega) (j:=i) (by unfold seqIndex?; simp;omega) hx ?_))))
 try dsimp only
 (refine wpAny_bind (wpAny_field ho hd (x:=rawInt (i:Int)) rfl ?_))
 refine (show wpAny _ _ (setField (.ref it) 1 (rawInt ((i:Int)-1)) >>= _) _ _ _ from wpAny_bind (wpAny_setField ho hd (by simp) ?_))
 refine wpAny_pure ⟨x,rfl,wpAny_pure (hQ _ _ ?_ (Heap.SameBut.update ..))⟩
 exact⟨_,Heap.get?_update_self _ ho (Obj.isFreed_of_fields (Obj.data_mapFields hd _)),(Obj.cls_mapFields ..).trans hc,by rw[Obj.data_mapFields hd];simp⟩
theorem rt_next_end {it l:Addr} {Q:Option Value->Shared->Prop} (hh:A.handled=none) (hit:IsTRev s.heap it l (-1)) (hQ:∀h',Heap.ExtBut it s.heap h'->Q none {s with heap:=h'}):wpAny (model prog w) A (pyNext (.ref it)) Q E s:=by
 (obtain⟨o,ho,hc,hd⟩:=id hit)
 unfold pyNext
 refine wpAny_bind (wpAny_attempt (wpAny_callSpecial?_slot (name:=Str.ofString "__next__") hit.typeIs rt_next (wpAny_call_entry rt_next hit.typeIs rt_entry ?_ (rt_args _))))
 unfold Builtin.«reversed.__next__»
 (refine wpAny_bind (wpAny_of_eq (a:=(Value.ref it,[])) rfl ?_))
 try dsimp only
 (refine wpAny_bind (wpAny_field ho hd (x:= .ref l) rfl ?_))
 (refine wpAny_bind (wpAny_field ho hd (x:=rawInt (-1)) rfl ?_))
 refine (show wpAny _ _ (if (-1:Int)<0 then _ else _) _ _ s from ?_)
 rw[if_pos (by decide)]
 refine wpAny_bind (wpAny_rule ?_)
 refine wpAny_bind (show wpAny _ _ (setField (.ref it) 1 (rawInt (-1)) >>= _) _ _ s from wpAny_bind (wpAny_setField ho hd (by simp) ?_))
 have ho':=Heap.get?_update_self (h:=s.heap) (Obj.mapFields (·.setIfInBounds 1 (rawInt (-1)))) ho (Obj.isFreed_of_fields (Obj.data_mapFields hd _))
 refine (show wpAny _ _ (setField (.ref it) 0 .none) _ _ _ from wpAny_setField ho' (Obj.data_mapFields hd _) (by simp) ?_)
 refine (show wpAny _ _ (Builtin.SmallTypes.stopIteration >>= _) _ _ _ from wpAny_bind ?_)
 refine (show wpAny _ _ (newExc (.type "StopIteration") [] >>= _) _ _ _ from wpAny_bind ?_)
 simp only[newExc,newTuple]
 (refine wpAny_bind (wpAny_newObj_type ?_ (by size_fits)))
 refine wpAny_bind (m:=firstArgMember _ _) (wpAny_of_eq (a:=Value.none) (by first | rfl | (simp only[firstArgMember];rfl)) (wpAny_newObj_type ?_ (by size_fits)))
 simp only[raiseNew]
 (refine wpAny_bind (wpAny_handled ?_))
 (rw[show A.in1.handled=none from hh])
 (refine wpAny_bind (wpAny_pure (wpAny_throw ?_)))
 refine wpAny_bind (wpAny_isInstance (T:="StopIteration") (b:=true) ⟨_,Heap.get?_push_size _ rfl,rfl⟩ isSubtype_stop (wpAny_pure (hQ _ fun b o hb e=> ?_)))
 exact Heap.get?_push_of_some _ (Heap.get?_push_of_some _ ((Heap.get?_update_ne _ _ _ _ hb).trans ((Heap.get?_update_ne _ _ _ _ hb).trans e)))
theorem rt_iter:Slot "reversed" "__iter__" "reversed.__iter__":=
 .of (owner:="reversed") (n:="__iter__") (by rw[typeLookup_type,builtinLookup_eq_fast];kernel_rfl) (by decide +kernel) (by decide +kernel) (by decide +kernel)
  (by first | exact .inl (by decide +kernel) | exact .inr (by decide +kernel)) (by rw[isSubtype_type];kernel_rfl)
theorem rt_args2 (a:Value):argsOk "reversed.__iter__" ⟨[a],[]⟩:=by
 unfold argsOk;rw[signature?_of (id:="reversed.__iter__") (n:=['_','_','r','e','t','i','_','_']) (o:=['d','e','s','r','e','v','e','r']) (by kernel_rfl) kUt];kernel_rfl
theorem rt_entry2:entryFor table "reversed.__iter__"=some Builtin.«dict_keyiterator.__iter__» :=
 entryFor_alias (id':="dict_keyiterator.__iter__") (by kernel_rfl) (by first | rfl | decide +kernel | (unfold String.splitOn;simp +decide [String.splitOnAux])) (by decide +kernel) (by kernel_rfl)
theorem rt_self {it l:Addr} {i:Int} {Q:Value->Shared->Prop} (hit:IsTRev s.heap it l i) (h:Q (.ref it) s):wpAny (model prog w) A (pyIter (.ref it)) Q E s:=by
 refine wpAny_pyIter_slot hit.typeIs rt_iter (wpAny_call_entry rt_iter hit.typeIs rt_entry2 ?_ (rt_args2 _))
 exact (show wpAny _ _ (ret (.ref it)) _ _ s from wpAny_pure ⟨_,rfl,"reversed",_,hit.typeIs,rt_next.lookup,h⟩)
end
theorem rl_no_len:typeLookup (.type "reversed") "__len__"=pure none:=by rw[typeLookup_type,builtinLookup_eq_fast];kernel_rfl
theorem rl_hint_at:typeLookup (.type "reversed") "__length_hint__"=pure (some (.builtin "reversed.__length_hint__")):=by rw[typeLookup_type,builtinLookup_eq_fast];kernel_rfl
theorem rl_slot:Slot "reversed" "__length_hint__" "reversed.__length_hint__":=
 .of (owner:="reversed") (n:="__length_hint__") (by rw[typeLookup_type,builtinLookup_eq_fast];kernel_rfl) (by decide +kernel) (by decide +kernel) (by decide +kernel)
  (by first | exact .inl (by decide +kernel) | exact .inr (by decide +kernel)) (by rw[isSubtype_type];kernel_rfl)
theorem rl_args (a:Value):argsOk "reversed.__length_hint__" ⟨[a],[]⟩:=by
 unfold argsOk;rw[signature?_of (id:="reversed.__length_hint__") (n:=['_','_','t','n','i','h','_','h','t','g','n','e','l','_','_']) (o:=['d','e','s','r','e','v','e','r']) (by kernel_rfl) kUt];kernel_rfl
theorem rl_entry:entryFor table "reversed.__length_hint__"=some Builtin.«reversed.__length_hint__» :=entryFor_of_tree (by kernel_rfl)
section
variable {P:Program} {w:World} {A:Around} {E:Value->Shared->Prop} {s:Shared} {it l:Addr} {xs:Array Value}
theorem rl_call {Q:Value->Shared->Prop} (hi:IsTRev s.heap it l ((xs.size:Int)-1)) (hl:IsTup s.heap l xs) (hz:xs.size<=sizeLine) (h:∀t u,Q (.int (xs.size:Int) t) {s with toks:=u}):wpAny (model P w) A (call (.builtin "reversed.__length_hint__") [.ref it]) Q E s:=by
 obtain⟨o,ho,hc,hd⟩:=id hi
 have hsl:=sizeLine_eq
 refine wpAny_call_entry rl_slot hi.typeIs rl_entry ?_ (rl_args _)
 unfold Builtin.«reversed.__length_hint__»
 refine wpAny_bind (wpAny_of_eq (a:=Value.ref it) rfl ?_)
 (refine wpAny_bind (wpAny_field ho hd (x:= .ref l) rfl ?_))
 (rw[if_neg (show ¬ ((Value.ref l == Value.none)=true) from lJe)])
 refine wpAny_bind (len_tuple hl (by omega) ?_)
 refine wpAny_bind (wpAny_of_eq (a:=some (xs.size:Int)) (by first | rfl | kernel_rfl) ?_)
 try dsimp only
 refine wpAny_bind (wpAny_field ho hd (x:=rawInt ((xs.size:Int)-1)) rfl ?_)
 refine (show wpAny _ _ (if (xs.size:Int)<(xs.size:Int)-1+1 then _ else _) _ _ _ from ?_)
 rw[if_neg (by omega),show (xs.size:Int)-1+1=xs.size by omega]
 exact wpAny_bind (wpAny_mkInt (wpAny_pure ⟨_,rfl,h _ _⟩))
theorem rl_hint {Q:Bool->Shared->Prop} (hi:IsTRev s.heap it l ((xs.size:Int)-1)) (hl:IsTup s.heap l xs) (hz:xs.size<=sizeLine) (h:∀b u,Q b {s with toks:=u}):wpAny (model P w) A (Builtin.List.listLengthHint (.ref it)) Q E s:=by
 have hsl:=sizeLine_eq
 have ty:=hi.typeIs
 (unfold Builtin.List.listLengthHint)
 refine wpAny_bind (wpAny_specialOf ty rl_no_len ?_)
 refine (show wpAny _ A (specialOf (Value.ref it) (Str.ofString "__length_hint__") >>= _) _ _ _ from wpAny_bind (wpAny_specialOf ty rl_hint_at ?_))
 generalize hn:("reversed.__length_hint__":String)=nm
 wp_delta
 rw[show splitId nm=some ("reversed","__length_hint__") by subst hn;decide +kernel];subst hn
 refine wpAny_bind (wpAny_isInstance (T:="reversed") (b:=true) ty (by rw[isSubtype_type];kernel_rfl) (wpAny_ite_split (fun z=>absurd z (by decide)) fun _=> ?_))
 refine wpAny_ite_split (fun z=>absurd z (by decide +kernel)) fun _=> ?_
 refine wpAny_bind (wpAny_rule ?_)
 refine wpAny_bind (wpAny_of_eq (rl_slot.bind _) ?_)
 try dsimp only
 refine wpAny_bind (wpAny_attempt (rl_call hi hl hz fun t u=> ?_))
 split
 ·rename_i e he;cases he
 ·rename_i he;cases he
 ·rename_i r _ he
  cases he
  have ea:asInt? (Value.int (xs.size:Int) t)=pure (some (xs.size:Int)):=by first | rfl | kernel_rfl
  rw[ea,pure_bind]
  split
  ·rename_i n hn
   cases hn
   rw[if_neg (by rw[fitsIndex_both (by omega) (by omega)];exact lJe),if_neg (by omega),if_neg (by rw[notLongL (by simpa using hz)];exact lJe)]
   exact wpAny_pure (h _ _)
  ·rename_i hn
   exact (hn _ rfl).elim
end
theorem walks_rt {prog:Program} {w:World} {A:Around} (hh:A.handled=none) (I l:Addr) (hne:l≠I) (items:Array Value) (hz:items.size<=sizeLine):
  Walks prog w A I [I,l] [I] items.size (fun i v=>items[items.size-1-i]? =some v) (fun i h=>i<=items.size/\IsTRev h I l ((items.size:Int)-1-(i:Int))/\IsTup h l items) where
 sub:=fun b hb=>(by simp at hb;simp[hb])
 frame:=fun _ _ _ x hk=>⟨x.1,x.2.1.at fun o e=>hk I (by simp) o e,let ⟨o,ho,r⟩:=x.2.2;⟨o,hk l (by simp) o ho,r⟩⟩
 item i s Q E hi x hQ:=by
  (have e:(items.size:Int)-1-(i:Int)=((items.size-1-i:Nat):Int):=by omega)
  have hit:=x.2.1
  rw[e] at hit
  (have hx:items[items.size-1-i]? =some (items[items.size-1-i]'(by omega)):=Array.getElem?_eq_getElem (by omega))
  refine rt_next_item hit x.2.2 hz hx fun h' t hit' hs'=> ?_
  (have e2:((items.size-1-i:Nat):Int)-1=(items.size:Int)-1-((i+1:Nat):Int):=by omega)
  rw[e2] at hit'
  exact hQ _ h' t hx ⟨hi,hit',let ⟨o,ho,r⟩:=x.2.2;⟨o,(hs'.2 l hne).trans ho,r⟩⟩ fun b o hb eo=>hs'.extBut b o (fun h=>hb (by simp[h])) eo
 done:=fun s Q E x hQ=>by
  (have e:(items.size:Int)-1-(items.size:Int)= -1:=by omega)
  have hit:=x.2.1
  rw[e] at hit
  exact rt_next_end hh hit fun h' he'=>hQ h' s.toks fun b o hb eo=>he' b o (fun h=>hb (by simp[h])) eo
 self:=fun _ _ _ _ x hQ=>rt_self x.2.1 hQ
theorem extend_rt {P:Program} {w:World} {A:Around} {s:Shared} {R:Result->Shared->Prop} {it l S:Addr} {xs:Array Value} (hh:A.handled=none) (hi:IsTRev s.heap it l ((xs.size:Int)-1)) (hl:IsTup s.heap l xs) (hz:xs.size<=sizeLine) (res:Value) (c0:Nat)
  (hS:s.heap.get? S=some {cls:= .type "list",data:= .seq #[] c0})
  (hR:∀(g:Heap) (tk:Nat) (acc:Array Value) (c':Nat),(∀d o,d≠S->d≠it->s.heap.get? d=some o->g.get? d=some o)->g.get? S=some {cls:= .type "list",dict:=none,data:= .seq acc c',slots:= #[]}->ItemsOf (fun i v=>xs[xs.size-1-i]? =some v) acc xs.size->R (.ok (.ret res)) {s with heap:=g,toks:=tk}):
  wpAny (model P w) A.in1 (Builtin.List.listExtendWith (.ref S) (.ref it) res) (fun fin z=>match fin with | .done f=>R (.ok f) z | .again c'=>c'.quiet=true/\codeAny (model P w) A c' R z) (fun e z=>R (.error e) z) s:=by
 have hSi:S≠it:=by
  rintro rfl
  obtain⟨o,ho,hc,_⟩:=hi
  rw[hS] at ho;cases ho
  exact absurd hc (show ¬ Value.type "list"=Value.type "reversed" by decide)
 have hSl:S≠l:=by
  rintro rfl
  obtain⟨o,ho,hc,_⟩:=hl
  rw[hS] at ho;cases ho
  exact absurd hc (show ¬ Value.type "list"=Value.type "tuple" by decide)
 have ne:l≠it:=by
  rintro rfl
  obtain⟨o,ho,hc,_⟩:=hi
  obtain⟨o',ho',hc',_⟩:=hl
  rw[ho] at ho';cases ho'
  rw[hc] at hc'
  exact absurd hc' (by decide)
 have key:∀(h:Heap) (c₁ tk:Nat),IsTRev h it l ((xs.size:Int)-1)->IsTup h l xs->(∀b o,b≠S->s.heap.get? b=some o->h.get? b=some o)->
   h.get? S=some {cls:= .type "list",data:= .seq #[] c₁ }->codeAny (model P w) A (.builtin "list.extend.loop" ⟨[.ref S,.ref it,res],[]⟩) R {s with heap:=h,toks:=tk}:=by
  intro h c₁ tk hi' hl' hk hS₁
  have Wk:=(walks_rt (prog:=P) (w:=w) (A:=A.in1) hh it l ne xs hz).toS
  refine codeAny_extend_loopS Wk hz S (by simp[hSi,hSl]) res xs.size 0 _ #[] c₁ rfl (lJn _) ⟨lJn _,by simpa using hi',hl'⟩ hS₁ (ItemsOf.nil _) fun z acc c' hm hS' hacc=> ?_
  rw[Moved.eq_with hm]
  exact hR z.heap z.toks acc c' (fun b o h1 h2 e=>hm.heap b o (by simp[h1,h2]) (hk b o h1 e)) hS' hacc
 (unfold Builtin.List.listExtendWith)
 refine wpAny_bind (wpAny_typeOf hi.typeIs ?_)
 have z1:Builtin.List.listSameRef (.ref S) (.ref it)=false:=by simp[Builtin.List.listSameRef,hSi]
 have z2:(Value.type "reversed" == Value.type "list")=false:=by decide
 have z3:(Value.type "reversed" == Value.type "tuple")=false:=by decide
 simp only[z1,z2,z3,Bool.or_false,lKt,if_false]
 refine wpAny_bind (rt_self hi (wpAny_bind (wpAny_holding (rl_hint hi hl hz fun b u=> ?_))))
 refine wpAny_ite_split (fun _=> ?_) (fun _=>wpAny_pure ⟨plainId_quiet F.plain_extend_loop _,key _ c0 _ hi hl (fun b o _ e=>e) hS⟩)
 refine wpAny_bind (wpAny_rule (wpAny_bind ?_))
 refine (show wpAny _ _ (updateSeq S (·.push .none) >>= fun _=>updateSeq S (·.pop)) _ _ _ from wpAny_bind (wpAny_updateSeq hS rfl ?_))
 (have hS₂:=Heap.get?_update_self (Obj.mapSeq (·.push Value.none)) hS rfl)
 (refine wpAny_updateSeq (hz:=by seq_fits) hS₂ rfl ?_)
 (have hS₃:=Heap.get?_update_self (Obj.mapSeq (·.pop)) hS₂ rfl)
 have oth:∀b o,b≠S->s.heap.get? b=some o->((s.heap.update S (Obj.mapSeq (·.push Value.none))).update S (Obj.mapSeq (·.pop))).get? b=some o:=fun b o hb e=>(Heap.get?_update_other _ _ (Ne.symm hb)).trans ((Heap.get?_update_other _ _ (Ne.symm hb)).trans e)
 exact wpAny_pure ⟨plainId_quiet F.plain_extend_loop _,key _ _ _ (hi.at fun o e=>oth _ o hSi.symm e) (let ⟨o,ho,r⟩:=hl;⟨o,oth _ o hSl.symm ho,r⟩) oth hS₃⟩
section
variable {X:Cx}
end
theorem collect_rt {P:Program} {w:World} {A:Around} {E:Value->Shared->Prop} {s:Shared} {it l:Addr} {xs:Array Value} {Q:List Value->Shared->Prop} (hh:A.handled=none) (hi:IsTRev s.heap it l ((xs.size:Int)-1)) (hl:IsTup s.heap l xs) (hz:xs.size<=sizeLine)
  (hQ:∀(g:Heap) (tk:Nat) (acc:Array Value),(∀d o,d≠it->s.heap.get? d=some o->g.get? d=some o)->s.heap.objs.size<g.objs.size->ItemsOf (fun i v=>xs[xs.size-1-i]? =some v) acc xs.size->Q acc.toList {s with heap:=g,toks:=tk}):wpAny (model P w) A (collect (.ref it)) Q E s:=by
 have key:∀R:Result->Shared->Prop,(∀(g:Heap) (tk:Nat) (acc:Array Value) (c':Nat),(∀d o,d≠it->s.heap.get? d=some o->g.get? d=some o)->g.get? s.heap.objs.size=some {cls:= .type "list",dict:=none,data:= .seq acc c',slots:= #[]}->ItemsOf (fun i v=>xs[xs.size-1-i]? =some v) acc xs.size->R (.ok (.ret (.ref s.heap.objs.size))) {s with heap:=g,toks:=tk})->
   codeAny (model P w) A (.builtin "proto.collect" ⟨[.ref it],[]⟩) R s:=by
  intro R hR
  refine codeAny_builtin F.entry_proto_collect ?_;rw[Around.under_plainId F.plain_proto_collect _]
  refine (show wpAny _ A.in1 (newList [] >>= fun l=>again (.builtin "list.__iadd__" ⟨[l,.ref it],[]⟩)) _ _ s from wpAny_bind (wpAny_newObj_type (wpAny_pure ⟨plainId_quiet F.plain_list_iadd _,codeAny_builtin F.entry_list_iadd ?_⟩)))
  rw[Around.under_plainId F.plain_list_iadd _];have hS:(s.heap.push {cls:= .type "list",data:= .seq ([]:List Value).toArray}).get? s.heap.objs.size=some {cls:= .type "list",data:= .seq ([]:List Value).toArray}:=Heap.get?_push_size _ rfl
  obtain⟨ol,hol,hcl⟩:=id hl
  exact extend_rt (A:=A) (R:=R) hh (hi.at fun o e=>Heap.get?_push_of_some _ e) ⟨ol,Heap.get?_push_of_some _ hol,hcl⟩ hz (.ref s.heap.objs.size) _ hS fun g tk acc c' kp hS' itm=>hR g tk acc c' (fun d o h1 e=>kp d o (lJj (Heap.lt_size e)) h1 (Heap.get?_push_of_some _ e)) hS' itm
 unfold collect
 exact wpAny_bind (wpAny_runValue (key _ fun g tk acc c' kp hS' itm=>(show wpAny _ A (load s.heap.objs.size >>= _) _ _ _ from wpAny_bind (wpAny_load hS' (wpAny_pure (hQ g tk acc kp (Heap.lt_size hS') itm))))))
theorem tuple_rt {P:Program} {w:World} {A:Around} {E:Value->Shared->Prop} {s:Shared} {it l:Addr} {xs:Array Value} {Q:Value->Shared->Prop} (hh:A.handled=none) (hi:IsTRev s.heap it l ((xs.size:Int)-1)) (hl:IsTup s.heap l xs) (hz:xs.size<=sizeLine)
  (hQ:∀(g:Heap) (tk:Nat) (acc:Array Value),(∀d o,d≠it->s.heap.get? d=some o->g.get? d=some o)->s.heap.objs.size<g.objs.size->ItemsOf (fun i v=>xs[xs.size-1-i]? =some v) acc xs.size->Q (.ref g.objs.size) {s with heap:=g.push {cls:= .type "tuple",data:= .seq acc},toks:=tk}):
  wpAny (model P w) A (call (.type "tuple") [.ref it]) Q E s:=by
 refine callType_codes (Q₁:=fun obj z=>z.TypeIs obj "tuple"/\Q obj z) F.called_tuple (F.typeCall_tuple_1 _) F.entry_object_init (codeAny_of_tree ?_) fun obj z hz=>⟨hz.1,F.args_object_init_2 obj _,object_init_meets F.called_tuple.init.lookup F.called_tuple.made (by decide) P w A.in1 _ z ⟨hz.1,rfl,hz.2⟩⟩
 refine (show wpAny _ A.in1.in1 (do checkBuiltinCall "tuple.__new__" ⟨[.type "tuple",.ref it],[]⟩;again (.builtin "tuple.__new__" ⟨[.type "tuple",.ref it],[]⟩)) _ _ s from wpAny_bind (wpAny_of_eq (F.newCall_tuple_1 _) (wpAny_pure ⟨plainId_quiet F.plain_tuple_new _,codeAny_builtin F.entry_tuple_new ?_⟩)))
 rw[Around.under_plainId F.plain_tuple_new _];have h1:=sub_tuple_self
 have h2:=init_tuple_lookup
 have h3:=madeHere_tuple
 have ty:=hi.typeIs
 wp_walk using wpAny_typeOf ty,collect_rt (A:=A.in1.in1) hh hi hl hz
 intro g tk acc kp big itm
 refine (show wpAny _ _ (Builtin.Tuple.tupleExact acc.toList.toArray >>= fun x=>ret x) _ _ _ from ?_)
 unfold Builtin.Tuple.tupleExact;refine wpAny_bind (wpAny_newObj_type (wpAny_pure ?_) (by show acc.toList.toArray.size<=sizeLine;simp only[Array.toArray_toList];rw[itm.1];exact hz))
 rw[show acc.toList.toArray=acc by simp]
 exact⟨⟨_,Heap.get?_push_size _ rfl,rfl⟩,hQ g tk acc kp big itm⟩
section
variable {X:Cx}
noncomputable def kJ6 (ta:TA3):TE3:=fun τ G Q=>ta τ G fun vs G1=>∃xs,vs=[.tup xs]/\Q (.tup xs.reverse) G1
theorem e_trevT {pos pos' p p':Pos} {a:Expr} {ta:TA3} (hc:X.calm=true) (hl:Gl X "tuple") (hlm:X.mg "tuple"=none) (hg:Gl X "reversed") (hm:X.mg "reversed"=none) (hv:bootBuiltins "reversed"=some (.type "reversed")) (ha:PA3 X [a] ta) (hs:starEach [a] X.env=[(false,eval a X.env)]:=by rfl)
  (hs':starEach [Expr.Call (.Name "reversed" p) [a] [] pos] X.env=[(false,eval (.Call (.Name "reversed" p) [a] [] pos) X.env)]:=by rfl):
  PE3 X (.Call (.Name "tuple" p') [.Call (.Name "reversed" p) [a] [] pos] [] pos') (kJ6 ta):=by
 intro pins s τ G H Q I h
 obtain⟨σ,I0,_,_⟩:=id I
 refine Call_ (jXr I0 hl hlm rfl (PyProof.Rows.callWith_type1 ?_ hs' rfl))
 rw[hs']
 refine Calls.spliced_cons (Call_ (jXr I0 hg hm hv (PyProof.Rows.callWith_type1 (thn (ha pos pins s τ G H _ I h) fun us s1 w_=>w_.el fun ys G1 H1 e1 i_ r_ q1=>i_.el fun σ1 I1 hs1 hg1=>r_.el fun as ras rvs=> ?_) hs rfl)))
 obtain⟨xs,e,q⟩:=q1
 subst e
 obtain⟨v,rfl,rv⟩:=jYs ras
 obtain⟨u,rfl,ru⟩:=rvs.one
 obtain⟨pa,vs,e,hq,r⟩:=(show ∃a vs,v= .ref a/\H1 a=some (.tup vs)/\Reps X.K H1 xs vs from rv)
 subst e
 cases ru
 obtain⟨its,rvv,pl,hz⟩:=I1.tuple (.of hq)
 have hlen:its.length=xs.length:=by have:=rvv.length;have:=r.length;omega
 have hvl:=rvv.length
 refine jZ9 pl (by simp;omega) fun t=>Calls.spliced_nil ?_
 obtain⟨ol,hol,hcl⟩:=id pl
 refine tuple_rt (s:={s1 with heap:=s1.heap.push (kJ4 pa ((its.toArray.size:Int)-1)),toks:=t}) (it:=s1.heap.objs.size) (l:=pa) (xs:=its.toArray) (I1.ok.hd hc) ⟨_,Heap.get?_push_size _ rfl,rfl,rfl⟩ ⟨ol,Heap.get?_push_of_some _ hol,hcl⟩ (by simp;omega) fun g tk acc kp big itm=> ?_
 have hacc:acc.toList=its.reverse:=by
  apply lJ8
  intro i
  by_cases hi:i<its.length
  ·have hia:i<acc.size:=by rw[itm.1];simpa using hi
   have e1:acc.toList[i]? =some acc[i]:=by simp[hia]
   have e2:=itm.2 i acc[i] (by simp[hia])
   rw[e1,List.getElem?_reverse hi]
   simpa using e2.symm
  ·rw[lJh (by have:=itm.1;simp at this ⊢; omega),lJh (by simp;omega)]
 have hge:s1.heap.objs.size<=g.objs.size:=by rw[Heap.size_push] at big;omega
 have fr:=I1.hok.fresh hge
 have hvl:=rvv.length
 have I3:=I1.laid (a:=g.objs.size) (o:= .tup vs.reverse) (h':=g.push {cls:= .type "tuple",data:= .seq acc}) (t':=tk) (fun b o e=>Heap.get?_push_of_some _ (kp b o (lJj (Heap.lt_size e)) (Heap.get?_push_of_some _ e))) hge ⟨by simp;omega,acc.toList,by rw[hacc];exact rvv.reverse,by simpa using TupD.new g acc⟩
 have ext:Ext H1 (upd H1 g.objs.size (.tup vs.reverse)):= .upd (.none fr)
 exact⟨.tup xs.reverse,G1,_,e1.trans ext,⟨σ1,I3,hs1.mono ext,hg1.tupNew fr⟩,⟨.ref g.objs.size,Rep.tupNew r.reverse fr,rfl⟩,q⟩
end
section
variable {X:Cx} {pos:Pos} {e a:Expr} {es:List Expr} {te ta:TE3} {t:TA3} {st:Stmt} {rest:List Stmt} {ts us:TS3}
structure PEi (X:Cx) (e:Expr) (t:TE3):Prop where
 out:PE3 X e t
structure PAi (X:Cx) (es:List Expr) (t:TA3):Prop where
 out:PA3 X es t
structure PSi (X:Cx) (s:Stmt) (t:TS3):Prop where
 out:PS3 X s t
structure PSsi (X:Cx) (s:List Stmt) (t:TS3):Prop where
 out:PSs3 X s t
theorem jZn {i j}:PEi X (.Constant (.int i) j pos) (tC (.int i)):=⟨jJl⟩
theorem ei_bl {b j}:PEi X (.Constant (.bool b) j pos) (tC (.bl b)):=⟨e_bl⟩
theorem ei_non {j}:PEi X (.Constant .none j pos) (tC .non):=⟨kJl⟩
theorem ei_str {x j}:PEi X (.Constant (.str x) j pos) (tC (.str x)):=⟨e_str⟩
theorem ei_neg (h:PEi X a ta):PEi X (.UnaryOp .USub a pos) (tUn rNeg ta):=⟨e_un u_neg h.out⟩
theorem ei_op {b:Expr} {tb:TE3} {op:Operator} {r:R3} (ho:Op3 X (binaryOp op) r) (ha:PEi X a ta) (hb:PEi X b tb):PEi X (.BinOp a op b pos) (tOp r ta tb):=⟨e_op ho ha.out hb.out⟩
theorem kJd {x1} (h:PAi X es t):PEi X (.Tuple es x1 pos) (tTup t):=⟨jKd h.out⟩
theorem kKr (h:PAi X es t):PEi X (.List es pos) (tLst t):=⟨jQf h.out⟩
theorem jVk:PAi X [] tNil:=⟨jJd⟩
theorem jJ6 (ha:PEi X e te) (hr:PAi X es t) (hs:starEach (e::es) X.env=(false,eval e X.env)::starEach es X.env:=by rfl):PAi X (e::es) (jJa te t):=⟨jJb ha.out hr.out hs⟩
theorem si_set {i:Nat} {x:Str} {pos':Pos} (hN:X.N.Nodup) (he:PEi X e te) (hi:X.N[i]? =some x:=by rfl) (hx:Loc X.env.scope x:=by first | exact Or.inl rfl | exact Or.inr rfl)
  (hs:swapsWith e (some (.Name x pos')) pos.line X.env=pure false:=by rfl) (hf:X.fn x=true\/X.env.scope.names.lookup x=some .local:=by first | exact .inl rfl | exact .inr rfl):
  PSi X (.Assign [.Name x pos'] e pos) (tAsg te (jJj i)):=⟨jJ1 hN he.out hi hx hs hf⟩
theorem si_ret (he:PEi X e te):PSi X (.Return (some e) pos) (tRet te):=⟨jKi he.out⟩
theorem ssi_one (h:PSi X st ts):PSsi X [st] ts:=⟨jJn h.out⟩
theorem ssi_cons (h:PSi X st ts) (h':PSsi X rest us):PSsi X (st::rest) (tSeq ts us):=⟨jJf h.out h'.out⟩
end
end L3
namespace PySem
open Sem (wp)
set_option maxRecDepth 100000
end PySem
namespace L3
open PySem PySem.Spec PyProof.Rows L2
section
variable {prog:Program} {w:World} {A:Around} {E:Value->Shared->Prop} {s:Shared}
end
section
variable {X:Cx}
end
section
variable {X:Cx}
end
section
variable {X:Cx}
end
mutual
inductive RdG (G:Gp):T->PyData->Prop
 | non:RdG G .non .none
 | bl (b:Bool):RdG G (.bl b) (.bool b)
 | int (i:Int):RdG G (.int i) (.int i)
 | str (x:Str):RdG G (.str x) (.str x)
 | tup {xs:List T} {ds:List PyData}:RdGs G xs ds->RdG G (.tup xs) (.tuple ds)
 | lst {p:Addr} {xs:List T} {ds:List PyData}:G p=some (.lst xs)->RdGs G xs ds->RdG G (.ref p) (.list ds)
inductive RdGs (G:Gp):List T->List PyData->Prop
 | nil:RdGs G [] []
 | cons {x:T} {d:PyData} {xs:List T} {ds:List PyData}:RdG G x d->RdGs G xs ds->RdGs G (x::xs) (d::ds)
end
section
variable {X:Cx}
mutual
theorem reads_G {pins:List (Addr×Obj)} {σ:L2.St} {H:Hp} {s:Shared} {G:Gp} (I:Inv X pins σ H s) (hg:GRel X.K H G):∀ {x:T} {d:PyData} {a:V} {u:Value},RdG G x d->Rep X.K H x a->RelV a u->∃as,Reads s.heap u d as
 | _,_,a,u,.non,r,q=>by cases (show a= .non from r);cases q;exact⟨_,.none⟩
 | _,_,a,u,.bl b,r,q=>by cases (show a= .bl b from r);cases q;exact⟨_,.bool b⟩
 | _,_,a,u,.int b,r,q=>by cases (show a= .int b from r);obtain⟨t,rfl⟩:=q;exact⟨_,.int b t⟩
 | _,_,a,u,.str b,r,q=>by cases (show a= .str b from r);obtain⟨t,rfl⟩:=q;exact⟨_,.str b t⟩
 | .tup xs,_,a,u,.tup h,r,q=>by
  obtain⟨p,vs,e1,h1,h2⟩:=(show ∃p vs,a= .ref p/\H p=some (.tup vs)/\Reps X.K H xs vs from r)
  subst e1;cases q
  obtain⟨its,rv,⟨o,ho,hc,n,hd⟩,_⟩:=I.tuple (.of h1)
  obtain⟨as,ra⟩:=kUv I hg h h2 rv
  exact⟨_,.tuple ho hc hd (by simpa using ra)⟩
 | .ref p,_,a,u,.lst hp h,r,q=>by
  cases (show a= .ref p from r);cases q
  obtain⟨vs,h1,h2⟩:=hg.lst hp
  obtain⟨its,rv,⟨o,n,ho,hc,_,hd⟩,_⟩:=I.list (.of h1)
  obtain⟨as,ra⟩:=kUv I hg h h2 rv
  exact⟨_,.list ho hc hd (by simpa using ra)⟩
theorem kUv {pins:List (Addr×Obj)} {σ:L2.St} {H:Hp} {s:Shared} {G:Gp} (I:Inv X pins σ H s) (hg:GRel X.K H G):∀ {xs:List T} {ds:List PyData} {vs:List V} {us:List Value},RdGs G xs ds->Reps X.K H xs vs->Vals vs us->∃as,ReadsAll s.heap us ds as
 | _,_,_,_,.nil,r,q=>by cases r;cases q;exact⟨_,.nil⟩
 | _,_,_,_,.cons h hs,⟨v,ws,e,r1,r2⟩,q=>by
  subst e
  cases q with
  | cons q1 q2=>
   obtain⟨as,ra⟩:=reads_G I hg h r1 q1
   obtain⟨bs,rb⟩:=kUv I hg hs r2 q2
   exact⟨_,.cons ra rb⟩
end
noncomputable def rNeD:R3:=fun x y G Q=>∃dx dy,RdG G x dx/\RdG G y dy/\dx.canLay0=true/\dy.canLay0=true/\dx.depth<=50/\Q (.bl (!PyData.eqv dx dy)) G
theorem o_neD (hu:X.A.units+64<cLine):Op3 X (compareOp .NotEq) rNeD:=by
 rintro pins s τ G H x y v u Q ⟨σ,I,hs,hg⟩ ⟨a,ra,rv⟩ ⟨b,rb,ru⟩ ⟨dx,dy,h1,h2,c1,c2,d,q⟩
 obtain⟨as,r1⟩:=reads_G I hg h1 ra rv
 obtain⟨bs,r2⟩:=reads_G I hg h2 rb ru
 exact SeqAt.compareNe_reads r1 r2 c1 c2 (by omega) ⟨.bl (!PyData.eqv dx dy),G,H,.refl H,⟨σ,I,hs,hg⟩,⟨.bl (!PyData.eqv dx dy),rfl,rfl⟩,q⟩
end
end L3
namespace W
open PySem L3
local macro_rules
 | `(tactic| wp_walk using 1, $ts,*) => do
  let ls ← ts.getElems.mapM fun t => `(Lean.Parser.Tactic.simpLemma| $t:term)
  let ns ← ("tSeq tIfS jKe tOp rGt rLt rGe rSub L3.rI0 L3.rI rIxF tVar tC tAsg tCB jJa tNil rDivmod rLen rAbs rMax jZb gTup jKb gNil gSub jJj jXx tRet tRetN jK5 jUk jJo tLst tTup tIf tNot tAnd tOr kUn tOrV tNotV tPar jKk jXt rMod rFdiv rPow rIsN rNotN isNon tTru rTru truT tUn rNeg addR_int mulR_int mulC_int mulC_ref fin_val jYw ixR_tup ixR_scr at0 at1 at2 ix30 ix31 ix32 seqT_tup setR_gup ixR_gup seqT_gup Option.map_some and_assoc T.int.injEq T.bl.injEq T.tup.injEq T.ref.injEq List.cons.injEq and_true true_and exists_eq_left exists_eq_left' exists_and_left exists_eq_right List.getElem?_cons_zero List.getElem?_cons_succ List.set_cons_zero List.set_cons_succ List.length_cons List.length_nil Nat.reduceAdd Option.some.injEq jJg gup_gup reduceCtorEq false_and exists_false exists_const Bool.true_eq Bool.not_eq_true' Bool.not_true Bool.not_false if_true if_false decide_eq_true_eq tBM jKr kKc jKm tComp_at jUo GO.lst.injEq msk List.zipWith_cons_cons List.zipWith_nil_left List.zipWith_nil_right Bool.false_eq_true tyT_gup".splitOn " ").toArray.mapM fun n => `(Lean.Parser.Tactic.simpLemma| $(Lean.mkIdent n.toName):term)
  let al:=ns++ls
  `(tactic| ((try dsimp only [$al,*]); (try simp only [$al,*])))
local macro_rules
 | `(tactic| omega) => `(tactic| first | exact szle rfl | lia)
def BoxAt (G:Gp) (b:Addr) (n:Nat):Prop:=∃x y z:Int,G b=some (.lst [.int x,.int y,.int z])/\0<=x/\0<=y/\y<2147483648/\0<=z/\z<=n
def Keep (b:Addr) (G G':Gp):Prop:=∀c o,c≠b->G c=some o->G' c=some o
theorem Keep.refl (b:Addr) (G:Gp):Keep b G G:=fun _ _ _ h=>h
theorem Keep.trans {b:Addr} {G G1 G2:Gp} (h:Keep b G G1) (h':Keep b G1 G2):Keep b G G2:=fun c o hc e=>h' c o hc (h c o hc e)
theorem Keep.gup {b:Addr} {G:Gp} {o:GO}:Keep b G (gup G b o):=fun c u hc e=>by rw[jJt hc];exact e
theorem Keep.new {b p:Addr} {G:Gp} {o:GO} (hp:G p=none):Keep b G (L3.gup G p o):=fun c u _ e=>by rw[jJt];exact e;rintro rfl;rw[hp] at e;cases e
noncomputable def jJh:Sp3:=fun xs G Q=>∃(b:Addr) (m:Int) (n:Nat),xs=[.ref b,.int m]/\BoxAt G b n/\n<2^40/\1<=m/\m<2^29/\∀(r:Int) G',0<=r->r<m->BoxAt G' b (n+1)->Keep b G G'->Q (.int r) G'
noncomputable def N_l_take:List Str:=["_law_box_here","_law_many","_law_found","_law_once"]
noncomputable def jY2:TS3:=
 (tSeq (tIfS (jKe (tOp rGt (tOp rIxF (tVar 0) (tC (.int 0))) (tC (.int 0)))) (tSeq (tAsg (tCB rDivmod (jJa (tOp rIxF (tVar 0) (tC (.int 0))) (jJa (tVar 1) tNil))) (gTup 2 (jKb (gSub (tVar 0) (tC (.int 0)) jXx) (jKb (jJj 2) gNil))))
 (tRet (tVar 2))) jK5)
 (tSeq (tAsg (tOp jKk (tOp rIxF (tVar 0) (tC (.int 2))) (tC (.int 1))) (gSub (tVar 0) (tC (.int 2)) jXx))
 (tSeq (tAsg (tOp rMod (tOp jXt (tOp jKk (tOp rIxF (tVar 0) (tC (.int 1))) (tOp jXt (tC (.int 39373)) (tOp rIxF (tVar 0) (tC (.int 2))))) (tOp jKk (tC (.int 48271)) (tOp rIxF (tVar 0) (tC (.int 2))))) (tC (.int 2147483647))) (jJj 3))
 (tSeq (tAsg (tOp rMod (tOp jKk (tOp jXt (tVar 3) (tOp jKk (tOp rMod (tVar 3) (tC (.int 40009))) (tC (.int 7)))) (tOp rIxF (tVar 0) (tC (.int 2)))) (tC (.int 2147483629))) (gSub (tVar 0) (tC (.int 1)) jXx))
 (tRet (tOp rMod (tOp rFdiv (tOp rMod (tOp jXt (tOp rIxF (tVar 0) (tC (.int 1))) (tOp jKk (tOp rMod (tOp rIxF (tVar 0) (tC (.int 1))) (tC (.int 1009))) (tC (.int 3)))) (tC (.int 998244353))) (tC (.int 7))) (tVar 1)))))))
theorem rdok_l_take:∀xs G Q,jJh xs G Q->jY2 {nx:=fun _ G'=>Q .non G',rt:=Q} (jJm N_l_take xs) G:=by
 intro xs G Q h_;apply xe3 h_;clear h_;intro b m n h_;apply ae5 h_;clear h_;intro q0_ hn hm1 hm2 k
 obtain⟨x,y,z,hb,hx,hy0,hy1,hz0,hz1⟩:=q0_
 rw[show jJm N_l_take [.ref b,.int m]=[some (.ref b),some (.int m),none,none] from rfl]
 wp_walk using 1,jY2,jJ2 hb,setR_m hb
 have box:∀x' y' z':Int,0<=x'->0<=y'->y'<2147483648->0<=z'->z'<=n+1->BoxAt (gup G b (.lst [.int x',.int y',.int z'])) b (n+1):=fun x' y' z' h1 h2 h3 h4 h5=>⟨x',y',z',jJg,h1,h2,h3,h4,by omega⟩
 split
 ·refine⟨⟨by omega,by omega⟩,k _ _ (lQa _ (by omega)) (lQb _ (by omega)) (box _ _ _ (Int.ediv_nonneg hx (by omega)) hy0 hy1 hz0 (by omega)) .gup⟩
 ·have a0:=lQa ((y+39373*(z+1))*(48271+(z+1))) (b:=2147483647) (by decide)
  have a1:=lQb ((y+39373*(z+1))*(48271+(z+1))) (b:=2147483647) (by decide)
  refine⟨.inl (by decide),.inr ⟨by omega,by omega⟩,by decide,by decide,?_⟩
  generalize (y+39373*(z+1))*(48271+(z+1))%2147483647=u at a0 a1 ⊢
  have b0:=lQa (u*(u%40009+7)+(z+1)) (b:=2147483629) (by decide)
  have b1:=lQb (u*(u%40009+7)+(z+1)) (b:=2147483629) (by decide)
  refine⟨.inl ⟨by omega,by omega⟩,by decide,by decide,?_⟩
  generalize (u*(u%40009+7)+(z+1))%2147483629=v at b0 b1 ⊢
  refine⟨.inl ⟨by omega,by omega⟩,by decide,⟨by decide,by decide⟩,by omega,?_⟩
  exact k _ _ (lQa _ (by omega)) (lQb _ (by omega)) (box _ _ _ hx b0 (by omega) (by omega) (by omega)) .gup
noncomputable abbrev jUl (ns:List Int):List T:=ns.map T.int
theorem sz:sizeLine=16777216:=PySem.sizeLine_eq
noncomputable def jUh:Sp3:=fun xs G Q=>∃(c:Addr) (ns:List Int) (k:Int),xs=[.ref c,.int k]/\G c=some (.lst (jUl ns))/\ns.length<=63/\0<=k/\k<100/\∀p G',G p=none->BoxAt G' p 0->Sub G G'->Q (.ref p) G'
noncomputable def N_l_box:List Str:=["_law_script","_law_k","_law_cell"]
noncomputable def kJu:TS3:=
 (tSeq (tAsg (tOp rIxF (tOp jKk (tVar 0) (tOp jXt (tLst (jJa (tC (.int 0)) tNil)) (tOp jKk (tVar 1) (tC (.int 1))))) (tVar 1)) (jJj 2))
 (tRet (tLst (jJa (tOp jXt (tCB rAbs (jJa (tVar 2) tNil)) (tCB jZb (jJa (tOp rGe (tCB rAbs (jJa (tVar 2) tNil)) (tOp rPow (tC (.int 10)) (tC (.int 18)))) tNil))) (jJa (tOp rMod (tOp jXt (tOp jKk (tOp jKk (tOp rMod (tVar 2) (tC (.int 2147483647))) (tOp jXt (tC (.int 7919)) (tVar 1))) (tC (.int 11))) (tC (.int 48271))) (tC (.int 2147483629))) (jJa (tC (.int 0)) tNil))))))
theorem rdok_l_box:∀xs G Q,jUh xs G Q->kJu {nx:=fun _ G'=>Q .non G',rt:=Q} (jJm N_l_box xs) G:=by
 intro xs G Q h_;apply xe3 h_;clear h_;intro c ns k h_;apply ae5 h_;clear h_;intro hc hl hk0 hk1 kk
 rw[show jJm N_l_box [.ref c,.int k]=[some (.ref c),some (.int k),none] from rfl]
 have hs:=sz
 wp_walk using 1,kJu
 refine⟨by omega,fun p hp=> ?_⟩
 have e1:mulR (gup G p (GO.lst [T.int 0])) (.ref p) (.int (k+1))=some (.newL (List.replicate (k+1).toNat [T.int 0]).flatten):=by
  simp only[mulR,jJg];rw[if_pos];refine⟨?_,?_,?_⟩<;>simp<;>omega
 wp_walk using 1,e1
 intro q hq
 obtain⟨hqp,hq0⟩:=jQz hq
 have hcp:=jJe hc hp
 have hcq:=jJe hc hq0
 have hc2:gup (gup G p (GO.lst [T.int 0])) q (GO.lst (List.replicate (k+1).toNat [T.int 0]).flatten) c=some (.lst (jUl ns)):=by rw[jJt hcq,jJt hcp];exact hc
 have hfl:(List.replicate (k+1).toNat [T.int 0]).flatten=List.replicate (k+1).toNat (T.int 0):=by
  induction (k+1).toNat with
  | zero=>rfl
  | succ n ih=>rw[lKd,lKv,ih];rfl
 have e2:=jZr (q:=q) hc2 jJg (by rw[hfl];simp;omega)
 wp_walk using 1,e2
 intro r hr
 obtain⟨hrq,hr1⟩:=jQz hr
 obtain⟨hrp,hr0⟩:=jQz hr1
 obtain⟨v,hv⟩:∃v:Int,L2.atI (jUl ns++(List.replicate (k+1).toNat [T.int 0]).flatten) k=some (.int v):=by
  rw[atZ hk0,hfl]
  by_cases h:k.toNat<ns.length
  ·rw[lJy (by simpa using h)]
   exact⟨ns[k.toNat],by simp[h]⟩
  ·rw[lKn (by simpa using h),lQj]
   exact⟨0,by rw[if_pos];simp;omega⟩
 wp_walk using 1,hv
 refine⟨⟨by decide,by decide,by decide⟩,.inr (by split<;>split<;>decide),by decide,.inl (by decide),.inr (by decide),by decide,by omega,fun b hbn=> ?_⟩
 obtain⟨hbr,hb1⟩:=jQz hbn
 obtain⟨hbq,hb2⟩:=jQz hb1
 obtain⟨hbp,hb0⟩:=jQz hb2
 refine kk b _ hb0 ⟨_,_,_,jJg,Int.mul_nonneg (by split<;>omega) (by split<;>split<;>decide),lQa _ (by decide),?_,Int.le_refl _,by simp⟩ ((((Sub.new hp).over hq0).over hr0).over hb0)
 have:=lQb ((v%2147483647+7919*k+11)*48271) (b:=2147483629) (by decide)
 omega
noncomputable def jK0:Sp3:=fun xs G Q=>∃(ns:List Int) (m:Int),xs=[.scr (jUl ns),.int m]/\ns.length<=63/\1<=m/\m<=63/\∀p G' (ms:List Int),G p=none->G' p=some (.lst (jUl ms))->ms.length<=m.toNat->ms.length<=63->Sub G G'->Q (.ref p) G'
noncomputable def kUh:List Str:=["_law_script","_law_many","_law_cells","_law_k","_law_cell"]
noncomputable def jXl:TS3:=
 (tSeq (tAsg (tCB jUd (jJa (tSl rSlF (tVar 0) jJs (jKf (tVar 1))) tNil)) (jJj 2))
 (tSeq (tFor (jZ4 (jJa (tSl rSlF (tVar 0) (jKf (tVar 1)) (jKf (tC (.int 63)))) tNil)) (gTup 2 (jKb (jJj 3) (jKb (jJj 4) gNil))) (tAsg (tOp jKk (tOp rIxF (tVar 2) (tOp rMod (tVar 3) (tVar 1))) (tOp jXt (tVar 4) (tOp jKk (tVar 3) (tC (.int 2))))) (gSub (tVar 2) (tOp rMod (tVar 3) (tVar 1)) jXx)))
 (tRet (tVar 2))))
theorem kU1:∀xs G Q,jK0 xs G Q->jXl {nx:=fun _ G'=>Q .non G',rt:=Q} (jJm kUh xs) G:=by
 intro xs G Q h_;apply xe2 h_;clear h_;intro ns m h_;apply ae4 h_;clear h_;intro hl hm1 hm2 kk
 rw[show jJm kUh [.scr (jUl ns),.int m]=[some (.scr (jUl ns)),some (.int m),none,none,none] from rfl]
 have hs:=sz
 wp_walk using 1,jXl,tSl,rSlF,slR,jJs,jKf,jUd,jVw,jJ5,jZ4
 intro p hp p1 hp1
 obtain⟨hpp,hp10⟩:=jQz hp1
 intro q hq
 obtain⟨hq1,hq2⟩:=jQz hq
 obtain⟨hqp,hq0⟩:=jQz hq2
 obtain⟨cs,hcs,lcs⟩:∃cs:List Int,cutT (jUl ns) none (some m)=jUl cs/\cs.length=min m.toNat ns.length:=by
  refine⟨ns.take (min m.toNat ns.length),?_,by simp⟩
  simp only[cutT,HT.sIx,lJb,List.drop_zero,Nat.sub_zero]
  rw[if_neg (by omega)]
  simp[List.map_take]
 obtain⟨rs,hrs,lrs⟩:∃rs:List Int,cutT (jUl ns) (some m) (some 63)=jUl rs/\(rs.length<=63/\(0<rs.length->m.toNat<=ns.length)):=by
  refine⟨(ns.drop (min m.toNat ns.length)).take (min 63 ns.length-min m.toNat ns.length),?_,?_,?_⟩
  ·simp only[cutT,HT.sIx,lJb]
   simp only[show ¬ m<0 by omega,show ¬ (63:Int)<0 by decide,if_false]
   simp[List.map_take,List.map_drop]
  ·simp;omega
  ·simp;omega
 rw[hcs,hrs]
 refine⟨jUl rs,by simp only[jV8,jJg,asL],?_⟩
 refine⟨fun i τ G'=>∃(v3 v4:Option T) (ms:List Int),τ=[some (.scr (jUl ns)),some (.int m),some (.ref p1),v3,v4]/\G' p1=some (.lst (jUl ms))/\ms.length=cs.length/\G' q=some (.lst (jUl rs))/\Sub G G',?_,?_,?_,?_⟩
 ·refine⟨none,none,cs,rfl,by rw[jJt hq1.symm,jJg],rfl,jJg,(((Sub.new hp).over hp10).over hq0)⟩
 ·intro i τ G' hi h_;apply xe3 h_;clear h_;intro v3 v4 ms h_;apply ae4 h_;clear h_;intro h1 h2 h3 h4
  simp only[jV8,h3,asL]
 ·intro i x τ G' hx h_;apply xe3 h_;clear h_;intro v3 v4 ms h_;apply ae4 h_;clear h_;intro h1 h2 h3 h4
  have hi:i<rs.length:=by have:=(lJa.mp hx).1;simpa[jK8] using this
  have hri:(jUl rs)[i]? =some (.int rs[i]):=by simp[hi]
  rw[jXm hri] at hx
  cases hx
  have hml:=lrs.2 (by omega)
  have hk0:(0:Int)<=(i:Int)%m:=lQa _ (by omega)
  have hk1:(i:Int)%m<m:=lQb _ (by omega)
  have hk:((i:Int)%m).toNat<ms.length:=by omega
  have hat:L2.atI (jUl ms) ((i:Int)%m)=some (.int ms[((i:Int)%m).toNat]):=by rw[atZ hk0];simp[hk]
  have hix:L2.ixN (jUl ms).length ((i:Int)%m)=some ((i:Int)%m).toNat:=ixZ hk0 (by simp;omega)
  wp_walk using 1,jJ2 h1,hat,jYx h1 hix
  refine⟨by omega,.inr ⟨by omega,by omega⟩,by omega,?_⟩
  exact⟨ms.set ((i:Int)%m).toNat (ms[((i:Int)%m).toNat]+rs[i]*((i:Int)+2)),by simp[jUl,List.map_set],by simpa using h2,by rw[jJt hq1];exact h3,h4.over hp10⟩
 ·intro τ G' h_;apply xe3 h_;clear h_;intro v3 v4 ms h_;apply ae4 h_;clear h_;intro h1 h2 h3 h4
  wp_walk using 1,tSeq
  exact kk p1 G' ms hp10 h1 (by omega) (by omega) h4
noncomputable abbrev Web:=List (List (Nat×Nat))
noncomputable def encE (e:Nat×Nat):T:= .tup [.int e.1,.int e.2]
noncomputable def encR (r:List (Nat×Nat)):T:= .tup (r.map encE)
noncomputable def encW (W:Web):T:= .tup (W.map encR)
noncomputable def en (W:Web) (r i:Nat):Option (Nat×Nat):=(W[r]?).bind fun es=>es[i]?
def Sym (W:Web):Prop:=∀r i s j,en W r i=some (s,j)->en W s j=some (r,i)
noncomputable def sw:Nat->Nat
 | 0=>1
 | 1=>0
 | n=>n
theorem sw_sw {n:Nat} (h:n<=2):sw (sw n)=n/\sw n<=2:=by
 have:n=0\/n=1\/n=2:=by omega
 rcases this with rfl | rfl | rfl<;>exact⟨rfl,by decide⟩
def RowsAt (G:Gp) (h:Addr) (Hs:Web) (rs:List Addr):Prop:=G h=some (.lst (rs.map T.ref))/\rs.length=Hs.length/\∀(i:Nat) (r:Addr),rs[i]? =some r->∃hs:List (Nat×Nat),Hs[i]? =some hs/\G r=some (.lst (hs.map encE))
theorem RowsAt.sub {G G':Gp} {h:Addr} {Hs:Web} {rs:List Addr} (s:Sub G G') (x:RowsAt G h Hs rs):RowsAt G' h Hs rs:=⟨s _ _ x.1,x.2.1,fun i r e=>let ⟨hs,h1,h2⟩:=x.2.2 i r e;⟨hs,h1,s _ _ h2⟩⟩
structure JoinOk (Hs:Web):Prop where
 len:Hs.length<=1000
 row:∀(r:Nat) (hs:List (Nat×Nat)),Hs[r]? =some hs->hs.length<=1000
 inj:∀r i r' i' h,en Hs r i=some h->en Hs r' i'=some h->r=r'/\i=i'
 part:∀r i t s,en Hs r i=some (t,s)->s<=2/\∃r' i',en Hs r' i'=some (t,sw s)
noncomputable def keyE (e:Nat×Nat):L2.TKey:=[.inl (.inl (e.1:Int)),.inl (.inl (e.2:Int))]
theorem kVj {a b:Nat×Nat} (h:keyE a=keyE b):a=b:=by
 obtain⟨a1,a2⟩:=a;obtain⟨b1,b2⟩:=b
 simp only[keyE,List.cons.injEq,Sum.inl.injEq,and_true] at h
 obtain⟨h1,h2⟩:=h
 rw[Int.ofNat.inj h1,Int.ofNat.inj h2]
theorem jYk {a b:Int}:jXa [.int a,.int b]=some [.inl (.inl a),.inl (.inl b)]:=rfl
theorem valT_put {κ:Type} [DecidableEq κ] (kvs:List (κ×T)) (k j:κ) (v:T):valT (putT kvs k v) j=if k=j then some v else valT kvs j:=by
 unfold putT valT
 by_cases h:(kvs.any fun kv=>decide (kv.1=k))=true
 ·rw[if_pos h]
  induction kvs with
  | nil=>simp at h
  | cons p ps ih=>
   rw[lJ4,lKe,lKe]
   by_cases hp:p.1=k
   ·rw[if_pos hp]
    by_cases hj:k=j
    ·simp[hp,hj]
    ·have h1:¬ p.1=j:=fun z=>hj (hp.symm.trans z)
     simp only[h1,decide_false,hj,if_false]
     by_cases h2:(ps.any fun kv=>decide (kv.1=k))=true
     ·have:=ih h2;rw[if_neg hj] at this;exact this
     ·have hm:ps.map (fun kv=>if kv.1=k then (kv.1,v) else kv)=ps:=by
       rw[List.map_congr_left (g:=id)];· simp
       intro a ha
       have:¬ a.1=k:=fun z=>h2 (List.any_eq_true.mpr ⟨a,ha,by simp[z]⟩)
       simp[this]
      rw[hm]
   ·rw[if_neg hp]
    have h2:(ps.any fun kv=>decide (kv.1=k))=true:=by
     rw[lKi,decide_eq_false hp,Bool.false_or] at h;exact h
    have:=ih h2
    by_cases hj:p.1=j
    ·have:¬ k=j:=fun z=>hp (hj.trans z.symm)
     simp[hj,this]
    ·simp only[hj,decide_false];exact this
 ·rw[if_neg h,List.find?_append]
  have hn:(kvs.find? fun kv=>decide (kv.1=j))=none\/∃p,(kvs.find? fun kv=>decide (kv.1=j))=some p:=by
   cases kvs.find? fun kv=>decide (kv.1=j) with
   | none=>exact .inl rfl
   | some p=>exact .inr ⟨p,rfl⟩
  by_cases hj:k=j
  ·subst hj
   have:(kvs.find? fun kv=>decide (kv.1=k))=none:=by
    rw[List.find?_eq_none]
    intro a ha z
    exact h (List.any_eq_true.mpr ⟨a,ha,z⟩)
   simp[this]
  ·rcases hn with e | ⟨p,e⟩
   ·simp[e,hj]
   ·simp[e,hj]
theorem putT_len {κ:Type} [DecidableEq κ] (kvs:List (κ×T)) (k:κ) (v:T):(putT kvs k v).length<=kvs.length+1:=by
 unfold putT;split<;>simp
theorem dAt_dct {G:Gp} {p:Addr} {kvs:List (L2.TKey×T)} {ys:List T} {ks:L2.TKey} (h:G p=some (.dct kvs)) (hk:jXa ys=some ks):dAt G (.ref p) (.tup ys)=some (valT kvs ks):=by simp only[dAt,h,hk]
theorem ixR_dct {G:Gp} {p:Addr} {kvs:List (L2.TKey×T)} {ys:List T} {ks:L2.TKey} {t:T} (h:G p=some (.dct kvs)) (hk:jXa ys=some ks) (ht:valT kvs ks=some t):ixR G (.ref p) (.tup ys)=some t:=by
 simp only[ixR,seqT,h,asL,dAt_dct h hk,ht]
theorem setR_dct {G:Gp} {p:Addr} {kvs:List (L2.TKey×T)} {ys:List T} {ks:L2.TKey} {v:T} (h:G p=some (.dct kvs)) (hk:jXa ys=some ks) (hz:kvs.length<sizeLine):setR G (.ref p) (.tup ys) v=some (gup G p (.dct (putT kvs ks v))):=by
 simp only[setR,h,hk,hz,if_true]
theorem jK1 {W:Web} {r i:Nat} {e:Nat×Nat} (h:en W r i=some e):∃es,W[r]? =some es/\es[i]? =some e:=by
 unfold en at h
 cases e1:W[r]? with
 | none=>rw[e1] at h;cases h
 | some es=>rw[e1] at h;exact⟨es,rfl,h⟩
theorem jQq {W:Web} {r i:Nat} {es:List (Nat×Nat)} {e:Nat×Nat} (h1:W[r]? =some es) (h2:es[i]? =some e):en W r i=some e:=by unfold en;rw[h1];exact h2
structure Joined (Hs W:Web):Prop where
 len:W.length=Hs.length
 row:∀(r:Nat) (hs:List (Nat×Nat)),Hs[r]? =some hs->∃es,W[r]? =some es/\es.length=hs.length
 to:∀r i t sd s j,en Hs r i=some (t,sd)->en Hs s j=some (t,sw sd)->en W r i=some (s,j)
theorem Joined.sym {Hs W:Web} (J:Joined Hs W) (ok:JoinOk Hs):Sym W:=by
 intro r i s j h
 obtain⟨es,h1,h2⟩:=jK1 h
 have hr:r<Hs.length:=by rw[<-J.len];exact (lJa.mp h1).1
 obtain⟨es',h3,h4⟩:=J.row r _ (lJc hr)
 rw[h1] at h3;cases h3
 have hi:i<Hs[r].length:=by rw[<-h4];exact (lJa.mp h2).1
 have e1:en Hs r i=some (Hs[r][i]):=jQq (lJc hr) (lJc hi)
 generalize Hs[r][i]=e0 at e1
 obtain⟨t,sd⟩:=e0
 obtain⟨hsd,r',i',e2⟩:=ok.part r i t sd e1
 have e3:=J.to r i t sd r' i' e1 e2
 rw[h] at e3
 cases e3
 refine J.to s j t (sw sd) r i e2 ?_
 rw[(sw_sw hsd).1];exact e1
open Classical in
noncomputable def oth (Hs:Web) (e:Nat×Nat):Nat×Nat:=if h:∃p:Nat×Nat,en Hs p.1 p.2=some (e.1,sw e.2) then h.choose else (0,0)
theorem oth_at {Hs:Web} {e:Nat×Nat} {r i:Nat} (h:en Hs r i=some (e.1,sw e.2)):en Hs (oth Hs e).1 (oth Hs e).2=some (e.1,sw e.2):=by
 unfold oth
 have:∃p:Nat×Nat,en Hs p.1 p.2=some (e.1,sw e.2):=⟨(r,i),h⟩
 rw[dif_pos this];exact this.choose_spec
theorem joined_oth {Hs:Web} (ok:JoinOk Hs):Joined Hs (Hs.map (List.map (oth Hs))) where
 len:=by simp
 row:=fun r hs h=>⟨hs.map (oth Hs),by simp[h],by simp⟩
 to:=fun r i t sd s j h1 h2=>by
  obtain⟨es,q1,q2⟩:=jK1 h1
  have:en (Hs.map (List.map (oth Hs))) r i=some (oth Hs (t,sd)):=jQq (es:=es.map (oth Hs)) (by simp[q1]) (by simp[q2])
  rw[this]
  have h3:=oth_at (e:=(t,sd)) h2
  obtain⟨z1,z2⟩:=ok.inj _ _ _ _ _ h3 h2
  rw[<-z1,<-z2]
noncomputable def jK6:Sp3:=fun xs G Q=>∃(h:Addr) (Hs:Web) (rs:List Addr),xs=[.ref h]/\RowsAt G h Hs rs/\JoinOk Hs/\∀G' W,Sub G G'->Joined Hs W->Q (encW W) G'
noncomputable def kUf:List Str:=["_law_halves","_law_at","_law_room","_law_door","_law_half","_law_web_here","_law_doors","_law_tie","_law_side"]
noncomputable def jXj:TS3:=
 (tSeq (tAsg kJ7 (jJj 1))
 (tSeq (tFor (jKv (jJa (tCB rLen (jJa (tVar 0) tNil)) tNil)) (jJj 2) (tFor (jZ4 (jJa (tOp rIxF (tVar 0) (tVar 2)) tNil)) (gTup 2 (jKb (jJj 3) (jKb (jJj 4) gNil))) (tAsg (tTup (jJa (tVar 2) (jJa (tVar 3) tNil))) (gSub (tVar 1) (tVar 4) jXx))))
 (tSeq (tAsg (tLst tNil) (jJj 5))
 (tSeq (tFor (iSeq (tVar 0)) (jJj 6) (jUk (tBM "list" jKr (tVar 5) (jJa (tCB jKm (jJa (jQ3 [false,false,false,false,false,false,false,true,true] (iSeq (tVar 6)) (gTup 2 (jKb (jJj 7) (jKb (jJj 8) gNil))) jUo (tOp rIxF (tVar 1) (tTup (jJa (tVar 7) (jJa (tOp rIxF (tLst (jJa (tC (.int 1)) (jJa (tC (.int 0)) (jJa (tC (.int 2)) tNil)))) (tVar 8)) tNil))))) tNil)) tNil))))
 (tRet (tCB jKm (jJa (tVar 5) tNil)))))))
def Tab (Hs:Web) (kvs:List (L2.TKey×T)) (done:Nat->Nat->Prop):Prop:=∀r i e,en Hs r i=some e->done r i->valT kvs (keyE e)=some (encE (r,i))
theorem jU8 {n i:Nat} {x:T} (h:(rngT 0 n)[i]? =some x):i<n/\x= .int i:=by
 unfold rngT at h
 rw[lJf] at h
 have hi:i<n:=by
  rcases lJ9 i n with z | z
  ·exact z
  ·rw[lJh (by simpa using z)] at h;cases h
 simp[hi] at h
 exact⟨hi,h.symm⟩
theorem jKq {n:Nat}:(rngT 0 n).length=n:=by simp[rngT]
theorem kUz:∀xs G Q,jK6 xs G Q->jXj {nx:=fun _ G'=>Q .non G',rt:=Q} (jJm kUf xs) G:=by
 intro xs G Q h_;apply xe3 h_;clear h_;intro h Hs rs h_;apply ae3 h_;clear h_;intro q0_ ok kk
 obtain⟨hh,hlen,hrow⟩:=q0_
 rw[show jJm kUf [.ref h]=[some (.ref h),none,none,none,none,none,none,none,none] from rfl]
 have hs:=sz
 have hL:=ok.len
 wp_walk using 1,jXj,kJ7,jJ5,jKv
 refine .inl fun d hd=> ?_
 have hhd:=jJe hh hd
 have hrl:(rs.map T.ref).length=Hs.length:=by simp[hlen]
 refine⟨rs.map T.ref,by simp only[seqT,jJt hhd,hh,asL],by rw[hrl];omega,by rw[hrl];omega,?_⟩
 rw[hrl,show ((Hs.length:Int)).toNat=Hs.length by omega]
 refine⟨fun r τ G'=>∃(v2 v3 v4:Option T) (kvs:List (L2.TKey×T)),τ=[some (.ref h),some (.ref d),v2,v3,v4,none,none,none,none]/\G' d=some (.dct kvs)/\kvs.length<=1000*r/\Tab Hs kvs (fun r' _=>r'<r)/\Sub G G',?_,?_,?_,?_⟩
 ·exact⟨none,none,none,[],rfl,jJg,lJn _,fun r i e _ z=>absurd z (lQc _),.new hd⟩
 ·intros;trivial
 ·intro r x τ G1 hx h_;apply xe4 h_;clear h_;intro v2 v3 v4 kvs h_;apply ae4 h_;clear h_;intro hdk hkl tab sb
  obtain⟨hr,rfl⟩:=jU8 hx
  have hri:r<rs.length:=by omega
  obtain⟨hs',hH,hG⟩:=hrow r rs[r] (lJc hri)
  have hh1:=sb _ _ hh
  have hG1:=sb _ _ hG
  have hat:L2.atI (rs.map T.ref) (r:Int)=some (.ref rs[r]):=by rw[atN];simp[hri]
  have hrow1000:=ok.row r hs' hH
  wp_walk using 1,jJ5,jZ4,jJ2 hh1,hat
  refine⟨hs'.map encE,by simp only[jV8,hG1,asL],?_⟩
  refine⟨fun i τ G'=>∃(v3 v4:Option T) (kvs:List (L2.TKey×T)),τ=[some (.ref h),some (.ref d),some (.int r),v3,v4,none,none,none,none]/\G' d=some (.dct kvs)/\kvs.length<=1000*r+i/\Tab Hs kvs (fun r' i'=>r'<r\/(r'=r/\i'<i))/\Sub G G',?_,?_,?_,?_⟩
  ·exact⟨v3,v4,kvs,rfl,hdk,hkl,fun r' i' e he hd'=>tab r' i' e he (by rcases hd' with z | ⟨_,z⟩;exact z;exact absurd z (lQc _)),sb⟩
  ·intro i τ G' hi h_;apply xe3 h_;clear h_;intro v3 v4 kvs h_;apply ae4 h_;clear h_;intro h1 h2 h3 h4
   simp only[jV8,h4 _ _ hG,asL]
  ·intro i x τ G2 hx h_;apply xe3 h_;clear h_;intro v3 v4 kvs h_;apply ae4 h_;clear h_;intro h1 h2 h3 h4
   have hi:i<hs'.length:=by have:=(lJa.mp hx).1;simpa[jK8] using this
   have hri2:(hs'.map encE)[i]? =some (encE hs'[i]):=by simp[hi]
   rw[jXm hri2] at hx
   cases hx
   have hz:kvs.length<sizeLine:=by omega
   wp_walk using 1,encE,setR_dct h1 jYk hz
   refine⟨by omega,?_⟩
   refine⟨putT kvs (keyE hs'[i]) (encE (r,i)),rfl,by have:=putT_len kvs (keyE hs'[i]) (encE (r,i));omega,fun r' i' e he hd'=> ?_,h4.over hd⟩
   show valT (putT kvs (keyE hs'[i]) _) (keyE e)=_
   rw[valT_put]
   have eri:en Hs r i=some hs'[i]:=jQq hH (lJc hi)
   by_cases hk:keyE hs'[i]=keyE e
   ·rw[if_pos hk]
    have:=kVj hk
    subst this
    obtain⟨z1,z2⟩:=ok.inj _ _ _ _ _ eri he
    subst z1;subst z2;rfl
   ·rw[if_neg hk]
    refine h3 r' i' e he ?_
    rcases hd' with z | ⟨z1,z2⟩
    ·exact .inl z
    ·subst z1
     by_cases hii:i'=i
     ·subst hii;rw[eri] at he;cases he;exact absurd rfl hk
     ·exact .inr ⟨rfl,by omega⟩
  ·intro τ G' h_;apply xe3 h_;clear h_;intro v3 v4 kvs h_;apply ae4 h_;clear h_;intro h1 h2 h3 h4
   refine⟨some (.int r),v3,v4,rfl,kvs,h1,?_,fun r' i' e he hd'=>h3 r' i' e he ?_,h4⟩
   ·simp only[jK8,lJb] at h2;omega
   ·rcases lJ9 r' r with z | z
    ·exact .inl z
    ·have:r'=r:=by omega
     subst this
     obtain⟨es,q1,q2⟩:=jK1 he
     rw[hH] at q1;cases q1
     exact .inr ⟨rfl,by simpa[jK8] using (lJa.mp q2).1⟩
 ·intro τ G1 h_;apply xe4 h_;clear h_;intro v2 v3 v4 kvs h_;apply ae4 h_;clear h_;intro hdk hkl tab sb
  rw[jKq] at tab
  wp_walk using 1,jJ5,iSeq
  refine⟨lJn _,fun w hw=> ?_⟩
  have hdw:=jJe hdk hw
  have hhw:=jJe (sb _ _ hh) hw
  refine⟨rs.map T.ref,by simp only[seqT,jJt hhw,sb _ _ hh,asL],?_⟩
  refine⟨fun i τ G'=>∃(v6:Option T),τ=[some (.ref h),some (.ref d),v2,v3,v4,some (.ref w),v6,none,none]/\G' w=some (.lst ((Hs.take i).map fun hs=>encR (hs.map (oth Hs))))/\Sub G1 G',?_,?_,?_,?_⟩
  ·exact⟨none,rfl,by simp[jJg],.new hw⟩
  ·intro i τ G' hi h_;apply xe1 h_;clear h_;intro v6 h_;apply ae2 h_;clear h_;intro h1 h2
   simp only[seqT,h2 _ _ (sb _ _ hh),asL]
  ·intro i x τ G2 hx0 h_;apply xe1 h_;clear h_;intro v6 h_;apply ae2 h_;clear h_;intro h1 h2
   obtain⟨ra,hx,rfl⟩:=jUa hx0
   obtain⟨hs',hH,hG⟩:=hrow i ra hx
   have hG2:=h2 _ _ (sb _ _ hG)
   have hrow1000:=ok.row i hs' hH
   wp_walk using 1,iSeq,jQg h1
   refine⟨hs'.map encE,jJp hG2,?_⟩
   refine jQh (fun e=>encE (oth Hs e)) (by omega) (fun G' s=>jJp (s _ _ hG2)) ?_ ?_
   ·intro j e he G' K K0 s hk
    obtain⟨t,sd⟩:=e
    have hen:=jQq hH he
    obtain⟨hsd,r',i',e2⟩:=ok.part _ _ _ _ hen
    have hv:=oth_at (e:=(t,sd)) e2
    have hr':(oth Hs (t,sd)).1<List.length Hs:=by obtain⟨es,q1,q2⟩:=jK1 hv;exact (lJa.mp q1).1
    have ht:=tab _ _ _ hv hr'
    have hd3:=s _ _ (h2 _ _ hdk)
    wp_walk using 1,encE
    refine⟨by omega,fun p hp=> ?_⟩
    have hdp:=jJe hd3 hp
    have hsw:L2.atI [T.int 1,T.int 0,T.int 2] (sd:Int)=some (.int (sw sd:Int)):=by
     have:sd=0\/sd=1\/sd=2:=by omega
     rcases this with rfl | rfl | rfl<;>rw[atN]<;>rfl
    refine⟨_,hsw,by omega,_,ixR_dct (ks:=[.inl (.inl (t:Int)),.inl (.inl (sw sd:Int))]) (by rw[jJt hdp];exact hd3) jYk ht,hk _ (.new hp)⟩
   ·intro D G3 hD h3 h4
    wp_walk using 1,jJp h3,h4 _ _ h1
    refine⟨by simp;omega,?_,((h2.trans h4).over hw)⟩
    rw[lKj,hH];simp[encR]
  ·intro τ G' h_;apply xe1 h_;clear h_;intro v6 h_;apply ae2 h_;clear h_;intro h1 h2
   wp_walk using 1,jJp h1
   have e1:(Hs.take (rs.map T.ref).length).map (fun hs=>encR (hs.map (oth Hs)))=(Hs.map (List.map (oth Hs))).map encR:=by
    rw[hrl,lKy,lJw];rfl
   rw[e1]
   exact kk G' _ (sb.trans h2) (joined_oth ok)
theorem BoxAt.mono {G:Gp} {b:Addr} {n m:Nat} (h:BoxAt G b n) (hm:n<=m):BoxAt G b m:=by
 obtain⟨x,y,z,h1,h2,h3,h4,h5,h6⟩:=h
 exact⟨x,y,z,h1,h2,h3,h4,h5,by omega⟩
theorem BoxAt.some {G:Gp} {b:Addr} {n:Nat} (h:BoxAt G b n):∃o,G b=some o:=by
 obtain⟨x,y,z,h1,_⟩:=h
 exact⟨_,h1⟩
theorem BoxAt.sub {G G':Gp} {b:Addr} {n:Nat} (h:BoxAt G b n) (s:Sub G G'):BoxAt G' b n:=by
 obtain⟨x,y,z,h1,h2,h3,h4,h5,h6⟩:=h
 exact⟨x,y,z,s _ _ h1,h2,h3,h4,h5,h6⟩
theorem BoxAt.gup {G:Gp} {b p:Addr} {n:Nat} {o:GO} (h:BoxAt G b n) (hp:b≠p):BoxAt (gup G p o) b n:=by
 obtain⟨x,y,z,h1,h2,h3,h4,h5,h6⟩:=h
 exact⟨x,y,z,by rw[jJt hp];exact h1,h2,h3,h4,h5,h6⟩
theorem Keep.sub {b:Addr} {G G':Gp} (h:Sub G G'):Keep b G G':=fun c o _ e=>h c o e
theorem Keep.over {b p:Addr} {G G':Gp} {o:GO} (h:Keep b G G') (hp:G p=none):Keep b G (L3.gup G' p o):=fun c u hc e=>by rw[jJt];exact h c u hc e;rintro rfl;rw[hp] at e;cases e
theorem RowsAt.keep {b:Addr} {G G':Gp} {h:Addr} {Hs:Web} {rs:List Addr} (s:Keep b G G') (hb:b∉h::rs) (x:RowsAt G h Hs rs):RowsAt G' h Hs rs:=by
 simp only[lJk,not_or] at hb
 exact⟨s _ _ (Ne.symm hb.1) x.1,x.2.1,fun i r e=>let ⟨hs,h1,h2⟩:=x.2.2 i r e;⟨hs,h1,s _ _ (by rintro rfl;exact hb.2 (lJg e)) h2⟩⟩
theorem RowsAt.set {G:Gp} {h:Addr} {Hs:Web} {rs:List Addr} {r:Nat} {a:Addr} {hs':List (Nat×Nat)} (x:RowsAt G h Hs rs) (hn:(h::rs).Nodup) (hr:rs[r]? =some a):RowsAt (gup G a (.lst (hs'.map encE))) h (Hs.set r hs') rs:=by
 rw[lKc] at hn
 have hrl:r<rs.length:=(lJa.mp hr).1
 refine⟨by rw[jJt];exact x.1;rintro rfl;exact hn.1 (lJg hr),by rw[lKo];exact x.2.1,fun i c e=> ?_⟩
 by_cases hi:i=r
 ·subst hi
  rw[hr] at e;cases e
  exact⟨hs',by rw[lJ1];rw[<-x.2.1];exact hrl,jJg⟩
 ·obtain⟨hs,h1,h2⟩:=x.2.2 i c e
  refine⟨hs,by rw[lJx (Ne.symm hi)];exact h1,?_⟩
  rw[jJt];exact h2
  rintro rfl
  have hil:i<rs.length:=(lJa.mp e).1
  exact hi ((lK2 hil hn.2).mp (e.trans hr.symm))
noncomputable def hv (n t:Nat) (p:Nat×Nat):List (Nat×Nat×Nat):=if p.2=n then [(p.1,t,2)] else [(p.1,t,0),(p.2,t,1)]
noncomputable def hvs (P:List (Nat×Nat)) (n k:Nat):List (Nat×Nat×Nat):=(List.range k).flatMap fun t=>match P[t]? with
 | some p=>hv n t p
 | none=>[]
theorem jXn {P:List (Nat×Nat)} {n k:Nat} {p:Nat×Nat} (h:P[k]? =some p):hvs P n (k+1)=hvs P n k++hv n k p:=by
 unfold hvs
 rw[lKr,lQi]
 simp[h]
theorem kQ7 {n t:Nat} {p:Nat×Nat} {r t' s:Nat} (h:(r,t',s)∈hv n t p):t'=t/\s<=2/\((p.2=n/\s=2/\r=p.1)\/(p.2≠n/\s=0/\r=p.1)\/(p.2≠n/\s=1/\r=p.2)):=by
 unfold hv at h
 split at h
 ·rename_i hp;simp at h;obtain⟨rfl,rfl,rfl⟩:=h;exact⟨rfl,by omega,.inl ⟨hp,rfl,rfl⟩⟩
 ·rename_i hp;simp at h
  rcases h with ⟨rfl,rfl,rfl⟩ | ⟨rfl,rfl,rfl⟩
  ·exact⟨rfl,by omega,.inr (.inl ⟨hp,rfl,rfl⟩)⟩
  ·exact⟨rfl,by omega,.inr (.inr ⟨hp,rfl,rfl⟩)⟩
theorem kKn {P:List (Nat×Nat)} {n k:Nat} {r t s:Nat} (h:(r,t,s)∈hvs P n k):∃p,P[t]? =some p/\t<k/\(r,t,s)∈hv n t p:=by
 unfold hvs at h
 rw[List.mem_flatMap] at h
 obtain⟨t',h1,h2⟩:=h
 cases e:P[t']? with
 | none=>rw[e] at h2;cases h2
 | some p=>
  rw[e] at h2
  have h2:(r,t,s)∈hv n t' p:=h2
  have ht:=(kQ7 h2).1
  subst ht
  exact⟨p,e,lJt.mp h1,h2⟩
theorem hvs_of {P:List (Nat×Nat)} {n k:Nat} {r t s:Nat} {p:Nat×Nat} (h:P[t]? =some p) (hk:t<k) (hm:(r,t,s)∈hv n t p):(r,t,s)∈hvs P n k:=by
 unfold hvs
 rw[List.mem_flatMap]
 exact⟨t,lJt.mpr hk,by rw[h];exact hm⟩
theorem kKm {P:List (Nat×Nat)} {n:Nat}:∀k,((hvs P n k).map fun x=>x.2).Nodup
 | 0=>by simp[hvs]
 | k+1=>by
  cases e:P[k]? with
  | none=>
   have:hvs P n (k+1)=hvs P n k:=by unfold hvs;rw[lKr,lQi];simp[e]
   rw[this];exact kKm k
  | some p=>
   rw[jXn e,lKk,lK1]
   refine⟨kKm k,by unfold hv;split<;>simp,?_⟩
   intro a ha b hb
   obtain⟨⟨r,t,s⟩,h1,rfl⟩:=lJ6.mp ha
   obtain⟨⟨r',t',s'⟩,h2,rfl⟩:=lJ6.mp hb
   obtain⟨_,_,h3,_⟩:=kKn h1
   have h4:=(kQ7 h2).1
   intro z
   have:t=t':=congrArg Prod.fst z
   omega
theorem kVm {P:List (Nat×Nat)} {n:Nat}:∀k,(hvs P n k).length<=2*k
 | 0=>by simp[hvs]
 | k+1=>by
  have ih:=kVm (P:=P) (n:=n) k
  cases e:P[k]? with
  | none=>
   have:hvs P n (k+1)=hvs P n k:=by unfold hvs;rw[lKr,lQi];simp[e]
   rw[this];omega
  | some p=>
   rw[jXn e,lJl]
   have:(hv n k p).length<=2:=by unfold hv;split<;>simp
   omega
structure HalfL (L:List (Nat×Nat×Nat)) (n:Nat) (Hs:Web):Prop where
 len:Hs.length=n
 perm:∀(r:Nat) (hs:List (Nat×Nat)),Hs[r]? =some hs->hs.Perm ((L.filter fun x=>x.1 == r).map fun x=>x.2)
theorem ins_perm {α:Type} {xs:List α} {k:Nat} {y:α}:(xs.take k++y::xs.drop k).Perm (xs++[y]):=by
 have h1:(xs.take k++y::xs.drop k).Perm (y::(xs.take k++xs.drop k)):=List.perm_middle
 rw[List.take_append_drop] at h1
 exact h1.trans (List.perm_append_comm (l₁:=[y]) (l₂:=xs))
theorem HalfL.ins {L:List (Nat×Nat×Nat)} {n:Nat} {Hs:Web} {r k:Nat} {hs:List (Nat×Nat)} {e:Nat×Nat} (h:HalfL L n Hs) (hr:Hs[r]? =some hs):HalfL (L++[(r,e)]) n (Hs.set r (hs.take k++e::hs.drop k)) where
 len:=by rw[lKo];exact h.len
 perm:=fun r' hs' h'=>by
  have hrl:r<Hs.length:=(lJa.mp hr).1
  rw[List.filter_append,lKk]
  by_cases hi:r'=r
  ·subst hi
   rw[lJ1 hrl] at h'
   cases h'
   have:=h.perm r' hs hr
   refine ins_perm.trans ?_
   simp
   exact this.append_right [e]
  ·rw[lJx (Ne.symm hi)] at h'
   have:=h.perm r' hs' h'
   have hne:¬ r=r':=fun z=>hi z.symm
   simp[hne]
   exact this
theorem HalfL.mem {L:List (Nat×Nat×Nat)} {n:Nat} {Hs:Web} {r i:Nat} {e:Nat×Nat} (h:HalfL L n Hs) (he:en Hs r i=some e):(r,e)∈L:=by
 obtain⟨es,h1,h2⟩:=jK1 he
 have:=(h.perm r es h1).mem_iff.mp (lJg h2)
 obtain⟨⟨r',e'⟩,h3,rfl⟩:=lJ6.mp this
 obtain⟨h4,h5⟩:=lKu.mp h3
 have:r'=r:=by simpa using h5
 subst this;exact h4
theorem HalfL.of {L:List (Nat×Nat×Nat)} {n:Nat} {Hs:Web} {r:Nat} {e:Nat×Nat} (h:HalfL L n Hs) (hr:r<n) (he:(r,e)∈L):∃i,en Hs r i=some e:=by
 have hrl:r<Hs.length:=by rw[h.len];exact hr
 have h1:Hs[r]? =some Hs[r]:=lJc hrl
 have:e∈Hs[r]:=(h.perm r _ h1).mem_iff.mpr (lJ6.mpr ⟨(r,e),lKu.mpr ⟨he,by simp⟩,rfl⟩)
 obtain⟨i,hi⟩:=lJs this
 exact⟨i,jQq h1 hi⟩
def kXc (P:List (Nat×Nat)) (n:Nat):Prop:=∀p,p∈P->p.1<n/\p.2<=n
theorem HalfL.ok {P:List (Nat×Nat)} {n:Nat} {Hs:Web} (h:HalfL (hvs P n P.length) n Hs) (hp:kXc P n) (hn:n<=1000) (hl:P.length<=500):JoinOk Hs where
 len:=by rw[h.len];exact hn
 row:=fun r hs hr=>by
  rw[(h.perm r hs hr).length_eq,lJb]
  have h1:=List.length_filter_le (fun x:Nat×Nat×Nat=>x.1 == r) (hvs P n P.length)
  have h2:=kVm (P:=P) (n:=n) P.length
  omega
 inj:=fun r i r' i' e h1 h2=>by
  obtain⟨t,s⟩:=e
  obtain⟨p,q1,q2,q3⟩:=kKn (h.mem h1)
  obtain⟨p',q1',q2',q3'⟩:=kKn (h.mem h2)
  rw[q1] at q1';cases q1'
  have m1:=(kQ7 q3).2.2
  have m2:=(kQ7 q3').2.2
  have hrr:r=r':=by
   rcases m1 with ⟨a,b,c⟩ | ⟨a,b,c⟩ | ⟨a,b,c⟩<;>rcases m2 with ⟨a',b',c'⟩ | ⟨a',b',c'⟩ | ⟨a',b',c'⟩<;>omega
  subst hrr
  refine⟨rfl,?_⟩
  obtain⟨es,z1,z2⟩:=jK1 h1
  obtain⟨es',z3,z4⟩:=jK1 h2
  rw[z1] at z3;cases z3
  have nd:es.Nodup:=by
   rw[(h.perm r es z1).nodup_iff]
   exact (List.filter_sublist.map _).nodup (kKm _)
  exact (lK2 (lJa.mp z2).1 nd).mp (z2.trans z4.symm)
 part:=fun r i t s h1=>by
  obtain⟨p,q1,q2,q3⟩:=kKn (h.mem h1)
  obtain⟨_,h2,m⟩:=kQ7 q3
  refine⟨h2,?_⟩
  have hpp:=hp p (lJg q1)
  rcases m with ⟨a,rfl,c⟩ | ⟨a,rfl,c⟩ | ⟨a,rfl,c⟩
  ·exact⟨r,i,h1⟩
  ·obtain⟨i',h3⟩:=h.of (r:=p.2) (e:=(t,1)) (by omega) (hvs_of q1 q2 (by unfold hv;rw[if_neg a];simp))
   exact⟨p.2,i',h3⟩
  ·obtain⟨i',h3⟩:=h.of (r:=p.1) (e:=(t,0)) (by omega) (hvs_of q1 q2 (by unfold hv;rw[if_neg a];simp))
   exact⟨p.1,i',h3⟩
structure Made (P:List (Nat×Nat)) (n:Nat) (W:Web):Prop where
 len:W.length=n
 sym:Sym W
 deg:∀(r:Nat) (es:List (Nat×Nat)),W[r]? =some es->es.length=((hvs P n P.length).filter fun x=>x.1 == r).length
 tie:∀p,p∈P->p.2<n->∃i j,en W p.1 i=some (p.2,j)
theorem made_of {P:List (Nat×Nat)} {n:Nat} {Hs W:Web} (h:HalfL (hvs P n P.length) n Hs) (hp:kXc P n) (ok:JoinOk Hs) (J:Joined Hs W):Made P n W where
 len:=by rw[J.len,h.len]
 sym:=J.sym ok
 deg:=fun r es hr=>by
  have hrl:r<Hs.length:=by rw[<-J.len];exact (lJa.mp hr).1
  obtain⟨es',h1,h2⟩:=J.row r _ (lJc hrl)
  rw[hr] at h1;cases h1
  rw[h2,(h.perm r _ (lJc hrl)).length_eq,lJb]
 tie:=fun p hpm hpn=>by
  obtain⟨t,ht⟩:=lJs hpm
  have htl:t<P.length:=(lJa.mp ht).1
  have hne:¬ p.2=n:=by omega
  obtain⟨i,h1⟩:=h.of (r:=p.1) (e:=(t,0)) (hp p hpm).1 (hvs_of ht htl (by unfold hv;rw[if_neg hne];simp))
  obtain⟨j,h2⟩:=h.of (r:=p.2) (e:=(t,1)) hpn (hvs_of ht htl (by unfold hv;rw[if_neg hne];simp))
  exact⟨i,j,J.to _ _ _ _ _ _ h1 h2⟩
theorem Keep.none {b p:Addr} {G G':Gp} (h:Keep b G G') (hb:p≠b) (hp:G' p=none):G p=none:=by
 cases e:G p with
 | none=>rfl
 | some o=>rw[h p o hb e] at hp;cases hp
theorem insT_map {xs:List (Nat×Nat)} {k:Nat} {y:Nat×Nat}:insT (xs.map encE) k (encE y)=(xs.take k++y::xs.drop k).map encE:=by simp[insT,List.map_take,List.map_drop]
theorem HalfL.len_le {L:List (Nat×Nat×Nat)} {n:Nat} {Hs:Web} {r:Nat} {hs:List (Nat×Nat)} (h:HalfL L n Hs) (hr:Hs[r]? =some hs):hs.length<=L.length:=by
 rw[(h.perm r hs hr).length_eq,lJb];exact List.length_filter_le _ _
theorem kKu {E:Ends3} {G G2:Gp} {b D p:Addr} {rs:List Addr} {n k m':Nat} {S:List (Nat×Nat)} {L:List (Nat×Nat×Nat)} {Hs:Web} {w1 w2 w5 w6 w8 w9:Option T}
  (h1:HalfL L n Hs) (h2:RowsAt G2 D Hs rs) (h3:BoxAt G2 b m') (h4:Keep b G G2) (hnd:(D::rs).Nodup) (hbn:b∉D::rs) (hfr:∀r,r∈D::rs->G r=none) (hp:G2 p=some (.lst (S.map encE))) (hpn:p∉D::rs) (hpb:p≠b) (hS:∀x,x∈S->x.1<n) (hm:m'+S.length<2^40) (hL:L.length+S.length<10000)
  (kk:∀G' Hs' v8 v9,HalfL (L++S.map fun x=>(x.1,k,x.2)) n Hs'->RowsAt G' D Hs' rs->BoxAt G' b (m'+S.length)->Keep b G G'->E.nx [some (.ref b),w1,w2,some (.ref D),some (.int k),w5,w6,some (.ref p),v8,v9] G'):
  ForAt (gTup 2 (jKb (jJj 8) (jKb (jJj 9) gNil))) (jUk (tBM "list" kKc (tOp rIxF (tVar 3) (tVar 8)) (jJa (jJo jJh (jJa (tVar 0) (jJa (tOp jKk (tCB rLen (jJa (tOp rIxF (tVar 3) (tVar 8)) tNil)) (tC (T.int 1))) tNil))) (jJa (tTup (jJa (tVar 4) (jJa (tVar 9) tNil))) tNil)))) E
   [some (.ref b),w1,w2,some (.ref D),some (.int k),w5,w6,some (.ref p),w8,w9] (S.map encE) (fun G'=>seqT G' (.ref p)=some (S.map encE)) G2:=by
 have hs:=sz
 refine⟨fun j τ G'=>∃(v8 v9:Option T) (Hs:Web),τ=[some (.ref b),w1,w2,some (.ref D),some (.int k),w5,w6,some (.ref p),v8,v9]/\HalfL (L++(S.take j).map fun x=>(x.1,k,x.2)) n Hs/\RowsAt G' D Hs rs/\BoxAt G' b (m'+j)/\Keep b G G'/\G' p=some (.lst (S.map encE)),?_,?_,?_,?_⟩
 ·exact⟨w8,w9,Hs,rfl,by simpa using h1,h2,h3,h4,hp⟩
 ·intro j τ G' hj h_;apply xe3 h_;clear h_;intro v8 v9 Hs h_;apply ae5 h_;clear h_;intro i1 i2 i3 i4 i5
  exact jJp i5
 ·intro j x τ G' hx0 h_;apply xe3 h_;clear h_;intro v8 v9 Hs h_;apply ae5 h_;clear h_;intro i1 i2 i3 i4 i5
  obtain⟨⟨r,s⟩,hx,rfl⟩:=jUa hx0
  have hj:j<S.length:=(lJa.mp hx).1
  have hr:r<n:=hS _ (lJg hx)
  have hrl:r<rs.length:=by rw[i2.2.1,i1.len];exact hr
  have hra:rs[r]? =some rs[r]:=lJc hrl
  generalize rs[r]=a at hra
  obtain⟨hs',hh1,hh2⟩:=i2.2.2 r a hra
  have hat:L2.atI (rs.map T.ref) (r:Int)=some (.ref a):=by rw[atN];simp[hra]
  have hle:=i1.len_le hh1
  have hlt:(L++(S.take j).map fun x=>(x.1,k,x.2)).length<10000:=by simp;omega
  wp_walk using 1,encE,jJ2 i2.1,hat,jQg hh2,jJp hh2,lJb
  refine⟨b,_,m'+j,rfl,i3,by omega,by omega,by omega,fun c G3 c0 c1 bx kp=> ?_⟩
  have ham:a∈D::rs:=lKa _ (lJg hra)
  have hab:a≠b:=by rintro rfl;exact hbn ham
  have hap:a≠p:=by rintro rfl;exact hpn ham
  have i2':=i2.keep kp hbn
  refine⟨by omega,hs'.map encE,c,rfl,kp _ _ hab hh2,c0,by simp;omega,by simp;omega,?_⟩
  rw[show T.tup [T.int (k:Int),T.int (s:Int)]=encE (k,s) from rfl,insT_map]
  refine⟨Hs.set r (hs'.take c.toNat++(k,s)::hs'.drop c.toNat),?_,i2'.set hnd hra,?_,(i4.trans kp).over (hfr a ham),?_⟩
  ·have:=i1.ins (k:=c.toNat) (e:=(k,s)) hh1
   rw[lKj,hx,lKk,<-List.append_assoc]
   exact this
  ·exact bx.gup hab.symm
  ·rw[jJt hap.symm];exact kp _ _ hpb i5
 ·intro τ G' h_;apply xe3 h_;clear h_;intro v8 v9 Hs h_;apply ae5 h_;clear h_;intro i1 i2 i3 i4 i5
  rw[lJb] at i1 i3
  rw[lKy] at i1
  exact kk G' Hs v8 v9 i1 i2 i3 i4
theorem kJw {xs:List T}:(numT xs).length=xs.length:=by simp[numT]
noncomputable def jKh:Sp3:=fun xs G Q=>∃(b pr:Addr) (P:List (Nat×Nat)) (n m:Nat),xs=[.ref b,.ref pr,.int n]/\BoxAt G b m/\m+2*P.length<2^40/\pr≠b/\G pr=some (.lst (P.map encE))/\kXc P n/\n<=1000/\P.length<=500/\∀W G',Made P n W->BoxAt G' b (m+2*P.length)->Keep b G G'->Q (encW W) G'
noncomputable def jZt:List Str:=["_law_box_here","_law_pairs","_law_many","_law_halves","_law_tie","_law_one","_law_other","_law_sides","_law_room","_law_side"]
noncomputable def jUz:TS3:=
 (tSeq (tAsg (jQ3 [false,false,false,false,false,false,false,false,true,false] (jKv (jJa (tVar 2) tNil)) (jJj 8) jUo (tLst tNil)) (jJj 3))
 (tSeq (tFor (jZ4 (jJa (tVar 1) tNil)) (gTup 2 (jKb (jJj 4) (jKb (gTup 2 (jKb (jJj 5) (jKb (jJj 6) gNil))) gNil))) (tSeq (tAsg (tIf (jKe (tOp rEqA (tVar 6) (tVar 2))) (tLst (jJa (tTup (jJa (tVar 5) (jJa (tC (.int 2)) tNil))) tNil)) (tLst (jJa (tTup (jJa (tVar 5) (jJa (tC (.int 0)) tNil))) (jJa (tTup (jJa (tVar 6) (jJa (tC (.int 1)) tNil))) tNil)))) (jJj 7))
 (tFor (iSeq (tVar 7)) (gTup 2 (jKb (jJj 8) (jKb (jJj 9) gNil))) (jUk (tBM "list" kKc (tOp rIxF (tVar 3) (tVar 8)) (jJa (jJo jJh (jJa (tVar 0) (jJa (tOp jKk (tCB rLen (jJa (tOp rIxF (tVar 3) (tVar 8)) tNil)) (tC (.int 1))) tNil))) (jJa (tTup (jJa (tVar 4) (jJa (tVar 9) tNil))) tNil)))))))
 (tRet (jJo jK6 (jJa (tVar 3) tNil)))))
theorem jXf {n:Nat}:rngT 0 n=(List.range n).map fun (k:Nat)=>T.int k:=by simp[rngT]
theorem kJg:∀xs G Q,jKh xs G Q->jUz {nx:=fun _ G'=>Q .non G',rt:=Q} (jJm jZt xs) G:=by
 intro xs G Q h_;apply xe5 h_;clear h_;intro b pr P n m h_;apply ae8 h_;clear h_;intro hb hm hpb hpr hP hn hPl kk
 rw[show jJm jZt [.ref b,.ref pr,.int n]=[some (.ref b),some (.ref pr),some (.int n),none,none,none,none,none,none,none] from rfl]
 have hs:=sz
 wp_walk using 1,jUz,jJ5,jKv,jZ4
 refine⟨by omega,by omega,?_⟩
 rw[show ((n:Int)).toNat=n by omega,jXf]
 refine jZ8 (fun _=>[]) (by simp;omega) (fun _ _=>trivial) ?_ ?_
 ·intro i e he G' K K0 s hk
  wp_walk using 1,tSeq
  exact⟨lJn _,fun p hp=>hk p _ hp jJg (.new hp)⟩
 ·intro D rs G1 hD hD1 s1 hrl hnd hrs
  rw[lKl] at hrl
  obtain⟨bo,hbo⟩:=hb.some
  have hbn:b∉D::rs:=by
   intro z
   rw[lJk] at z
   rcases z with rfl | z
   ·rw[hD] at hbo;cases hbo
   ·obtain⟨j,hj⟩:=lJs z
    have hjl:j<rs.length:=(lJa.mp hj).1
    have:=(hrs j b j hj (by rw[lKs (by omega)])).1
    rw[this] at hbo;cases hbo
  have hfr:∀r,r∈D::rs->G r=none:=by
   intro r z
   rw[lJk] at z
   rcases z with rfl | z
   ·exact hD
   ·obtain⟨j,hj⟩:=lJs z
    have hjl:j<rs.length:=(lJa.mp hj).1
    exact (hrs j r j hj (by rw[lKs (by omega)])).1
  refine⟨P.map encE,by simp only[jV8,s1 _ _ hpr,asL],?_⟩
  refine⟨fun k τ G'=>∃(v4 v5 v6 v7 v8 v9:Option T) (Hs:Web),τ=[some (.ref b),some (.ref pr),some (.int n),some (.ref D),v4,v5,v6,v7,v8,v9]/\HalfL (hvs P n k) n Hs/\RowsAt G' D Hs rs/\BoxAt G' b (m+2*k)/\Keep b G G',?_,?_,?_,?_⟩
  ·refine⟨none,none,none,none,none,none,List.replicate n [],rfl,⟨by simp,?_⟩,⟨hD1,by simp[hrl],?_⟩,hb.sub s1,.sub s1⟩
   ·intro r hs' h
    have:hs'=[]:=by rw[lQj] at h;split at h;cases h;rfl;cases h
    subst this;simp[hvs]
   ·intro i r h
    have hi:i<n:=by rw[<-hrl];exact (lJa.mp h).1
    exact⟨[],by simp[hi],(hrs i r i h (by simp[hi])).2⟩
  ·intro k τ G' hk h_;apply xe7 h_;clear h_;intro v4 v5 v6 v7 v8 v9 Hs h_;apply ae4 h_;clear h_;intro h1 h2 h3 h4
   simp only[jV8,h4 _ _ hpb hpr,asL]
  ·intro k x τ G2 hx h_;apply xe7 h_;clear h_;intro v4 v5 v6 v7 v8 v9 Hs h_;apply ae4 h_;clear h_;intro h1 h2 h3 h4
   have hk:k<P.length:=by have:=(lJa.mp hx).1;simpa[kJw] using this
   rw[jXm (x:=encE P[k]) (by simp[hk])] at hx
   cases hx
   generalize hpk:P[k]=p
   have hpe:P[k]? =some p:=by rw[lJc hk,hpk]
   obtain⟨a,c⟩:=p
   obtain⟨ha,hc⟩:=hP _ (lJg hpe)
   have ha:a<n:=ha
   have hc:c<=n:=hc
   wp_walk using 1,encE,rEqA,iSeq,jJ5
   rw[show eqG G2 (T.int (c:Int)) (T.int (n:Int))=some (decide ((c:Int)=n)) from rfl]
   have hL:=kVm (P:=P) (n:=n) k
   refine⟨_,rfl,?_⟩
   have fresh:∀p,G2 p=none->p∉D::rs/\p≠b:=by
    intro p hp
    refine⟨fun z=> ?_,?_⟩
    ·rw[lJk] at z
     rcases z with rfl | z
     ·rw[h2.1] at hp;cases hp
     ·obtain⟨j,hj⟩:=lJs z
      obtain⟨_,_,q⟩:=h2.2.2 j p hj
      rw[q] at hp;cases hp
    ·rintro rfl
     obtain⟨o,ho⟩:=h3.some
     rw[ho] at hp;cases hp
   by_cases hcn:c=n
   ·rw[if_pos (by simp[hcn])]
    refine⟨by omega,by omega,fun p hp=> ?_⟩
    obtain⟨f1,f2⟩:=fresh p hp
    refine kKu (S:=[(a,2)]) h1 (h2.sub (.new hp)) (h3.gup f2.symm) (h4.over (h4.none f2 hp)) hnd hbn hfr jJg f1 f2 (by simp[ha]) (by simp;omega) (by simp;omega) ?_
    intro G' Hs' v8 v9 i1 i2 i3 i4
    refine⟨_,_,_,_,_,_,rfl,Hs',?_,i2,i3.mono (by simp;omega),i4⟩
    rw[jXn hpe];unfold hv;rw[if_pos hcn];exact i1
   ·rw[if_neg (by simp;omega)]
    refine⟨by omega,by omega,by omega,fun p hp=> ?_⟩
    obtain⟨f1,f2⟩:=fresh p hp
    refine kKu (S:=[(a,0),(c,1)]) h1 (h2.sub (.new hp)) (h3.gup f2.symm) (h4.over (h4.none f2 hp)) hnd hbn hfr jJg f1 f2 (by simp;omega) (by simp;omega) (by simp;omega) ?_
    intro G' Hs' v8 v9 i1 i2 i3 i4
    refine⟨_,_,_,_,_,_,rfl,Hs',?_,i2,i3.mono (by simp;omega),i4⟩
    rw[jXn hpe];unfold hv;rw[if_neg hcn];exact i1
  ·intro τ G' h_;apply xe7 h_;clear h_;intro v4 v5 v6 v7 v8 v9 Hs h_;apply ae4 h_;clear h_;intro h1 h2 h3 h4
   rw[kJw,lJb] at h1 h3
   wp_walk using 1,tSeq
   have ok:=h1.ok hP hn hPl
   refine⟨D,Hs,rs,rfl,h2,ok,fun G3 W s3 J=> ?_⟩
   exact kk W G3 (made_of h1 hP ok J) (h3.sub s3) (h4.trans (.sub s3))
noncomputable def dgr (P:List (Nat×Nat)) (n r:Nat):Nat:=((hvs P n P.length).filter fun x=>x.1 == r).length
noncomputable def jU1 (n:Nat) (p:Nat×Nat):List Nat:=if p.2=n then [p.1] else [p.1,p.2]
theorem hvs_app {P Q:List (Nat×Nat)} {n:Nat}:∀k,k<=P.length->hvs (P++Q) n k=hvs P n k
 | 0,_=>rfl
 | k+1,h=>by
  have e:P[k]? =some P[k]:=lJc (by omega)
  rw[jXn e,jXn (p:=P[k]) (by rw[lJy (by omega)];exact e),hvs_app k (by omega)]
theorem hvs_snoc {P:List (Nat×Nat)} {n:Nat} {p:Nat×Nat}:hvs (P++[p]) n (P++[p]).length=hvs P n P.length++hv n P.length p:=by
 rw[lJl,List.length_singleton,jXn (p:=p) (by simp),hvs_app _ (lJd _)]
theorem hv_cnt {n t r:Nat} {p:Nat×Nat}:((hv n t p).filter fun x=>x.1 == r).length=(jU1 n p).count r:=by
 unfold hv jU1
 split
 ·by_cases h:p.1=r<;>simp[h]
 ·by_cases h:p.1=r<;>by_cases h':p.2=r<;>simp[h,h',lK3]
theorem kJ0 {P:List (Nat×Nat)} {n r:Nat} {p:Nat×Nat}:dgr (P++[p]) n r=dgr P n r+(jU1 n p).count r:=by
 unfold dgr
 rw[hvs_snoc,List.filter_append,lJl,hv_cnt]
theorem flt_succ {L:List (Nat×Nat×Nat)} {k:Nat}:(L.filter fun x=>decide (x.1<k+1)).length=(L.filter fun x=>decide (x.1<k)).length+(L.filter fun x=>x.1 == k).length:=by
 induction L with
 | nil=>rfl
 | cons a as ih=>
  rw[lK3,lK3,lK3]
  rcases lKz a.1 k with h | h | h
  ·have h1:a.1<k+1:=by omega
   have h2:¬ a.1=k:=by omega
   simp[h,h1,h2,ih];omega
  ·have h1:a.1<k+1:=by omega
   simp[h,ih];omega
  ·have h1:¬ a.1<k+1:=by omega
   have h2:¬ a.1=k:=by omega
   have h3:¬ a.1<k:=by omega
   simp[h1,h2,h3,ih]
theorem pigeon {L:List (Nat×Nat×Nat)} {d:Nat}:∀k,(∀r,r<k->d<=(L.filter fun x=>x.1 == r).length)->k*d<=(L.filter fun x=>decide (x.1<k)).length
 | 0,_=>by simp
 | k+1,h=>by
  rw[flt_succ,lKw]
  have h1:=pigeon k fun r hr=>h r (by omega)
  have h2:=h k (by omega)
  omega
theorem free_room {P:List (Nat×Nat)} {n d k:Nat} (hd:2<=d) (hk:P.length<k):∃r,r<k/\dgr P n r<d:=by
 apply lJ7
 intro h
 have h1:∀r,r<k->d<=((hvs P n P.length).filter fun x=>x.1 == r).length:=fun r hr=>by
  rcases lJ9 (dgr P n r) d with z | z
  ·exact absurd ⟨r,hr,z⟩ h
  ·exact z
 have h2:=pigeon k h1
 have h3:=List.length_filter_le (fun x:Nat×Nat×Nat=>decide (x.1<k)) (hvs P n P.length)
 have h4:=kVm (P:=P) (n:=n) P.length
 have h5:k*2<=k*d:=Nat.mul_le_mul_left k hd
 omega
theorem dgr_zero {P:List (Nat×Nat)} {n k r:Nat} (h:∀p,p∈P->p.1<k/\p.2<k) (hr:k<=r):dgr P n r=0:=by
 unfold dgr
 rw[lKg,List.filter_eq_nil_iff]
 rintro⟨a,t,s⟩ hx
 obtain⟨p,h1,h2,h3⟩:=kKn hx
 have h4:=h p (lJg h1)
 have h5:=(kQ7 h3).2.2
 simp
 omega
noncomputable def jVf (n:Nat) (f:Nat->Nat):List T:=(List.range n).map fun r=>T.int (f r)
theorem kUi {n:Nat} {f:Nat->Nat} {r:Nat} (h:r<n):L2.atI (jVf n f) (r:Int)=some (.int (f r)):=by rw[atN];simp[jVf,h]
theorem usedT_len {n:Nat} {f:Nat->Nat}:(jVf n f).length=n:=by simp[jVf]
theorem usedT_set {n:Nat} {f:Nat->Nat} {r v:Nat}:(jVf n f).set r (.int v)=jVf n fun x=>if x=r then v else f x:=by
 apply lJ8
 intro i
 by_cases hi:i=r
 ·subst hi
  by_cases h:i<n
  ·rw[lJ1 (by simpa[jVf] using h)];simp[jVf,h]
  ·rw[lJh (by simp[jVf];omega),lJh (by simp[jVf];omega)]
 ·rw[lJx (Ne.symm hi)]
  by_cases h:i<n
  ·simp[jVf,h,hi]
  ·rw[lJh (by simp[jVf];omega),lJh (by simp[jVf];omega)]
theorem bump {E:Ends3} {G2:Gp} {u:Addr} {n:Nat} {f:Nat->Nat} {es:List Nat} {stay:Gp->Prop} {w0 w1 w2 w4 w5 w6 w7 w8 w9 w10 w11:Option T} (hu:G2 u=some (.lst (jVf n f))) (hst:∀G',(∀c,c≠u->G' c=G2 c)->stay G') (hes:∀e,e∈es->e<n)
  (kk:∀G' v7,G' u=some (.lst (jVf n fun r=>f r+es.count r))->(∀c,c≠u->G' c=G2 c)->E.nx [w0,w1,w2,some (.ref u),w4,w5,w6,v7,w8,w9,w10,w11] G'):
  ForAt (jJj 7) (tAsg (tOp jKk (tOp rIxF (tVar 3) (tVar 7)) (tC (.int 1))) (gSub (tVar 3) (tVar 7) jXx)) E [w0,w1,w2,some (.ref u),w4,w5,w6,w7,w8,w9,w10,w11] (es.map fun e=>T.int (e:Nat)) stay G2:=by
 refine⟨fun j τ G'=>∃v7,τ=[w0,w1,w2,some (.ref u),w4,w5,w6,v7,w8,w9,w10,w11]/\G' u=some (.lst (jVf n fun r=>f r+(es.take j).count r))/\(∀c,c≠u->G' c=G2 c),?_,?_,?_,?_⟩
 ·exact⟨w7,rfl,by simpa using hu,fun _ _=>rfl⟩
 ·intro j τ G' hj h_;apply xe1 h_;clear h_;intro v7 h_;apply ae2 h_;clear h_;intro h1 h2
  exact hst G' h2
 ·intro j x τ G' hx0 h_;apply xe1 h_;clear h_;intro v7 h_;apply ae2 h_;clear h_;intro h1 h2
  obtain⟨e,hx,rfl⟩:=jUa hx0
  have he:=hes e (lJg hx)
  have hix:L2.ixN (jVf n fun r=>f r+(es.take j).count r).length (e:Int)=some e:=kVk (by rw[usedT_len];exact he)
  wp_walk using 1,jJ2 h1,kUi he,jYx h1 hix
  refine⟨?_,fun c hc=>by rw[jJt hc];exact h2 c hc⟩
  rw[show T.int (((f e+(es.take j).count e:Nat):Int)+1)=T.int ((f e+(es.take j).count e+1:Nat):Int) by simp,usedT_set]
  congr 1
  funext r
  rw[lKj,hx,Option.toList_some,List.count_append]
  by_cases hr:r=e
  ·subst hr;simp;omega
  ·have:¬ e=r:=fun z=>hr z.symm
   simp[hr,this]
 ·intro τ G' h_;apply xe1 h_;clear h_;intro v7 h_;apply ae2 h_;clear h_;intro h1 h2
  rw[lJb,lKy] at h1
  exact kk G' v7 h1 h2
structure WebOk (n d:Nat) (W:Web):Prop where
 len:W.length=n
 sym:Sym W
 deg:∀(r:Nat) (es:List (Nat×Nat)),W[r]? =some es->es.length<=d
 low:∀r,1<=r->r<n->∃i a j,en W r i=some (a,j)/\a<r
structure POk (P:List (Nat×Nat)) (n d k:Nat):Prop where
 ok:kXc P n
 deg:∀r,r<n->dgr P n r<=d
 low:∀r,1<=r->r<k->∃p,p∈P/\p.2=r/\p.1<r
theorem POk.web {P:List (Nat×Nat)} {n d:Nat} {W:Web} (h:POk P n d n) (m:Made P n W):WebOk n d W where
 len:=m.len
 sym:=m.sym
 deg:=fun r es hr=>by
  rw[m.deg r es hr];exact h.deg r (by rw[<-m.len];exact (lJa.mp hr).1)
 low:=fun r h1 h2=>by
  obtain⟨p,q1,q2,q3⟩:=h.low r h1 h2
  obtain⟨i,j,q4⟩:=m.tie p q1 (by omega)
  have:=m.sym _ _ _ _ q4
  rw[q2] at this
  exact⟨j,p.1,i,this,q3⟩
noncomputable def jQ7:Sp3:=fun xs G Q=>∃(b:Addr) (n d m:Nat),xs=[.ref b,.int n,.int d]/\BoxAt G b m/\m+300<2^40/\1<=n/\n<=24/\2<=d/\d<=100/\∀W G',WebOk n d W->BoxAt G' b (m+300)->Keep b G G'->Q (encW W) G'
noncomputable def N_l_web:List Str:=["_law_box_here","_law_many","_law_most","_law_used","_law_pairs","_law_room","_law_free","_law_end","_law_turn_here","_law_pair","_law_ends_here","_law_one"]
noncomputable def kJq:TS3:=
 (tSeq (tAsg (tOp jXt (tLst (jJa (tC (.int 0)) tNil)) (tVar 1)) (jJj 3))
 (tSeq (tAsg (tLst tNil) (jJj 4))
 (tSeq (tFor (iRng2 (jJa (tC (.int 1)) (jJa (tVar 1) tNil))) (jJj 5) (tSeq (tAsg (jQ3 [false,false,false,false,false,false,false,false,false,false,false,true] (jKv (jJa (tVar 5) tNil)) (jJj 11) (jKe (tOp rLt (tOp rIxF (tVar 3) (tVar 11)) (tVar 2))) (tVar 11)) (jJj 6))
 (tSeq (jUk (tBM "list" jKr (tVar 4) (jJa (tTup (jJa (tOp rIxF (tVar 6) (jJo jJh (jJa (tVar 0) (jJa (tCB rLen (jJa (tVar 6) tNil)) tNil)))) (jJa (tVar 5) tNil))) tNil)))
 (tFor (iSeq (tOp rIxF (tVar 4) (tUn rNeg (tC (.int 1))))) (jJj 7) (tAsg (tOp jKk (tOp rIxF (tVar 3) (tVar 7)) (tC (.int 1))) (gSub (tVar 3) (tVar 7) jXx))))))
 (tSeq (tFor (jKv (jJa (jJo jJh (jJa (tVar 0) (jJa (tOp jKk (tVar 1) (tC (.int 2))) tNil))) tNil)) (jJj 8) (tSeq (tAsg (tTup (jJa (jJo jJh (jJa (tVar 0) (jJa (tVar 1) tNil))) (jJa (jJo jJh (jJa (tVar 0) (jJa (tOp jKk (tVar 1) (tC (.int 1))) tNil))) tNil))) (jJj 9))
 (tSeq (tAsg (jQ3 [false,false,false,false,false,false,false,true,false,false,false,false] (iSeq (tVar 9)) (jJj 7) (jKe (tOp rLt (tVar 7) (tVar 1))) (tVar 7)) (jJj 10))
 (tIfS (jKe (tCB rAll (jJa (jQ3 [false,false,false,false,false,false,false,true,false,false,false,false] (iSeq (tVar 10)) (jJj 7) jUo (tOp rLeF (tOp jKk (tOp rIxF (tVar 3) (tVar 7)) (tBM "list" rCount (tVar 10) (jJa (tVar 7) tNil))) (tVar 2))) tNil))) (tSeq (jUk (tBM "list" jKr (tVar 4) (jJa (tVar 9) tNil)))
 (tFor (iSeq (tVar 10)) (jJj 7) (tAsg (tOp jKk (tOp rIxF (tVar 3) (tVar 7)) (tC (.int 1))) (gSub (tVar 3) (tVar 7) jXx)))) jK5))))
 (tRet (jJo jKh (jJa (tVar 0) (jJa (tVar 4) (jJa (tVar 1) tNil)))))))))
theorem rep_used {n:Nat}:(List.replicate n [T.int 0]).flatten=jVf n fun _=>0:=by
 have:(List.replicate n [T.int 0]).flatten=List.replicate n (T.int 0):=by
  induction n with
  | zero=>rfl
  | succ n ih=>rw[lKd,lKv,ih];rfl
 rw[this]
 apply lJ8
 intro i
 by_cases h:i<n
 ·simp[jVf,h]
 ·rw[lJh (by simp;omega),lJh (by simp[jVf];omega)]
theorem rngT2_map {lo n:Nat}:rngT lo n=(List.range n).map fun (k:Nat)=>T.int ((lo+k:Nat):Int):=by simp[rngT]
theorem cnt_int {es:List Nat} {r:Nat}:(es.map fun e=>T.int (e:Nat)).countP (fun z=>eqT z (.int r))=es.count r:=by
 rw[List.countP_map,List.count]
 congr 1
 funext e
 simp only[eqT,Function.comp]
 by_cases h:e=r
 ·subst h;simp
 ·have h2:¬ (e:Int)=r:=by omega
  rw[beq_eq_false_iff_ne.mpr h,beq_eq_false_iff_ne.mpr h2]
theorem flat_ints {es:List Nat}:(es.map fun e=>T.int (e:Nat)).all jZl=true:=by
 rw[List.all_map,lK6];intros;rfl
theorem jZq {α:Type} {f:α->Bool}:∀ {es:List α},allBl (es.map fun e=>T.bl (f e))=some (es.all f)
 | []=>rfl
 | e::es=>by rw[lJ4,allBl,jZq,lKp]
theorem rdok_l_web:∀xs G Q,jQ7 xs G Q->kJq {nx:=fun _ G'=>Q .non G',rt:=Q} (jJm N_l_web xs) G:=by
 intro xs G Q h_;apply xe4 h_;clear h_;intro b n d m h_;apply ae7 h_;clear h_;intro hb hm hn1 hn2 hd1 hd2 kk
 rw[show jJm N_l_web [.ref b,.int n,.int d]=[some (.ref b),some (.int n),some (.int d),none,none,none,none,none,none,none,none,none] from rfl]
 have hs:=sz
 wp_walk using 1,kJq,jJ5,jKv,iRng2
 refine⟨by omega,fun z hz=> ?_⟩
 have e1:mulR (gup G z (GO.lst [T.int 0])) (.ref z) (.int n)=some (.newL (jVf n fun _=>0)):=by
  rw[<-rep_used]
  simp only[mulR,jJg];rw[if_pos];congr;refine⟨?_,?_,?_⟩<;>simp<;>omega
 wp_walk using 1,e1
 intro u hu
 obtain⟨huz,hu0⟩:=jQz hu
 refine⟨lJn _,fun pr hpr=> ?_⟩
 obtain⟨hpu,hpr1⟩:=jQz hpr
 obtain⟨hpz,hpr0⟩:=jQz hpr1
 obtain⟨bo,hbo⟩:=hb.some
 have hbu:=jJe hbo hu0
 have hbp:=jJe hbo hpr0
 have hbz:=jJe hbo hz
 refine⟨by omega,by omega,by omega,by omega,?_⟩
 rw[show ((n:Int)-1).toNat=n-1 by omega,show rngT 1 (n-1)=rngT ((1:Nat):Int) (n-1) from rfl,rngT2_map]
 let J1:Nat->St3->Gp->Prop:=fun k τ G'=>∃(v5 v6 v7:Option T) (P:List (Nat×Nat)),τ=[some (.ref b),some (.int n),some (.int d),some (.ref u),some (.ref pr),v5,v6,v7,none,none,none,none]/\P.length=k/\POk P n d (k+1)/\(∀p,p∈P->p.1<k+1/\p.2<k+1)/\G' u=some (.lst (jVf n (dgr P n)))/\G' pr=some (.lst (P.map encE))/\BoxAt G' b (m+k)/\Keep b G G'
 refine⟨J1,?_,?_,?_,?_⟩
 ·refine xi4 none none none [] rfl ⟨rfl,⟨by intro p h;simp at h,fun r _=>by simp[dgr,hvs],fun r h1 h2=>by omega⟩,by intro p h;simp at h,by rw[jJt hpu.symm,jJg];rfl,jJg,((hb.gup hbz).gup hbu).gup hbp,(((Keep.new hz).over hu0).over hpr0)⟩
 ·intros;trivial
 ·intro k x τ G1 hx0 h_;apply xe4 h_;clear h_;intro v5 v6 v7 P h_;apply ae7 h_;clear h_;intro hPl hP hlt hgu hgp hbx hkp
  obtain⟨e,hx,rfl⟩:=jUa hx0
  obtain⟨hk,rfl⟩:k<n-1/\k=e:=by
   rw[lJa] at hx;obtain⟨q1,q2⟩:=hx;simp at q1 q2;exact⟨q1,q2⟩
  wp_walk using 1,iSeq,jKv,jJ5
  refine⟨by omega,by omega,?_⟩
  rw[show (((1+k:Nat)):Int).toNat=1+k by omega,jXf]
  refine jZo (fun r=>if dgr P n r<d then some (T.int (r:Nat)) else none) (by simp;omega) (fun _ _=>trivial) ?_ ?_
  ·intro i r hr G2 K K0 s2 hK hK0
   obtain⟨hr1,rfl⟩:i<1+k/\i=r:=by
    rw[lJa] at hr;obtain⟨q1,q2⟩:=hr;simp at q1 q2;exact⟨q1,q2⟩
   wp_walk using 1,jJ2 (s2 _ _ hgu),kUi (show i<n by omega)
   by_cases hdg:dgr P n i<d
   ·rw[if_pos (by omega)]
    exact hK _ _ (by rw[if_pos hdg]) (.refl _)
   ·rw[if_neg (by omega)]
    exact hK0 (by rw[if_neg hdg]) _ (.refl _)
  ·intro fr G2 hfr hfr2 s2
   obtain⟨F,hF1,hF2⟩:∃F:List Nat,(List.range (1+k)).filterMap (fun r=>if dgr P n r<d then some (T.int (r:Nat)) else none)=F.map (fun r=>T.int (r:Nat))/\F=(List.range (1+k)).filter fun r=>decide (dgr P n r<d):=by
    refine⟨_,?_,rfl⟩
    generalize List.range (1+k)=l
    induction l with
    | nil=>rfl
    | cons a as ih=>
     rw[lK4,lK3]
     by_cases h:dgr P n a<d<;>simp[h,ih]
   rw[hF1] at hfr2
   have hFl:F.length<=1+k:=by rw[hF2];have:=List.length_filter_le (fun r=>decide (dgr P n r<d)) (List.range (1+k));rw[lKl] at this;exact this
   have hF0:1<=F.length:=by
    obtain⟨r,q1,q2⟩:=free_room (P:=P) (n:=n) (d:=d) (k:=1+k) hd1 (by omega)
    have:r∈F:=by rw[hF2,lKu];exact⟨lJt.mpr q1,by simpa using q2⟩
    exact List.length_pos_of_mem this
   have hgp2:=s2 _ _ hgp
   wp_walk using 1,jQg hgp2,jJp hfr2,lJb
   refine⟨b,_,m+k,rfl,hbx.sub s2,by omega,by omega,by omega,fun c G3 c0 c1 bx kp=> ?_⟩
   have hfb:fr≠b:=by rintro rfl;obtain⟨o,ho⟩:=hbx.some;rw[ho] at hfr;cases hfr
   have hcF:c.toNat<F.length:=by omega
   have hca:L2.atI (F.map fun r=>T.int (r:Nat)) c=some (.int (F[c.toNat]:Nat)):=by rw[atZ c0];simp[hcF]
   have hmem:F[c.toNat]∈F:=List.getElem_mem hcF
   generalize F[c.toNat]=a at hca hmem
   rw[hF2,lKu] at hmem
   have ha1:a<1+k:=lJt.mp hmem.1
   have ha2:dgr P n a<d:=by simpa using hmem.2
   have hgp3:=kp _ _ hbp.symm hgp2
   have hgu3:=kp _ _ hbu.symm (s2 _ _ hgu)
   wp_walk using 1,jJ2 (kp _ _ hfb hfr2),hca,hgp3
   refine⟨by omega,by simp;omega,_,at_last,[T.int (a:Nat),T.int ((1+k:Nat):Int)],rfl,?_⟩
   have hne:u≠pr:=hpu.symm
   have hE:jU1 n (a,1+k)=[a,1+k]:=by unfold jU1;rw[if_neg (show ¬ (1+k)=n by omega)]
   refine bump (es:=[a,1+k]) (n:=n) (f:=dgr P n) (by rw[jJt hne];exact hgu3) (fun _ _=>rfl) (by simp;omega) ?_
   intro G4 v7 hu4 hk4
   have hlt':∀p,p∈P++[(a,1+k)]->p.1<k+1+1/\p.2<k+1+1:=by
    intro p hp
    rw[lJu,lJp] at hp
    rcases hp with hp | rfl
    ·have:=hlt p hp;omega
    ·exact⟨by show a<_;omega,by show 1+k<_;omega⟩
   refine xi4 _ _ _ (P++[(a,1+k)]) rfl ⟨by simp[hPl],⟨?_,?_,?_⟩,hlt',?_,?_,?_,?_⟩
   ·intro p hp
    have:=hlt' p hp;omega
   ·intro r hr
    rw[kJ0,hE]
    have h0:=hP.deg r hr
    have hz1:=dgr_zero (n:=n) (r:=1+k) hlt (by omega)
    by_cases h1:r=a
    ·subst h1
     have:¬ 1+k=r:=by omega
     simp[this];omega
    ·have h1':¬ a=r:=fun z=>h1 z.symm
     by_cases h2:1+k=r
     ·subst h2;simp[h1'];omega
     ·simp[h1',h2];omega
   ·intro r h1 h2
    by_cases h3:r<k+1
    ·obtain⟨p,q1,q2⟩:=hP.low r h1 h3
     exact⟨p,lK5 _ q1,q2⟩
    ·exact⟨(a,1+k),by simp,by show 1+k=r;omega,by show a<r;omega⟩
   ·rw[hu4,show (fun r=>dgr P n r+List.count r [a,1+k])=dgr (P++[(a,1+k)]) n from funext fun r=>by rw[kJ0,hE]]
   ·rw[hk4 pr hpu,jJg];simp[encE]
   ·obtain⟨x,y,w,z1,z2⟩:=bx
    exact⟨x,y,w,by rw[hk4 b hbu,jJt hbp];exact z1,z2⟩
   ·intro c o hc he
    have hcu:=jJe he hu0
    have hcp:=jJe he hpr0
    rw[hk4 c hcu,jJt hcp]
    exact kp _ _ hc (s2 _ _ (hkp _ _ hc he))
 ·intro τ G1 h_;apply xe4 h_;clear h_;intro v5 v6 v7 P h_;apply ae7 h_;clear h_;intro hPl hP hlt hgu hgp hbx hkp
  rw[lJb,lKl] at hPl hP hbx
  rw[show n-1+1=n by omega] at hP
  wp_walk using 1,jJ5,jKv
  refine⟨b,_,m+(n-1),rfl,hbx,by omega,by omega,by omega,fun q G2 q0 q1 bx kp=> ?_⟩
  refine⟨q,rfl,by omega,by omega,?_⟩
  let J2:Nat->St3->Gp->Prop:=fun k τ G'=>∃(v7 v8 v9 v10 v11:Option T) (P:List (Nat×Nat)),τ=[some (.ref b),some (.int n),some (.int d),some (.ref u),some (.ref pr),v5,v6,v7,v8,v9,v10,v11]/\P.length<=n+k/\POk P n d n/\G' u=some (.lst (jVf n (dgr P n)))/\G' pr=some (.lst (P.map encE))/\BoxAt G' b (m+n+2*k)/\Keep b G G'
  refine⟨J2,?_,?_,?_,?_⟩
  ·exact xi6 _ _ _ _ _ P rfl ⟨by omega,hP,kp _ _ hbu.symm hgu,kp _ _ hbp.symm hgp,bx.mono (by omega),hkp.trans kp⟩
  ·intros;trivial
  ·intro k x τ G3 hx0 h_;apply xe6 h_;clear h_;intro v7 v8 v9 v10 v11 P h_;apply ae6 h_;clear h_;intro hPl hP hgu hgp hbx hkp
   have hk:k<q.toNat:=by have:=(lJa.mp hx0).1;rw[jKq] at this;exact this
   wp_walk using 1,jJ5,iSeq
   refine⟨b,_,_,rfl,hbx,by omega,by omega,by omega,fun c G4 c0 c1 bx4 kp4=> ?_⟩
   refine⟨b,_,_,rfl,bx4,by omega,by omega,by omega,fun e G5 e0 e1 bx5 kp5=> ?_⟩
   obtain⟨a,rfl⟩:=lJm c0
   obtain⟨y,rfl⟩:=lJm e0
   have ha:a<n:=by omega
   have hy:y<=n:=by omega
   have kp35:=kp4.trans kp5
   have hgu5:=kp35 _ _ hbu.symm hgu
   have hgp5:=kp35 _ _ hbp.symm hgp
   refine⟨by omega,?_⟩
   have hEn:∀e',e'∈jU1 n (a,y)->e'<n:=by
    intro e' he'
    unfold jU1 at he'
    split at he'<;>simp at he'<;>simp at * <;>omega
   have hEl:(jU1 n (a,y)).length<=2:=by unfold jU1;split<;>simp
   refine jZo (es:=[a,y]) (enc:=fun r:Nat=>T.int r) (fun r=>if r<n then some (T.int (r:Nat)) else none) (by simp;omega) (fun _ _=>trivial) ?_ ?_
   ·intro i r hr G6 K K0 s6 hK hK0
    wp_walk using 1,tSeq
    by_cases hrn:r<n
    ·rw[if_pos (by omega)]
     exact hK _ _ (by rw[if_pos hrn]) (.refl _)
    ·rw[if_neg (by omega)]
     exact hK0 (by rw[if_neg hrn]) _ (.refl _)
   ·intro en G6 hen hen6 s6
    have hEE:List.filterMap (fun r=>if r<n then some (T.int (r:Nat)) else none) [a,y]=(jU1 n (a,y)).map fun r=>T.int (r:Nat):=by
     unfold jU1
     by_cases hyn:y=n
     ·simp[ha,hyn]
     ·have:y<n:=by omega
      simp[ha,hyn,this]
    rw[hEE] at hen6
    refine⟨_,jJp hen6,?_⟩
    refine jQh (fun r=>T.bl (decide (dgr P n r+(jU1 n (a,y)).count r<=d))) (by omega) (fun G' s=>jJp (s _ _ hen6)) ?_ ?_
    ·intro i r hr G7 K K0 s7 hK
     have hrn:=hEn r (lJg hr)
     wp_walk using 1,jJ2 (s7 _ _ (s6 _ _ hgu5)),kUi hrn,jQg (s7 _ _ hen6),rCount,s7 _ _ hen6,rLeF
     refine⟨rfl,flat_ints,?_⟩
     rw[cnt_int,show decide (((dgr P n r:Nat):Int)+((jU1 n (a,y)).count r:Nat)<=(d:Nat))=decide (dgr P n r+(jU1 n (a,y)).count r<=d) from decide_eq_decide.mpr (by omega)]
     exact hK _ (.refl _)
    ·intro al G7 hal hal7 s7
     refine⟨al,_,_,rfl,hal7,jZq,_,rfl,?_⟩
     have s57:=s6.trans s7
     have hgp7:=s57 _ _ hgp5
     have hgu7:=s57 _ _ hgu5
     have henp:en≠pr:=(jJe hgp5 hen).symm
     have henu:en≠u:=(jJe hgu5 hen).symm
     have hkp7:Keep b G G7:=(hkp.trans kp35).trans (.sub s57)
     split
     ·rename_i hall
      rw[lK6] at hall
      refine⟨by rw[jQg hgp7];trivial,_,hgp7,by simp;omega,_,jJp (by rw[jJt henp];exact s7 _ _ hen6),?_⟩
      refine bump (es:=jU1 n (a,y)) (n:=n) (f:=dgr P n) (by rw[jJt hpu.symm];exact hgu7) (fun G' hG'=>jJp (by rw[hG' _ henu,jJt henp];exact s7 _ _ hen6)) hEn ?_
      intro G8 w7 hu8 hk8
      refine xi6 _ _ _ _ _ (P++[(a,y)]) rfl ⟨by simp;omega,⟨?_,?_,?_⟩,?_,?_,?_,?_⟩
      ·intro p hp
       rw[lJu,lJp] at hp
       rcases hp with hp | rfl
       ·exact hP.ok p hp
       ·exact⟨ha,hy⟩
      ·intro r hr
       rw[kJ0]
       by_cases hm:r∈jU1 n (a,y)
       ·simpa using hall r hm
       ·rw[List.count_eq_zero_of_not_mem hm];exact hP.deg r hr
      ·intro r h1 h2
       obtain⟨p,q1,q2⟩:=hP.low r h1 h2
       exact⟨p,lK5 _ q1,q2⟩
      ·rw[hu8,show (fun r=>dgr P n r+List.count r (jU1 n (a,y)))=dgr (P++[(a,y)]) n from funext fun r=>by rw[kJ0]]
      ·rw[hk8 pr hpu,jJg];simp[encE]
      ·obtain⟨x1,y1,w,z1,z2⟩:=(bx5.sub s57).mono (show m+n+2*k+1+1<=m+n+2*(k+1) by omega)
       exact⟨x1,y1,w,by rw[hk8 b hbu,jJt hbp];exact z1,z2⟩
      ·intro c o hc he
       have hcu:=jJe he hu0
       have hcp:=jJe he hpr0
       rw[hk8 c hcu,jJt hcp]
       exact hkp7 _ _ hc he
     ·exact xi6 _ _ _ _ _ P rfl ⟨by omega,hP,hgu7,hgp7,(bx5.sub s57).mono (by omega),hkp7⟩
  ·intro τ G3 h_;apply xe6 h_;clear h_;intro v7 v8 v9 v10 v11 P h_;apply ae6 h_;clear h_;intro hPl hP hgu hgp hbx hkp
   rw[jKq] at hPl hbx
   wp_walk using 1,tSeq
   refine⟨b,pr,P,n,_,rfl,hbx,by omega,hbp.symm,hgp,hP.ok,by omega,by omega,fun W G4 mw bx4 kp4=> ?_⟩
   exact kk W G4 (hP.web mw) (bx4.mono (by omega)) (hkp.trans kp4)
def Conn (W:Web):Prop:=∀S:Nat->Prop,S 0->(∀r i s j,S r->en W r i=some (s,j)->S s)->∀r,r<W.length->S r
theorem WebOk.conn {n d:Nat} {W:Web} (h:WebOk n d W):Conn W:=by
 intro S h0 hst r
 induction r using Nat.strongRecOn with
 | ind r ih=>
  intro hr
  by_cases hz:r=0
  ·subst hz;exact h0
  ·obtain⟨i,a,j,q1,q2⟩:=h.low r (by omega) (by rw[<-h.len];exact hr)
   exact hst a j r i (ih a q2 (by omega)) (h.sym _ _ _ _ q1)
theorem jZ7 {W:Web} {r i:Nat} {e:Nat×Nat} (h:en W r i=some e):r<W.length:=by
 obtain⟨es,h1,h2⟩:=jK1 h
 exact (lJa.mp h1).1
noncomputable def ring (n:Nat):Web:=(List.range n).map fun r=>[((r+1)%n,1),((r+n-1)%n,0)]
theorem en_ring0 {n r:Nat} (h:r<n):en (ring n) r 0=some ((r+1)%n,1):=jQq (es:=[((r+1)%n,1),((r+n-1)%n,0)]) (by simp[ring,h]) rfl
theorem kVu {n r:Nat} (h:r<n):en (ring n) r 1=some ((r+n-1)%n,0):=jQq (es:=[((r+1)%n,1),((r+n-1)%n,0)]) (by simp[ring,h]) rfl
theorem kUu {n:Nat}:(ring n).length=n:=by simp[ring]
theorem ring_ok {n:Nat} (hn:1<=n):WebOk n 2 (ring n) where
 len:=kUu
 sym:=by
  intro r i s j h
  have hr:r<n:=by have:=jZ7 h;rwa [kUu] at this
  have hi:i=0\/i=1:=by
   obtain⟨es,h1,h2⟩:=jK1 h
   have:es=[((r+1)%n,1),((r+n-1)%n,0)]:=by simp[ring,hr] at h1;exact h1.symm
   subst this
   have:=(lJa.mp h2).1
   simp at this;omega
  rcases hi with rfl | rfl
  ·rw[en_ring0 hr] at h;cases h
   rw[kVu (Nat.mod_lt _ (by omega))]
   congr 2
   by_cases hz:r+1=n
   ·rw[hz,Nat.mod_self];rw[lKh (by omega)];omega
   ·rw[lKh (show r+1<n by omega),show r+1+n-1=r+n by omega,Nat.add_mod_right,lKh hr]
  ·rw[kVu hr] at h;cases h
   rw[en_ring0 (Nat.mod_lt _ (by omega))]
   congr 2
   by_cases hz:r=0
   ·subst hz;rw[lKh (show 0+n-1<n by omega),show 0+n-1+1=n by omega,Nat.mod_self]
   ·rw[show r+n-1=(r-1)+n by omega,Nat.add_mod_right,lKh (show r-1<n by omega),show r-1+1=r by omega,lKh hr]
 deg:=fun r es hr=>by
  have hrl:r<n:=by have:=(lJa.mp hr).1;rwa [kUu] at this
  simp[ring,hrl] at hr;rw[<-hr];simp
 low:=fun r h1 h2=>⟨1,r-1,0,by rw[kVu h2,show r+n-1=(r-1)+n by omega,Nat.add_mod_right,lKh (show r-1<n by omega)],by omega⟩
noncomputable def jQ4:Sp3:=fun xs G Q=>∃n:Nat,xs=[.int n]/\1<=n/\n<=1000/\∀G',Sub G G'->Q (encW (ring n)) G'
noncomputable def N_l_ring:List Str:=["_law_many","_law_room"]
noncomputable def jY5:TS3:=
 (tRet (tCB jKm (jJa (jQ3 [false,true] (jKv (jJa (tVar 0) tNil)) (jJj 1) jUo (tTup (jJa (tTup (jJa (tOp rMod (tOp jKk (tVar 1) (tC (.int 1))) (tVar 0)) (jJa (tC (.int 1)) tNil))) (jJa (tTup (jJa (tOp rMod (tOp rSub (tVar 1) (tC (.int 1))) (tVar 0)) (jJa (tC (.int 0)) tNil))) tNil)))) tNil)))
theorem rdok_l_ring:∀xs G Q,jQ4 xs G Q->jY5 {nx:=fun _ G'=>Q .non G',rt:=Q} (jJm N_l_ring xs) G:=by
 intro xs G Q h_;apply xe1 h_;clear h_;intro n h_;apply ae3 h_;clear h_;intro hn1 hn2 kk
 rw[show jJm N_l_ring [.int n]=[some (.int n),none] from rfl]
 have hs:=sz
 wp_walk using 1,jY5,jKv
 refine⟨by omega,by omega,?_⟩
 rw[show ((n:Int)).toNat=n by omega,jXf]
 refine jQh (fun r=>encR [((r+1)%n,1),((r+n-1)%n,0)]) (by simp;omega) (fun _ _=>trivial) ?_ ?_
 ·intro i r hr G' K K0 s hk
  have hrn:r<n:=by
   rw[lJa] at hr;obtain⟨q1,q2⟩:=hr;simp at q1 q2;omega
  wp_walk using 1,tSeq
  have e1:((r:Int)+1)%(n:Int)=(((r+1)%n:Nat):Int):=by simp
  have e2:((r:Int)-1)%(n:Int)=(((r+n-1)%n:Nat):Int):=by
   rw[Int.natCast_emod,show ((r+n-1:Nat):Int)=(r:Int)-1+n by omega,Int.add_emod_right]
  rw[e1,e2]
  refine⟨by omega,by omega,by omega,by omega,by omega,?_⟩
  exact hk _ (.refl _)
 ·intro D G' hD h1 h2
  wp_walk using 1,jJp h1
  have:=kk G' h2
  rw[encW,ring,lJw] at this
  exact this
structure Fine (W:Web):Prop where
 len:W.length<=1000
 row:∀(r:Nat) (es:List (Nat×Nat)),W[r]? =some es->es.length<=1000
 rng:∀r i s j,en W r i=some (s,j)->s<W.length
theorem jQe {W:Web} {r:Nat} {es:List (Nat×Nat)} (h:W[r]? =some es):L2.atI (W.map encR) (r:Int)=some (encR es):=by rw[atN];simp[h]
theorem kVs {es:List (Nat×Nat)} {i:Nat} {e:Nat×Nat} (h:es[i]? =some e):L2.atI (es.map encE) (i:Int)=some (encE e):=by rw[atN];simp[h]
theorem jYy {n k:Nat} {x:T} (h:(rngT 0 n)[k]? =some x):k<n/\x= .int (k:Nat):=jU8 h
noncomputable def leE (a b:Nat×Nat):Bool:=HT.lexLe [(a.1:Int),(a.2:Int)] [(b.1:Int),(b.2:Int)]
theorem leE_iff {a b:Nat×Nat}:leE a b=true↔(a.1<b.1\/(a.1=b.1/\a.2<=b.2)):=by
 unfold leE
 rw[HT.lexLe_cons,HT.lexLe_cons,HT.lexLe_nil]
 by_cases h1:a.1=b.1
 ·rw[if_pos (by omega)]
  by_cases h2:a.2=b.2
  ·rw[if_pos (by omega)];simp;omega
  ·rw[if_neg (by omega)];simp;omega
 ·rw[if_neg (by omega)];simp;omega
noncomputable abbrev Tie:=(Nat×Nat)×(Nat×Nat)
noncomputable def encT (x:Tie):T:= .tup [encE x.1,encE x.2]
noncomputable def kJm (r:Nat) (es:List (Nat×Nat)) (i:Nat):Option Tie:=match es[i]? with
 | some e=>if leE (r,i) e=true then some ((r,i),e) else none
 | none=>none
noncomputable def rowE (W:Web) (r:Nat):List Tie:=match W[r]? with
 | some es=>(List.range es.length).filterMap (kJm r es)
 | none=>[]
noncomputable def jQ0 (W:Web):List Tie:=(List.range W.length).flatMap (rowE W)
theorem jYl {r i:Nat} {es:List (Nat×Nat)} {x:Tie} (h:kJm r es i=some x):x.1=(r,i)/\es[i]? =some x.2/\leE x.1 x.2=true:=by
 unfold kJm at h
 split at h
 ·rename_i e he
  split at h
  ·rename_i hl;cases h;exact⟨rfl,he,hl⟩
  ·cases h
 ·cases h
theorem endsL_mem {W:Web} {x:Tie}:x∈jQ0 W↔en W x.1.1 x.1.2=some x.2/\leE x.1 x.2=true:=by
 obtain⟨⟨r,i⟩,e⟩:=x
 unfold jQ0
 rw[List.mem_flatMap]
 constructor
 ·rintro⟨r',h1,h2⟩
  unfold rowE at h2
  split at h2
  ·rename_i es hes
   rw[lQf] at h2
   obtain⟨i',h3,h4⟩:=h2
   obtain⟨q1,q2,q3⟩:=jYl h4
   cases q1
   exact⟨jQq hes q2,q3⟩
  ·cases h2
 ·rintro⟨h1,h2⟩
  obtain⟨es,q1,q2⟩:=jK1 h1
  refine⟨r,lJt.mpr (lJa.mp q1).1,?_⟩
  unfold rowE
  rw[q1]
  show _∈List.filterMap _ _
  rw[lQf]
  refine⟨i,lJt.mpr (lJa.mp q2).1,?_⟩
  have q2:es[i]? =some e:=q2
  unfold kJm
  rw[q2]
  show (if leE (r,i) e=true then _ else _)=_
  rw[if_pos h2]
theorem pw_fm {α β:Type} {f:α->Option β} {R:β->β->Prop} {xs:List α} (hx:xs.Nodup) (h:∀a a' b b',a≠a'->f a=some b->f a'=some b'->R b b'):(xs.filterMap f).Pairwise R:=by
 rw[List.pairwise_filterMap]
 exact hx.imp fun hne b hb b' hb'=>h _ _ b b' hne hb hb'
theorem endsL_nodup {W:Web}:(jQ0 W).Nodup:=by
 unfold jQ0
 have h:∀l:List Nat,l.Nodup->(l.flatMap (rowE W)).Nodup:=by
  intro l hl
  induction l with
  | nil=>exact List.nodup_nil
  | cons a as ih=>
   rw[lKc] at hl
   rw[List.flatMap_cons,lK1]
   refine⟨?_,ih hl.2,?_⟩
   ·unfold rowE
    split
    ·refine pw_fm List.nodup_range ?_
     rintro i i' x x' hne hx hx' rfl
     have q1:=(jYl hx).1
     have q2:=(jYl hx').1
     rw[q1] at q2;cases q2;exact hne rfl
    ·exact List.nodup_nil
   ·intro x hx y hy
    rintro rfl
    rw[List.mem_flatMap] at hy
    obtain⟨a',h1,h2⟩:=hy
    have fst:∀r,x∈rowE W r->x.1.1=r:=by
     intro r hr
     unfold rowE at hr
     split at hr
     ·rw[lQf] at hr
      obtain⟨i,_,h4⟩:=hr
      rw[(jYl h4).1]
     ·cases hr
    have:a=a':=(fst a hx).symm.trans (fst a' h2)
    subst this;exact hl.1 h1
 exact h _ List.nodup_range
noncomputable def jQk:Sp3:=fun xs G Q=>∃W:Web,xs=[encW W]/\Fine W/\∀p G',G p=none->G' p=some (.lst ((jQ0 W).map encT))->(jQ0 W).length<=1000000->Sub G G'->Q (.ref p) G'
noncomputable def N_l_ends:List Str:=["_law_web_here","_law_found","_law_room","_law_door"]
noncomputable def jY7:TS3:=
 (tSeq (tAsg (tLst tNil) (jJj 1))
 (tSeq (tFor (jKv (jJa (tCB rLen (jJa (tVar 0) tNil)) tNil)) (jJj 2) (tFor (jKv (jJa (tCB rLen (jJa (tOp rIxF (tVar 0) (tVar 2)) tNil)) tNil)) (jJj 3) (tIfS (jKe (tOp rLeF (tTup (jJa (tVar 2) (jJa (tVar 3) tNil))) (tOp rIxF (tOp rIxF (tVar 0) (tVar 2)) (tVar 3)))) (jUk (tBM "list" jKr (tVar 1) (jJa (tTup (jJa (tTup (jJa (tVar 2) (jJa (tVar 3) tNil))) (jJa (tOp rIxF (tOp rIxF (tVar 0) (tVar 2)) (tVar 3)) tNil))) tNil))) jK5)))
 (tRet (tVar 1))))
theorem rdok_l_ends:∀xs G Q,jQk xs G Q->jY7 {nx:=fun _ G'=>Q .non G',rt:=Q} (jJm N_l_ends xs) G:=by
 intro xs G Q h_;apply xe1 h_;clear h_;intro W h_;apply ae2 h_;clear h_;intro fine kk
 rw[show jJm N_l_ends [encW W]=[some (.tup (W.map encR)),none,none,none] from rfl]
 have hs:=sz
 have hl:=fine.len
 wp_walk using 1,jY7,jJ5,jKv,lJb
 refine⟨lJn _,fun p hp=>⟨by omega,by omega,?_⟩⟩
 rw[show ((W.length:Int)).toNat=W.length by omega]
 refine⟨fun k τ G'=>∃(v2 v3:Option T),τ=[some (.tup (W.map encR)),some (.ref p),v2,v3]/\G' p=some (.lst (((List.range k).flatMap (rowE W)).map encT))/\((List.range k).flatMap (rowE W)).length<=1000*k/\Sub G G',?_,?_,?_,?_⟩
 ·exact⟨none,none,rfl,jJg,lJn _,.new hp⟩
 ·intros;trivial
 ·intro k x τ G1 hx h_;apply xe2 h_;clear h_;intro v2 v3 h_;apply ae3 h_;clear h_;intro h1 h2 h3
  obtain⟨hk,rfl⟩:=jYy hx
  have hW:W[k]? =some W[k]:=lJc hk
  generalize W[k]=es at hW
  have hes:=fine.row k es hW
  wp_walk using 1,jJ5,jKv,jQe hW,encR,lJb
  refine⟨by omega,by omega,?_⟩
  rw[show ((es.length:Int)).toNat=es.length by omega]
  refine⟨fun i τ G'=>∃(v3:Option T),τ=[some (.tup (W.map encR)),some (.ref p),some (.int k),v3]/\G' p=some (.lst (((List.range k).flatMap (rowE W)++(List.range i).filterMap (kJm k es)).map encT))/\((List.range k).flatMap (rowE W)++(List.range i).filterMap (kJm k es)).length<=1000*k+i/\Sub G G',?_,?_,?_,?_⟩
  ·exact⟨v3,rfl,by simpa using h1,by simpa using h2,h3⟩
  ·intros;trivial
  ·intro i x τ G2 hx h_;apply xe1 h_;clear h_;intro v3 h_;apply ae3 h_;clear h_;intro i1 i2 i3
   obtain⟨hi,rfl⟩:=jYy hx
   have hE:es[i]? =some es[i]:=lJc hi
   generalize es[i]=e at hE
   wp_walk using 1,rLeF,jQe hW,encR,kVs hE,encE,jQg i1,i1
   refine⟨by omega,?_⟩
   have hle:HT.lexLe [(k:Int),(i:Int)] [(e.1:Int),(e.2:Int)]=leE (k,i) e:=rfl
   rw[hle]
   by_cases hc:leE (k,i) e=true
   ·have hcell:kJm k es i=some ((k,i),e):=by unfold kJm;rw[hE];show (if _ then _ else _)=_;rw[if_pos hc]
    rw[if_pos hc]
    refine⟨by omega,by omega,by rw[lJb];omega,?_,?_,i3.over hp⟩
    ·rw[lKr,lK7];simp[hcell,encT,encE]
    ·rw[lKr,lK7,lJl,lJl]
     rw[lJl] at i2
     simp[hcell] at i2 ⊢; omega
   ·have hcell:kJm k es i=none:=by unfold kJm;rw[hE];show (if _ then _ else _)=_;rw[if_neg hc]
    rw[if_neg hc]
    refine⟨?_,?_,i3⟩
    ·rw[lKr,lK7];simp[hcell]
    ·rw[lKr,lK7];simp[hcell];simp at i2;omega
  ·intro τ G' h_;apply xe1 h_;clear h_;intro v3 h_;apply ae3 h_;clear h_;intro i1 i2 i3
   rw[jKq] at i1 i2
   have e1:(List.range (k+1)).flatMap (rowE W)=(List.range k).flatMap (rowE W)++(List.range es.length).filterMap (kJm k es):=by
    rw[lKr,lQi]
    congr 1
    simp[rowE,hW]
   refine⟨_,_,rfl,by rw[e1];exact i1,by rw[e1];omega,i3⟩
 ·intro τ G1 h_;apply xe2 h_;clear h_;intro v2 v3 h_;apply ae3 h_;clear h_;intro h1 h2 h3
  rw[jKq] at h1 h2
  wp_walk using 1,tSeq
  exact kk p G1 hp h1 (by show ((List.range W.length).flatMap (rowE W)).length<=_;omega) h3
noncomputable def jJk (F:List Nat):List T:=F.map fun e=>T.int (e:Nat)
theorem inT_ints {F:List Nat} {r:Nat}:inT (.int r) (jJk F)=F.contains r:=by
 unfold inT jJk
 rw[List.any_map,List.contains_eq_any_beq]
 congr 1
 funext e
 simp only[Function.comp,eqT]
 by_cases h:e=r
 ·subst h;simp
 ·have h2:¬ (e:Int)=r:=by omega
  have h3:¬ r=e:=fun z=>h z.symm
  rw[beq_eq_false_iff_ne.mpr h3,beq_eq_false_iff_ne.mpr h2]
theorem inR_ints {G:Gp} {p:Addr} {F:List Nat} {r:Nat} (h:G p=some (.lst (jJk F))):inR G (.int r) (.ref p)=some (F.contains r):=by
 unfold inR
 rw[jJp h]
 show (if _ then _ else _)=_
 rw[if_pos ⟨rfl,flat_ints⟩,inT_ints]
theorem jZf:∀ {n:Nat} {F:List Nat} (hn:F.Nodup) (hl:∀x,x∈F->x<n),F.length<=n
 | 0,F,hn,hl=>by
  cases F with
  | nil=>exact lJd _
  | cons a as=>exact absurd (hl a (lKb)) (lQc _)
 | n+1,F,hn,hl=>by
  have h1:=jZf (n:=n) (hn.erase n) (fun x hx=>by
   rw[hn.mem_erase_iff] at hx
   have:=hl x hx.2;omega)
  by_cases h:n∈F
  ·rw[List.length_erase_of_mem h] at h1;omega
  ·rw[List.erase_of_not_mem h] at h1;omega
theorem kKf {F:List Nat} {n:Nat} (hn:F.Nodup) (hl:∀x,x∈F->x<n) (he:F.length=n):∀r,r<n->r∈F:=by
 intro r hr
 apply lJ7
 intro hm
 have:(r::F).length<=n:=jZf (lKc.mpr ⟨hm,hn⟩) (fun x hx=>by rw[lJk] at hx;rcases hx with rfl | hx;exact hr;exact hl x hx)
 simp at this;omega
def Closed (W:Web) (S:Nat->Prop):Prop:=∀r i s j,S r->en W r i=some (s,j)->S s
structure Found (W:Web) (r0:Nat) (F:List Nat):Prop where
 nd:F.Nodup
 lt:∀x,x∈F->x<W.length
 got:∀S,S r0->Closed W S->∀x,x∈F->S x
noncomputable def vis (F:List Nat) (es:List (Nat×Nat)):List Nat:=es.foldl (fun F e=>if F.contains e.1=true then F else F++[e.1]) F
noncomputable def row (W:Web) (r:Nat):List (Nat×Nat):=(W[r]?).getD []
theorem jUm {W:Web} {r:Nat} {es:List (Nat×Nat)} (h:W[r]? =some es):row W r=es:=by unfold row;rw[h];rfl
theorem vis_take {F:List Nat} {es:List (Nat×Nat)} {j:Nat} {e:Nat×Nat} (h:es[j]? =some e):vis F (es.take (j+1))=if (vis F (es.take j)).contains e.1=true then vis F (es.take j) else vis F (es.take j)++[e.1]:=by
 unfold vis
 rw[lKj,h,List.foldl_append];rfl
noncomputable def bfsN (W:Web):Nat->Nat->List Nat->List Nat
 | 0,_,F=>F
 | n+1,k,F=>match F[k]? with
  | some r=>bfsN W n (k+1) (vis F (row W r))
  | none=>F
noncomputable def bfs (W:Web) (r:Nat):List Nat:=bfsN W W.length 0 [r]
theorem bfsN_done {W:Web} {n k:Nat} {F:List Nat} (h:F.length<=k):bfsN W n k F=F:=by
 cases n with
 | zero=>rfl
 | succ n=>rw[bfsN,lJh h]
theorem bfsN_step {W:Web} {n k r:Nat} {F:List Nat} (h:F[k]? =some r):bfsN W (n+1) k F=bfsN W n (k+1) (vis F (row W r)):=by rw[bfsN,h]
noncomputable def jKu:Sp3:=fun xs G Q=>∃(W:Web) (r0:Nat),xs=[encW W,.int r0]/\Fine W/\r0<W.length/\∀p G' F,G p=none->G' p=some (.lst (jJk F))->Found W r0 F->F=bfs W r0->Sub G G'->Q (.ref p) G'
noncomputable def kK3:List Str:=["_law_web_here","_law_room","_law_found","_law_at","_law_other","_law_door"]
noncomputable def jVq:TS3:=
 (tSeq (tAsg (tLst (jJa (tVar 1) tNil)) (jJj 2))
 (tSeq (tAsg (tC (.int 0)) (jJj 3))
 (tSeq (kQu (jKe (tOp rLt (tVar 3) (tCB rLen (jJa (tVar 2) tNil)))) (tSeq (tFor (iSeq (tOp rIxF (tVar 0) (tOp rIxF (tVar 2) (tVar 3)))) (gTup 2 (jKb (jJj 4) (jKb (jJj 5) gNil))) (tIfS (jKe (tOp jZa (tVar 4) (tVar 2))) (jUk (tBM "list" jKr (tVar 2) (jJa (tVar 4) tNil))) jK5))
 (tAsg (tOp jKk (tVar 3) (tC (.int 1))) (jJj 3))))
 (tRet (tVar 2)))))
theorem kQc:∀xs G Q,jKu xs G Q->jVq {nx:=fun _ G'=>Q .non G',rt:=Q} (jJm kK3 xs) G:=by
 intro xs G Q h_;apply xe2 h_;clear h_;intro W r0 h_;apply ae3 h_;clear h_;intro fine hr0 kk
 rw[show jJm kK3 [encW W,.int r0]=[some (.tup (W.map encR)),some (.int r0),none,none,none,none] from rfl]
 have hs:=sz
 have hl:=fine.len
 wp_walk using 1,jVq,kQu,jJ5
 refine⟨by omega,fun p hp=> ?_⟩
 refine⟨fun m τ G'=>∃(at':Nat) (v4 v5:Option T) (F:List Nat),τ=[some (.tup (W.map encR)),some (.int r0),some (.ref p),some (.int at'),v4,v5]/\G' p=some (.lst (jJk F))/\Found W r0 F/\Sub G G'/\bfs W r0=bfsN W (W.length-at') at' F/\m=W.length-at',⟨_,0,none,none,[r0],rfl,jJg,⟨by simp,by simpa using hr0,fun S h0 _ x hx=>by rw[lJp] at hx;rw[hx];exact h0⟩,.new hp,rfl,rfl⟩,?_⟩
 intro m τ G1 h_;apply xe4 h_;clear h_;intro at' v4 v5 F h_;apply ae5 h_;clear h_;intro h1 h2 h3 hB e4_
 subst e4_
 wp_walk using 1,iSeq,jJp h1,jJ2 h1
 have hFl:=jZf h2.nd h2.lt
 split
 ·rename_i hc
  have hat:at'<F.length:=by rw[jJk,lJb] at hc;omega
  have hF:F[at']? =some F[at']:=lJc hat
  have hfm:F[at']∈F:=List.getElem_mem hat
  generalize F[at']=r at hF hfm
  have hrW:=h2.lt r hfm
  have hW:W[r]? =some W[r]:=lJc hrW
  generalize W[r]=es at hW
  have hatI:L2.atI (jJk F) (at':Int)=some (.int r):=by rw[atN];simp[jJk,hF]
  wp_walk using 1,hatI,jQe hW,encR
  refine⟨fun τ G'=>∃(v4 v5:Option T) (F:List Nat),τ=[some (.tup (W.map encR)),some (.int r0),some (.ref p),some (.int ((at'+1:Nat):Int)),v4,v5]/\G' p=some (.lst (jJk F))/\Found W r0 F/\Sub G G'/\bfs W r0=bfsN W (W.length-(at'+1)) (at'+1) F,?_,?_⟩
  ·intro τ' G' h_;apply xe3 h_;clear h_;intro v4 v5 F' h_;apply ae4 h_;clear h_;intro i1 i2 i3 iB
   exact⟨W.length-(at'+1),by omega,at'+1,v4,v5,rfl,F',i1,i2,i3,iB,rfl⟩
  ·refine⟨fun j τ G'=>∃(v4 v5:Option T) (F':List Nat),τ=[some (.tup (W.map encR)),some (.int r0),some (.ref p),some (.int at'),v4,v5]/\G' p=some (.lst (jJk F'))/\r∈F'/\Found W r0 F'/\Sub G G'/\F'=vis F (es.take j),?_,?_,?_,?_⟩
   ·exact⟨v4,v5,F,rfl,h1,hfm,h2,h3,rfl⟩
   ·intros;trivial
   ·intro j x τ G2 hx0 h_;apply xe3 h_;clear h_;intro v4 v5 F0 h_;apply ae5 h_;clear h_;intro i1 i2 i3 i4 iB
    obtain⟨⟨s,t⟩,hx,rfl⟩:=jUa hx0
    have hen:=jQq hW hx
    wp_walk using 1,encE,jZa,inR_ints i1,jQg i1,i1
    by_cases hm:s∈F0
    ·rw[if_neg (by simp[hm])]
     exact⟨F0,rfl,i2,i3,i4,by rw[vis_take hx,<-iB,if_pos (by simpa using hm)]⟩
    ·rw[if_pos (by simp[hm])]
     have hFl:=jZf i3.nd i3.lt
     refine⟨by rw[jJk,lJb];omega,F0++[s],by simp[jJk],lK5 _ i2,⟨?_,?_,?_⟩,i4.over hp,by rw[vis_take hx,<-iB,if_neg (by simpa using hm)]⟩
     ·rw[lK1];exact⟨i3.nd,by simp,fun a ha b hb=>by rw[lJp] at hb;subst hb;rintro rfl;exact hm ha⟩
     ·intro x hx
      rw[lJu,lJp] at hx
      rcases hx with hx | rfl
      ·exact i3.lt x hx
      ·exact fine.rng _ _ _ _ hen
     ·intro S h0 hc x hx
      rw[lJu,lJp] at hx
      rcases hx with hx | rfl
      ·exact i3.got S h0 hc x hx
      ·exact hc _ _ _ _ (i3.got S h0 hc r i2) hen
   ·intro τ G' h_;apply xe3 h_;clear h_;intro v4 v5 F0 h_;apply ae5 h_;clear h_;intro i1 i2 i3 i4 iB
    wp_walk using 1,tSeq
    refine⟨by simp,F0,i1,i3,i4,?_⟩
    rw[lJb,lKy] at iB
    rw[hB,show W.length-at'=W.length-(at'+1)+1 by omega,bfsN_step hF,jUm hW,<-iB]
 ·rename_i hc
  exact kk p G1 F hp h1 h2 (by rw[hB,bfsN_done (by rw[jJk,lJb] at hc;omega)]) h3
structure Turn (m:Nat) (σ:List Nat):Prop where
 len:σ.length=m
 nd:σ.Nodup
 lt:∀x,x∈σ->x<m
def Invol (σ:List Nat):Prop:=∀(k x:Nat),σ[k]? =some x->σ[x]? =some k
theorem Turn.at {m:Nat} {σ:List Nat} (h:Turn m σ) {k:Nat} (hk:k<m):∃x,σ[k]? =some x/\x<m:=by
 have hk':k<σ.length:=by rw[h.len];exact hk
 exact⟨σ[k],lJc hk',h.lt _ (List.getElem_mem hk')⟩
theorem Turn.onto {m:Nat} {σ:List Nat} (h:Turn m σ) {x:Nat} (hx:x<m):∃k,k<m/\σ[k]? =some x:=by
 obtain⟨k,hk⟩:=lJs (kKf h.nd h.lt h.len x hx)
 exact⟨k,by rw[<-h.len];exact (lJa.mp hk).1,hk⟩
theorem Turn.inj {m:Nat} {σ:List Nat} (h:Turn m σ) {k k' x:Nat} (h1:σ[k]? =some x) (h2:σ[k']? =some x):k=k':=
 (lK2 (lJa.mp h1).1 h.nd).mp (h1.trans h2.symm)
theorem Invol.turn {m:Nat} {σ:List Nat} (hl:σ.length=m) (h:Invol σ):Turn m σ where
 len:=hl
 nd:=by
  unfold List.Nodup
  refine List.pairwise_iff_getElem.mpr ?_
  intro i j hi hj hij e
  have h1:=h j _ (lJc hj)
  have h2:=h i _ (lJc hi)
  rw[e,h1] at h2;cases h2;omega
 lt:=fun x hx=>by
  obtain⟨k,hk⟩:=lJs hx
  rw[<-hl];exact (lJa.mp (h k x hk)).1
theorem Invol.swap {σ:List Nat} {a b:Nat} (h:Invol σ) (ha:σ[a]? =some a) (hb:σ[b]? =some b) (hab:a≠b):Invol ((σ.set a b).set b a):=by
 have hal:=(lJa.mp ha).1
 have hbl:=(lJa.mp hb).1
 have gt:∀k,((σ.set a b).set b a)[k]? =if k=b then some a else if k=a then some b else σ[k]? :=by
  intro k
  by_cases h1:k=b
  ·subst h1;rw[if_pos rfl,lJ1 (by simpa using hbl)]
  ·rw[if_neg h1,lJx (fun z=>h1 z.symm)]
   by_cases h2:k=a
   ·subst h2;rw[if_pos rfl,lJ1 hal]
   ·rw[if_neg h2,lJx (fun z=>h2 z.symm)]
 intro k x hk
 rw[gt] at hk ⊢
 by_cases h1:k=b
 ·subst h1;rw[if_pos rfl] at hk;cases hk
  rw[if_neg hab,if_pos rfl]
 ·rw[if_neg h1] at hk
  by_cases h2:k=a
  ·subst h2;rw[if_pos rfl] at hk;cases hk
   rw[if_pos rfl]
  ·rw[if_neg h2] at hk
   have hx:=h k x hk
   have h3:x≠b:=by rintro rfl;rw[hb] at hx;cases hx;exact h1 rfl
   have h4:x≠a:=by rintro rfl;rw[ha] at hx;cases hx;exact h2 rfl
   rw[if_neg h3,if_neg h4];exact hx
noncomputable def jQi:Sp3:=fun xs G Q=>∃(b:Addr) (m n:Nat) (own:Bool),xs=[.ref b,.int m,.bl own]/\BoxAt G b n/\n+m<2^40/\1<=m/\m<=1000/\∀ σ G',Turn m σ->(own=true->Invol σ)->BoxAt G' b (n+m)->Keep b G G'->Q (.tup (jJk σ)) G'
noncomputable def N_l_turn:List Str:=["_law_box_here","_law_many","_law_own","_law_order","_law_k","_law_turn_here","_law_one","_law_other"]
noncomputable def jY1:TS3:=
 (tSeq (tAsg (tLst tNil) (jJj 3))
 (tSeq (tFor (jKv (jJa (tVar 1) tNil)) (jJj 4) (jUk (tBM "list" kKc (tVar 3) (jJa (jJo jJh (jJa (tVar 0) (jJa (tOp jKk (tVar 4) (tC (.int 1))) tNil))) (jJa (tVar 4) tNil)))))
 (tSeq (tIfS (tNot (tTru rTru (tVar 2))) (tRet (tCB jKm (jJa (tVar 3) tNil))) jK5)
 (tSeq (tAsg (jX2 (jJa (tVar 1) tNil)) (jJj 5))
 (tSeq (tFor (iRng3 (jJa (tC (.int 0)) (jJa (tOp rSub (tVar 1) (tC (.int 1))) (jJa (tC (.int 2)) tNil)))) (jJj 4) (tSeq (tPar 6 7 (jJa (tOp rIxF (tVar 3) (tVar 4)) (jJa (tOp rIxF (tVar 3) (tOp jKk (tVar 4) (tC (.int 1)))) tNil)))
 (tSeq (tAsg (tVar 7) (gSub (tVar 5) (tVar 6) jXx))
 (tAsg (tVar 6) (gSub (tVar 5) (tVar 7) jXx)))))
 (tRet (tCB jKm (jJa (tVar 5) tNil))))))))
theorem rdok_l_turn:∀xs G Q,jQi xs G Q->jY1 {nx:=fun _ G'=>Q .non G',rt:=Q} (jJm N_l_turn xs) G:=by
 intro xs G Q h_;apply xe4 h_;clear h_;intro b m n own h_;apply ae5 h_;clear h_;intro hb hn hm1 hm2 kk
 rw[show jJm N_l_turn [.ref b,.int m,.bl own]=[some (.ref b),some (.int m),some (.bl own),none,none,none,none,none] from rfl]
 have hs:=sz
 obtain⟨bo,hbo⟩:=hb.some
 wp_walk using 1,jY1,jJ5,jKv,iRng3,jX2
 refine⟨lJn _,fun o ho=>⟨by omega,by omega,?_⟩⟩
 have hob:=jJe hbo ho
 rw[show ((m:Int)).toNat=m by omega]
 refine⟨fun k τ G'=>∃(v4:Option T) (σ:List Nat),τ=[some (.ref b),some (.int m),some (.bl own),some (.ref o),v4,none,none,none]/\G' o=some (.lst (jJk σ))/\Turn k σ/\BoxAt G' b (n+k)/\Keep b G G',?_,?_,?_,?_⟩
 ·exact⟨none,[],rfl,jJg,⟨rfl,List.nodup_nil,fun x hx=>by cases hx⟩,hb.gup hob,.new ho⟩
 ·intros;trivial
 ·intro k x τ G1 hx h_;apply xe2 h_;clear h_;intro v4 σ h_;apply ae4 h_;clear h_;intro h1 h2 h3 h4
  obtain⟨hk,rfl⟩:=jYy hx
  wp_walk using 1,jQg h1
  refine⟨b,_,n+k,rfl,h3,by omega,by omega,by omega,fun c G2 c0 c1 bx kp=> ?_⟩
  have h1':=kp _ _ hob.symm h1
  refine⟨jJk σ,c,rfl,h1',c0,by rw[jJk,lJb,h2.len];omega,by rw[jJk,lJb,h2.len];omega,σ.take c.toNat++k::σ.drop c.toNat,?_,⟨?_,?_,?_⟩,bx.gup hob,(h4.trans kp).over ho⟩
  ·simp[insT,jJk,List.map_take,List.map_drop]
  ·rw[ins_perm.length_eq,lJl,h2.len];rfl
  ·rw[ins_perm.nodup_iff,lK1]
   exact⟨h2.nd,by simp,fun a ha e he=>by rw[lJp] at he;subst he;have:=h2.lt a ha;omega⟩
  ·intro x hx
   rw[ins_perm.mem_iff,lJu,lJp] at hx
   rcases hx with hx | rfl
   ·have:=h2.lt x hx;omega
   ·omega
 ·intro τ G1 h_;apply xe2 h_;clear h_;intro v4 σ h_;apply ae4 h_;clear h_;intro h1 h2 h3 h4
  rw[jKq] at h2 h3
  wp_walk using 1,jJp h1
  cases own with
  | false=>exact kk σ G1 h2 (fun z=>by cases z) h3 h4
  | true=>
   wp_walk using 1,jJ5,iRng3,jX2
   refine⟨by omega,by omega,fun t ht=> ?_⟩
   have hto:=jJe h1 ht
   have htb:b≠t:=by obtain⟨u,hu⟩:=h3.some;exact jJe hu ht
   have ht0:=h4.none htb.symm ht
   have hsm:Builtin.Range.small 0 ((m:Int)-1) 2=true:=by
    unfold Builtin.Range.small Builtin.Range.rangeSize
    simp only[Builtin.Range.rangeFitsLong,lJ3,Bool.or_eq_true,decide_eq_true_eq,beq_iff_eq,show (2:Int)>0 by decide,if_true]
    split<;>omega
   refine⟨by decide,by decide,hsm,?_⟩
   have hN:(Builtin.Range.rangeSize 0 ((m:Int)-1) 2).toNat=m / 2:=by
    unfold Builtin.Range.rangeSize;rw[if_pos (by decide)]
    split<;>omega
   rw[hN,show ((m:Int)).toNat=m by omega,jXf]
   refine⟨fun k τ G'=>∃(v4 v6 v7:Option T) (ρ:List Nat),τ=[some (.ref b),some (.int m),some (.bl true),some (.ref o),v4,some (.ref t),v6,v7]/\G' t=some (.lst (jJk ρ))/\G' o=some (.lst (jJk σ))/\Invol ρ/\ρ.length=m/\(∀i x,2*k<=i->σ[i]? =some x->ρ[x]? =some x)/\BoxAt G' b (n+m)/\Keep b G G',?_,?_,?_,?_⟩
   ·refine⟨_,_,_,List.range m,rfl,jJg,by rw[jJt hto];exact h1,?_,by simp,?_,h3.gup htb,h4.over ht0⟩
    ·intro k x hk
     obtain⟨q1,q2⟩:=lJa.mp hk
     simp at q1 q2;subst q2;exact hk
    ·intro i x _ hx
     have:=h2.lt x (lJg hx)
     simp[this]
   ·intros;trivial
   ·intro k x τ G2 hx h_;apply xe4 h_;clear h_;intro v4 v6 v7 ρ h_;apply ae7 h_;clear h_;intro i1 i2 i3 i4 i5 i6 i7
    obtain⟨hk,rfl⟩:k<m / 2/\x= .int ((2*k:Nat):Int):=by
     obtain⟨q1,q2⟩:=lJa.mp hx
     simp[rngS] at q1 q2;refine⟨q1,?_⟩;rw[<-q2];congr 1;omega
    obtain⟨a,ha,_⟩:=h2.at (show 2*k<m by omega)
    obtain⟨c,hc,_⟩:=h2.at (show 2*k+1<m by omega)
    have hca:L2.atI (jJk σ) ((2*k:Nat):Int)=some (.int (a:Nat)):=by rw[atN];simp[jJk,ha]
    have hcc:L2.atI (jJk σ) (((2*k:Nat):Int)+1)=some (.int (c:Nat)):=by rw[show ((2*k:Nat):Int)+1=((2*k+1:Nat):Int) by omega,atN];simp[jJk,hc]
    have hac:a≠c:=by rintro rfl;have:=h2.inj ha hc;omega
    have fa:=i5 (2*k) a (lJd _) ha
    have fc:=i5 (2*k+1) c (by omega) hc
    have hal:a<ρ.length:=(lJa.mp fa).1
    have hcl:c<ρ.length:=(lJa.mp fc).1
    have ixa:L2.ixN (jJk ρ).length (a:Int)=some a:=kVk (by rw[jJk,lJb];exact hal)
    have ixc:L2.ixN ((jJk ρ).set a (.int (c:Nat))).length (c:Int)=some c:=kVk (by rw[lKo,jJk,lJb];exact hcl)
    wp_walk using 1,jJ2 i2,hca,hcc,jYx i1 ixa,ixc
    have e1:((jJk ρ).set a (.int (c:Nat))).set c (.int (a:Nat))=jJk ((ρ.set a c).set c a):=by simp[jJk,List.map_set]
    rw[e1]
    refine⟨(ρ.set a c).set c a,rfl,by rw[jJt hto];exact i2,i3.swap fa fc hac,by simp[i4],?_,i6.gup htb,i7.over ht0⟩
    intro i x hi hx
    have hxa:a≠x:=by rintro rfl;have:=h2.inj ha hx;omega
    have hxc:c≠x:=by rintro rfl;have:=h2.inj hc hx;omega
    rw[lJx hxc,lJx hxa]
    exact i5 i x (by omega) hx
   ·intro τ G2 h_;apply xe4 h_;clear h_;intro v4 v6 v7 ρ h_;apply ae7 h_;clear h_;intro i1 i2 i3 i4 i5 i6 i7
    wp_walk using 1,jJp i1
    exact kk ρ G2 (i3.turn i4) (fun _=>i3) i6 i7
structure TurnsOk (W:Web) (m:Nat) (Ts:List (List Nat)):Prop where
 len:Ts.length=(jQ0 W).length
 ok:∀(t:Nat) (x:Tie) (σ:List Nat),(jQ0 W)[t]? =some x->Ts[t]? =some σ->Turn m σ/\(x.1=x.2->Invol σ)
def Bel (W:Web) (Ts:List (List Nat)) (x i y j:Nat):Prop:=∃(t:Nat) (e f:Nat×Nat) (σ:List Nat) (k k':Nat),(jQ0 W)[t]? =some (e,f)/\Ts[t]? =some σ/\σ[k]? =some k'/\
 ((x=e.1+k*W.length/\i=e.2/\y=f.1+k'*W.length/\j=f.2)\/(y=e.1+k*W.length/\j=e.2/\x=f.1+k'*W.length/\i=f.2))
theorem Bel.symm {W:Web} {Ts:List (List Nat)} {x i y j:Nat} (h:Bel W Ts x i y j):Bel W Ts y j x i:=by
 obtain⟨t,e,f,σ,k,k',h1,h2,h3,h4⟩:=h
 exact⟨t,e,f,σ,k,k',h1,h2,h3,h4.symm⟩
theorem spl {n r k r' k':Nat} (h1:r<n) (h2:r'<n) (h:r+k*n=r'+k'*n):r=r'/\k=k':=by
 have e1:(r+k*n)%n=r:=by rw[Nat.add_mul_mod_self_right,lKh h1]
 have e2:(r'+k'*n)%n=r':=by rw[Nat.add_mul_mod_self_right,lKh h2]
 have hn:0<n:=by omega
 have e3:(r+k*n) / n=k:=by rw[Nat.add_mul_div_right _ _ hn,Nat.div_eq_of_lt h1,Nat.zero_add]
 have e4:(r'+k'*n) / n=k':=by rw[Nat.add_mul_div_right _ _ hn,Nat.div_eq_of_lt h2,Nat.zero_add]
 rw[h] at e1 e3
 exact⟨e1.symm.trans e2,e3.symm.trans e4⟩
theorem kUm {W:Web} {t:Nat} {x:Tie} (h:(jQ0 W)[t]? =some x):en W x.1.1 x.1.2=some x.2/\leE x.1 x.2=true:=endsL_mem.mp (lJg h)
theorem kUl {W:Web} {t t':Nat} {x:Tie} (h:(jQ0 W)[t]? =some x) (h':(jQ0 W)[t']? =some x):t=t':=(lK2 (lJa.mp h).1 endsL_nodup).mp (h.trans h'.symm)
theorem Bel.fn {W:Web} {m:Nat} {Ts:List (List Nat)} {x i y j y' j':Nat} (hs:Sym W) (ok:TurnsOk W m Ts) (h:Bel W Ts x i y j) (h':Bel W Ts x i y' j'):y=y'/\j=j':=by
 obtain⟨t,e,f,σ,k,l,h1,h2,h3,h4⟩:=h
 obtain⟨t',e',f',σ',k',l',h1',h2',h3',h4'⟩:=h'
 obtain⟨q1,q2⟩:=kUm h1
 obtain⟨q1',q2'⟩:=kUm h1'
 have q1:en W e.1 e.2=some (f.1,f.2):=q1
 have q1':en W e'.1 e'.2=some (f'.1,f'.2):=q1'
 have qs:=hs _ _ _ _ q1
 have qs':=hs _ _ _ _ q1'
 have l1:=jZ7 q1
 have l2:=jZ7 qs
 have l1':=jZ7 q1'
 have l2':=jZ7 qs'
 obtain⟨e1,e2⟩:=e;obtain⟨f1,f2⟩:=f;obtain⟨e1',e2'⟩:=e';obtain⟨f1',f2'⟩:=f'
 obtain⟨T1,T2⟩:=ok.ok _ _ _ h1 h2
 simp only at *
 rcases h4 with ⟨rfl,rfl,rfl,rfl⟩ | ⟨rfl,rfl,rfl,rfl⟩<;>rcases h4' with ⟨z1,rfl,rfl,rfl⟩ | ⟨rfl,rfl,z1,rfl⟩
 ·obtain⟨rfl,rfl⟩:=spl l1 l1' z1
  rw[q1] at q1';cases q1'
  have:=kUl h1 h1';subst this
  rw[h2] at h2';cases h2'
  rw[h3] at h3';cases h3'
  exact⟨rfl,rfl⟩
 ·obtain⟨rfl,rfl⟩:=spl l1 l2' z1
  rw[q1] at qs';cases qs'
  have a1:=leE_iff.mp q2
  have a2:=leE_iff.mp q2'
  simp only at a1 a2
  have:e1=f1/\i=j:=by omega
  obtain⟨rfl,rfl⟩:=this
  have:=kUl h1 h1';subst this
  rw[h2] at h2';cases h2'
  have:=T2 rfl _ _ h3'
  rw[h3] at this;cases this
  exact⟨rfl,rfl⟩
 ·obtain⟨rfl,rfl⟩:=spl l2 l1' z1
  rw[qs] at q1';cases q1'
  have a1:=leE_iff.mp q2
  have a2:=leE_iff.mp q2'
  simp only at a1 a2
  have:e1=f1/\j=i:=by omega
  obtain⟨rfl,rfl⟩:=this
  have:=kUl h1 h1';subst this
  rw[h2] at h2';cases h2'
  have:=T2 rfl _ _ h3
  rw[h3'] at this;cases this
  exact⟨rfl,rfl⟩
 ·obtain⟨rfl,rfl⟩:=spl l2 l2' z1
  rw[qs] at qs';cases qs'
  have:=kUl h1 h1';subst this
  rw[h2] at h2';cases h2'
  have:=T1.inj h3 h3';subst this
  exact⟨rfl,rfl⟩
noncomputable def cl (M:List (List T)) (x i:Nat):Option T:=(M[x]?).bind fun ts=>ts[i]?
noncomputable def put (M:List (List T)) (x i:Nat) (v:T):List (List T):=match M[x]? with
 | some ts=>M.set x (ts.set i v)
 | none=>M
theorem kVw {M:List (List T)} {x i:Nat} {v:T} (h:cl M x i=some v):∃ts,M[x]? =some ts/\ts[i]? =some v:=by
 unfold cl at h
 cases e1:M[x]? with
 | none=>rw[e1] at h;cases h
 | some ts=>rw[e1] at h;exact⟨ts,rfl,h⟩
theorem cl_of {M:List (List T)} {x i:Nat} {ts:List T} (h1:M[x]? =some ts):cl M x i=ts[i]? :=by unfold cl;rw[h1];rfl
theorem cl_put {M:List (List T)} {x i:Nat} {v u:T} (h:cl M x i=some u) (x' i':Nat):cl (put M x i v) x' i'=if x'=x/\i'=i then some v else cl M x' i':=by
 obtain⟨ts,h1,h2⟩:=kVw h
 have hx:=(lJa.mp h1).1
 have hi:=(lJa.mp h2).1
 unfold put
 rw[h1]
 show cl (M.set x (ts.set i v)) x' i'=_
 by_cases hxx:x'=x
 ·subst hxx
  rw[cl_of (lJ1 hx),cl_of h1]
  by_cases hii:i'=i
  ·subst hii;rw[lJ1 hi,if_pos ⟨rfl,rfl⟩]
  ·rw[lJx (fun z=>hii z.symm),if_neg (fun z=>hii z.2)]
 ·rw[if_neg (fun z=>hxx z.1)]
  unfold cl
  rw[lJx (fun z=>hxx z.symm)]
structure SInv (W:Web) (m:Nat) (Ts:List (List Nat)) (M:List (List T)):Prop where
 len:M.length=m*W.length
 row:∀(x:Nat) (ts:List T),M[x]? =some ts->∃es,W[x%W.length]? =some es/\ts.length=es.length
 val:∀x i v,cl M x i=some v->v= .non\/∃y j,Bel W Ts x i y j/\v=encE (y,j)
def Fl (M:List (List T)) (x i:Nat):Prop:=∃e,cl M x i=some (encE e)
theorem SInv.at {W:Web} {m:Nat} {Ts:List (List Nat)} {M:List (List T)} {r i k:Nat} {e:Nat×Nat} (h:SInv W m Ts M) (hk:k<m) (he:en W r i=some e):∃ts,M[r+k*W.length]? =some ts/\i<ts.length:=by
 obtain⟨es,h1,h2⟩:=jK1 he
 have hr:=jZ7 he
 have hx:r+k*W.length<M.length:=by
  rw[h.len]
  have:(k+1)*W.length<=m*W.length:=lQd _ hk
  rw[lKw] at this;omega
 have hM:M[r+k*W.length]? =some M[r+k*W.length]:=lJc hx
 obtain⟨es',q1,q2⟩:=h.row _ _ hM
 rw[Nat.add_mul_mod_self_right,lKh hr,h1] at q1;cases q1
 exact⟨_,hM,by rw[q2];exact (lJa.mp h2).1⟩
theorem SInv.put {W:Web} {m:Nat} {Ts:List (List Nat)} {M:List (List T)} {x i y j:Nat} {ts:List T} (h:SInv W m Ts M) (hx:M[x]? =some ts) (hi:i<ts.length) (hb:Bel W Ts x i y j):
  SInv W m Ts (M.set x (ts.set i (encE (y,j))))/\Fl (M.set x (ts.set i (encE (y,j)))) x i/\∀x' i',Fl M x' i'->Fl (M.set x (ts.set i (encE (y,j)))) x' i':=by
 have hc:cl M x i=some ts[i]:=by rw[cl_of hx];exact lJc hi
 have hp:M.set x (ts.set i (encE (y,j)))=_root_.W.put M x i (encE (y,j)):=by unfold _root_.W.put;rw[hx]
 have hxl:=(lJa.mp hx).1
 refine⟨⟨by rw[lKo];exact h.len,fun x' ts' h'=> ?_,fun x' i' v hv=> ?_⟩,?_,fun x' i' ⟨e,he⟩=> ?_⟩
 ·by_cases hxx:x'=x
  ·subst hxx
   rw[lJ1 hxl] at h';cases h'
   rw[lKo];exact h.row _ _ hx
  ·rw[lJx (fun z=>hxx z.symm)] at h';exact h.row _ _ h'
 ·rw[hp,cl_put hc] at hv
  by_cases hxx:x'=x/\i'=i
  ·rw[if_pos hxx] at hv;cases hv
   obtain⟨rfl,rfl⟩:=hxx
   exact .inr ⟨y,j,hb,rfl⟩
  ·rw[if_neg hxx] at hv;exact h.val _ _ _ hv
 ·exact⟨(y,j),by rw[hp,cl_put hc,if_pos ⟨rfl,rfl⟩]⟩
 ·by_cases hxx:x'=x/\i'=i
  ·exact⟨(y,j),by rw[hp,cl_put hc,if_pos hxx]⟩
  ·exact⟨e,by rw[hp,cl_put hc,if_neg hxx];exact he⟩
structure Sheet (W:Web) (m:Nat) (V:Web):Prop where
 len:V.length=m*W.length
 row:∀(x:Nat) (ts:List (Nat×Nat)),V[x]? =some ts->∃es,W[x%W.length]? =some es/\ts.length=es.length
 sym:Sym V
def DoneS (W:Web) (m:Nat) (Ts:List (List Nat)) (M:List (List T)) (d:Nat->Nat->Prop):Prop:=∀t k e f σ k',d t k->(jQ0 W)[t]? =some (e,f)->Ts[t]? =some σ->σ[k]? =some k'->Fl M (e.1+k*W.length) e.2/\Fl M (f.1+k'*W.length) f.2
noncomputable def dec:T->Nat×Nat
 | .tup [.int a,.int b]=>(a.toNat,b.toNat)
 | _=>(0,0)
theorem kKv {e:Nat×Nat}:dec (encE e)=e:=by obtain⟨a,b⟩:=e;simp[encE,dec]
theorem sheet_of {W:Web} {m:Nat} {Ts:List (List Nat)} {M:List (List T)} (hs:Sym W) (ok:TurnsOk W m Ts) (h:SInv W m Ts M) (hd:DoneS W m Ts M fun t k=>t<(jQ0 W).length/\k<m):Sheet W m (M.map (List.map dec))/\M=(M.map (List.map dec)).map (List.map encE):=by
 have full:∀x i v,cl M x i=some v->Fl M x i:=by
  intro x i v hv
  obtain⟨ts,h1,h2⟩:=kVw hv
  obtain⟨es,q1,q2⟩:=h.row _ _ h1
  have hx:x<m*W.length:=by rw[<-h.len];exact (lJa.mp h1).1
  have hi:i<es.length:=by rw[<-q2];exact (lJa.mp h2).1
  have hW:0<W.length:=by rcases Nat.eq_zero_or_pos W.length with z | z;rw[z] at hx;omega;exact z
  have hk:x / W.length<m:=Nat.div_lt_of_lt_mul (by rw[Nat.mul_comm];exact hx)
  have hxe:x%W.length+x / W.length*W.length=x:=by rw[Nat.mul_comm];exact Nat.mod_add_div x W.length
  have he:=jQq q1 (lJc hi)
  generalize es[i]=e at he
  obtain⟨s,j⟩:=e
  by_cases hle:leE (x%W.length,i) (s,j)=true
  ·obtain⟨t,ht⟩:=lJs (endsL_mem (x:=((x%W.length,i),(s,j))).mpr ⟨he,hle⟩)
   have htl:=(lJa.mp ht).1
   have htT:t<Ts.length:=by rw[ok.len];exact htl
   have hσ:Ts[t]? =some Ts[t]:=lJc htT
   obtain⟨k',hk',_⟩:=(ok.ok _ _ _ ht hσ).1.at hk
   have:=(hd t _ _ _ _ _ ⟨htl,hk⟩ ht hσ hk').1
   simp only at this
   rw[hxe] at this;exact this
  ·have hle2:leE (s,j) (x%W.length,i)=true:=by
    rw[leE_iff] at hle ⊢; simp only at hle ⊢; omega
   obtain⟨t,ht⟩:=lJs (endsL_mem (x:=((s,j),(x%W.length,i))).mpr ⟨hs _ _ _ _ he,hle2⟩)
   have htl:=(lJa.mp ht).1
   have htT:t<Ts.length:=by rw[ok.len];exact htl
   have hσ:Ts[t]? =some Ts[t]:=lJc htT
   obtain⟨k0,hk0,hk1⟩:=(ok.ok _ _ _ ht hσ).1.onto hk
   have:=(hd t _ _ _ _ _ ⟨htl,hk0⟩ ht hσ hk1).2
   simp only at this
   rw[hxe] at this;exact this
 have enM:∀x i e,en (M.map (List.map dec)) x i=some e->cl M x i=some (encE e)/\Bel W Ts x i e.1 e.2:=by
  intro x i e he
  obtain⟨es,h1,h2⟩:=jK1 he
  rw[lJf] at h1
  cases e1:M[x]? with
  | none=>rw[e1] at h1;cases h1
  | some ts=>
   rw[e1] at h1;cases h1
   rw[lJf] at h2
   cases e2:ts[i]? with
   | none=>rw[e2] at h2;cases h2
   | some v=>
    rw[e2] at h2;cases h2
    have hc:cl M x i=some v:=by rw[cl_of e1];exact e2
    obtain⟨e',he'⟩:=full x i v hc
    rw[hc] at he';cases he'
    rw[kKv]
    refine⟨hc,?_⟩
    rcases h.val _ _ _ hc with z | ⟨y,j,hb,z⟩
    ·cases z
    ·have:e'=(y,j):=by rw[<-kKv (e:=e'),z,kKv]
     rw[this];exact hb
 have toM:∀x i e,cl M x i=some (encE e)->en (M.map (List.map dec)) x i=some e:=by
  intro x i e he
  obtain⟨ts,h1,h2⟩:=kVw he
  exact jQq (es:=ts.map dec) (by simp[h1]) (by simp[h2,kKv])
 refine⟨⟨by rw[lJb];exact h.len,fun x ts hx=> ?_,fun x i y j he=> ?_⟩,?_⟩
 ·rw[lJf] at hx
  cases e1:M[x]? with
  | none=>rw[e1] at hx;cases hx
  | some us=>
   rw[e1] at hx;cases hx
   rw[lJb];exact h.row _ _ e1
 ·obtain⟨h1,h2⟩:=enM x i (y,j) he
  have h3:Bel W Ts y j x i:=h2.symm
  have hin:∃v,cl M y j=some v:=by
   obtain⟨t,e,f,σ,k,k',q1,q2,q3,q4⟩:=h3
   obtain⟨z1,z2⟩:=kUm q1
   have z1:en W e.1 e.2=some (f.1,f.2):=z1
   have T1:=(ok.ok _ _ _ q1 q2).1
   have hk:k<m:=by rw[<-T1.len];exact (lJa.mp q3).1
   have hk':k'<m:=T1.lt _ (lJg q3)
   rcases q4 with ⟨a1,a2,_,_⟩ | ⟨_,_,a1,a2⟩
   ·obtain⟨ts,b1,b2⟩:=h.at hk z1
    exact⟨ts[e.2],by rw[a1,a2,cl_of b1];exact lJc b2⟩
   ·obtain⟨ts,b1,b2⟩:=h.at hk' (hs _ _ _ _ z1)
    exact⟨ts[f.2],by rw[a1,a2,cl_of b1];exact lJc b2⟩
  obtain⟨v,hv⟩:=hin
  obtain⟨e',he'⟩:=full y j v hv
  have h4:=toM y j e' he'
  obtain⟨_,h5⟩:=enM y j e' h4
  obtain⟨a1,a2⟩:=Bel.fn hs ok h3 h5
  rw[h4,<-show (e'.1,e'.2)=e' from rfl,<-a1,<-a2]
 ·rw[lJw]
  conv=>lhs;rw[<-List.map_id M]
  apply List.map_congr_left
  intro ts hts
  show ts=(ts.map dec).map encE
  rw[lJw]
  conv=>lhs;rw[<-List.map_id ts]
  apply List.map_congr_left
  intro v hv
  obtain⟨x,hx⟩:=lJs hts
  obtain⟨i,hi⟩:=lJs hv
  obtain⟨e,he⟩:=full x i v (by rw[cl_of hx];exact hi)
  rw[cl_of hx,hi] at he;cases he
  show encE e=encE (dec (encE e))
  rw[kKv]
def RowsT (G:Gp) (h:Addr) (M:List (List T)) (rs:List Addr):Prop:=G h=some (.lst (rs.map T.ref))/\rs.length=M.length/\∀(i:Nat) (r:Addr),rs[i]? =some r->∃ts:List T,M[i]? =some ts/\G r=some (.lst ts)
theorem RowsT.set {G:Gp} {h:Addr} {M:List (List T)} {rs:List Addr} {r:Nat} {a:Addr} {ts:List T} (x:RowsT G h M rs) (hn:(h::rs).Nodup) (hr:rs[r]? =some a):RowsT (gup G a (.lst ts)) h (M.set r ts) rs:=by
 rw[lKc] at hn
 have hrl:r<rs.length:=(lJa.mp hr).1
 refine⟨by rw[jJt];exact x.1;rintro rfl;exact hn.1 (lJg hr),by rw[lKo];exact x.2.1,fun i c e=> ?_⟩
 by_cases hi:i=r
 ·subst hi
  rw[hr] at e;cases e
  exact⟨ts,by rw[lJ1];rw[<-x.2.1];exact hrl,jJg⟩
 ·obtain⟨us,h1,h2⟩:=x.2.2 i c e
  refine⟨us,by rw[lJx (Ne.symm hi)];exact h1,?_⟩
  rw[jJt];exact h2
  rintro rfl
  have hil:i<rs.length:=(lJa.mp e).1
  exact hi ((lK2 hil hn.2).mp (e.trans hr.symm))
theorem RowsT.get {G:Gp} {h:Addr} {M:List (List T)} {rs:List Addr} {x:Nat} {ts:List T} (R:RowsT G h M rs) (hx:M[x]? =some ts):∃a,rs[x]? =some a/\L2.atI (rs.map T.ref) (x:Int)=some (.ref a)/\G a=some (.lst ts):=by
 have hxl:x<rs.length:=by rw[R.2.1];exact (lJa.mp hx).1
 have hr:rs[x]? =some rs[x]:=lJc hxl
 obtain⟨us,h1,h2⟩:=R.2.2 x _ hr
 rw[hx] at h1;cases h1
 exact⟨_,hr,by rw[atN,lJf,hr];rfl,h2⟩
theorem rep_non {n:Nat}:(List.replicate n [T.non]).flatten=List.replicate n T.non:=by
 induction n with
 | zero=>rfl
 | succ n ih=>rw[lKd,lKv,ih];rfl
noncomputable def rowN (W:Web) (x:Nat):List T:=List.replicate ((W[x%W.length]?).getD []).length .non
theorem sinv_start {W:Web} {m:Nat} {Ts:List (List Nat)}:SInv W m Ts ((List.range (m*W.length)).map (rowN W)) where
 len:=by simp
 row:=fun x ts h=>by
  rw[lJf] at h
  cases e:(List.range (m*W.length))[x]? with
  | none=>rw[e] at h;cases h
  | some y=>
   rw[e] at h;cases h
   obtain⟨q1,q2⟩:=lJa.mp e
   simp at q1 q2;subst q2
   have hW:0<W.length:=by rcases Nat.eq_zero_or_pos W.length with z | z;rw[z] at q1;omega;exact z
   have hx:x%W.length<W.length:=Nat.mod_lt _ hW
   exact⟨W[x%W.length],lJc hx,by simp[rowN,hx]⟩
 val:=fun x i v h=>by
  obtain⟨ts,h1,h2⟩:=kVw h
  rw[lJf] at h1
  cases e:(List.range (m*W.length))[x]? with
  | none=>rw[e] at h1;cases h1
  | some y=>
   rw[e] at h1;cases h1
   have:=lJg h2
   unfold rowN at this
   exact .inl (List.mem_replicate.mp this).2
noncomputable def jKt:Sp3:=fun xs G Q=>∃(W:Web) (tr:Addr) (m:Nat) (Ts:List (List Nat)),xs=[encW W,.ref tr,.int m]/\Fine W/\Sym W/\1<=W.length/\1<=m/\m*W.length<=1000/\TurnsOk W m Ts/\G tr=some (.lst (Ts.map fun σ=>T.tup (jJk σ)))/\∀V G',Sheet W m V->Sub G G'->Q (encW V) G'
noncomputable def kK1:List Str:=["_law_web_here","_law_turns","_law_many","_law_made","_law_t","_law_one","_law_other","_law_k","_law_spot","_law_there","_law_n","_law_room"]
noncomputable def jVo:TS3:=
 (tSeq (tAsg (jQ3 [false,false,false,false,false,false,false,false,false,false,true,false] (jKv (jJa (tOp jXt (tVar 2) (tCB rLen (jJa (tVar 0) tNil))) tNil)) (jJj 10) jUo (tOp jXt (tLst (jJa (tC .non) tNil)) (tCB rLen (jJa (tOp rIxF (tVar 0) (tOp rMod (tVar 10) (tCB rLen (jJa (tVar 0) tNil)))) tNil)))) (jJj 3))
 (tSeq (tFor (jZ4 (jJa (jJo jQk (jJa (tVar 0) tNil)) tNil)) (gTup 2 (jKb (jJj 4) (jKb (gTup 2 (jKb (jJj 5) (jKb (jJj 6) gNil))) gNil))) (tFor (jKv (jJa (tVar 2) tNil)) (jJj 7) (tSeq (tAsg (tOp jKk (tOp rIxF (tVar 5) (tC (.int 0))) (tOp jXt (tVar 7) (tCB rLen (jJa (tVar 0) tNil)))) (jJj 8))
 (tSeq (tAsg (tOp jKk (tOp rIxF (tVar 6) (tC (.int 0))) (tOp jXt (tOp rIxF (tOp rIxF (tVar 1) (tVar 4)) (tVar 7)) (tCB rLen (jJa (tVar 0) tNil)))) (jJj 9))
 (tSeq (tAsg (tTup (jJa (tVar 9) (jJa (tOp rIxF (tVar 6) (tC (.int 1))) tNil))) (gSub (tOp rIxF (tVar 3) (tVar 8)) (tOp rIxF (tVar 5) (tC (.int 1))) jXx))
 (tAsg (tTup (jJa (tVar 8) (jJa (tOp rIxF (tVar 5) (tC (.int 1))) tNil))) (gSub (tOp rIxF (tVar 3) (tVar 9)) (tOp rIxF (tVar 6) (tC (.int 1))) jXx)))))))
 (tRet (tCB jKm (jJa (jQ3 [false,false,false,false,false,false,false,false,false,false,false,true] (iSeq (tVar 3)) (jJj 11) jUo (tCB jKm (jJa (tVar 11) tNil))) tNil)))))
theorem kQa:∀xs G Q,jKt xs G Q->jVo {nx:=fun _ G'=>Q .non G',rt:=Q} (jJm kK1 xs) G:=by
 intro xs G Q h_;apply xe4 h_;clear h_;intro W tr m Ts h_;apply ae8 h_;clear h_;intro fine sym hW1 hm1 hmn ok htr kk
 rw[show jJm kK1 [encW W,.ref tr,.int m]=[some (.tup (W.map encR)),some (.ref tr),some (.int m),none,none,none,none,none,none,none,none,none] from rfl]
 have hs:=sz
 have hl:=fine.len
 have hm2:m<=1000:=lJo (Nat.le_mul_of_pos_right m hW1) hmn
 wp_walk using 1,jVo,jJ5,jKv,jZ4,iSeq,lJb
 have hcast:(m:Int)*(W.length:Int)=((m*W.length:Nat):Int):=by simp
 rw[hcast]
 refine⟨.inr ⟨by omega,by omega⟩,by omega,by omega,?_⟩
 rw[show ((m*W.length:Nat):Int).toNat=m*W.length by omega,jXf]
 refine jZ8 (rowN W) (by simp;omega) (fun _ _=>trivial) ?_ ?_
 ·intro x x' hx G' K K0 s hk
  obtain⟨q1,q2⟩:=lJa.mp hx
  simp at q1 q2;subst q2
  have hmod:x%W.length<W.length:=Nat.mod_lt _ hW1
  have hWx:W[x%W.length]? =some W[x%W.length]:=lJc hmod
  have hrow:rowN W x=List.replicate (W[x%W.length]).length .non:=by simp[rowN,hWx]
  rw[hrow] at hk
  generalize W[x%W.length]=es at hWx hk
  have hes:=fine.row _ _ hWx
  wp_walk using 1,lJb,show (x:Int)%(W.length:Int)=((x%W.length:Nat):Int) by simp,jQe hWx,encR
  refine⟨by omega,fun p hp=>⟨by omega,.newL (List.replicate es.length .non),?_,?_⟩⟩
  ·rw[<-rep_non]
   simp only[mulR,jJg];rw[if_pos];congr;refine⟨?_,?_,?_⟩<;>simp<;>omega
  ·rw[jYw]
   intro q hq
   have hq0:=(jQz hq).2
   exact hk q _ hq0 jJg ((Sub.new hp).over hq0)
 ·intro D rs G1 hD hD1 s1 hrl hnd hrs
  rw[lKl] at hrl
  have hfr:∀r,r∈rs->G r=none:=by
   intro r z
   obtain⟨j,hj⟩:=lJs z
   have hjl:j<rs.length:=(lJa.mp hj).1
   exact (hrs j r j hj (by rw[lKs (by omega)])).1
  refine⟨W,rfl,fine,fun pe G2 hpe hG2 hlen s2=> ?_⟩
  have hpn:∀r,r∈rs->pe≠r:=by
   rintro r z rfl
   obtain⟨j,hj⟩:=lJs z
   have hjl:j<rs.length:=(lJa.mp hj).1
   have:=(hrs j pe j hj (by rw[lKs (by omega)])).2
   rw[this] at hpe;cases hpe
  refine⟨(jQ0 W).map encT,by simp only[jV8,hG2,asL],?_⟩
  let J1:Nat->St3->Gp->Prop:=fun t τ G'=>∃(v4 v5 v6 v7 v8 v9:Option T) (M:List (List T)),τ=[some (.tup (W.map encR)),some (.ref tr),some (.int m),some (.ref D),v4,v5,v6,v7,v8,v9,none,none]/\RowsT G' D M rs/\SInv W m Ts M/\DoneS W m Ts M (fun t' k=>t'<t/\k<m)/\Sub G G'/\G' pe=some (.lst ((jQ0 W).map encT))
  refine⟨J1,?_,?_,?_,?_⟩
  ·refine xi7 none none none none none none ((List.range (m*W.length)).map (rowN W)) rfl ⟨⟨s2 _ _ hD1,by simp[hrl],fun i r hi=> ?_⟩,sinv_start,fun t k e f σ k' h=>absurd h.1 (lQc _),s1.trans s2,hG2⟩
   have hil:i<m*W.length:=by rw[<-hrl];exact (lJa.mp hi).1
   exact⟨rowN W i,by simp[hil],s2 _ _ (hrs i r i hi (by simp[hil])).2⟩
  ·intro t τ G' ht h_;apply xe7 h_;clear h_;intro v4 v5 v6 v7 v8 v9 M h_;apply ae5 h_;clear h_;intro i1 i2 i3 i4 i5
   simp only[jV8,i5,asL]
  ·intro t x τ G3 hx h_;apply xe7 h_;clear h_;intro v4 v5 v6 v7 v8 v9 M h_;apply ae5 h_;clear h_;intro i1 i2 i3 i4 i5
   have ht:t<(jQ0 W).length:=by have:=(lJa.mp hx).1;simpa[kJw] using this
   have hte:(jQ0 W)[t]? =some (jQ0 W)[t]:=lJc ht
   rw[jXm (x:=encT (jQ0 W)[t]) (by simp[ht])] at hx
   cases hx
   generalize (jQ0 W)[t]=x at hte
   obtain⟨e,f⟩:=x
   have htT:t<Ts.length:=by rw[ok.len];exact ht
   have hσ:Ts[t]? =some Ts[t]:=lJc htT
   generalize Ts[t]=σ at hσ
   obtain⟨T1,T2⟩:=ok.ok _ _ _ hte hσ
   have hef:en W e.1 e.2=some (f.1,f.2):=(kUm hte).1
   have hfe:=sym _ _ _ _ hef
   wp_walk using 1,jJ5,jKv,encT
   refine⟨by omega,by omega,?_⟩
   rw[show ((m:Int)).toNat=m by omega]
   let J2:Nat->St3->Gp->Prop:=fun k τ G'=>∃(v7 v8 v9:Option T) (M:List (List T)),τ=[some (.tup (W.map encR)),some (.ref tr),some (.int m),some (.ref D),some (.int t),some (encE e),some (encE f),v7,v8,v9,none,none]/\RowsT G' D M rs/\SInv W m Ts M/\DoneS W m Ts M (fun t' k'=>(t'<t/\k'<m)\/(t'=t/\k'<k))/\Sub G G'/\G' pe=some (.lst ((jQ0 W).map encT))
   refine⟨J2,?_,?_,?_,?_⟩
   ·refine xi4 v7 v8 v9 M rfl ⟨i1,i2,fun t' k e f σ k' h=> ?_,i4,i5⟩
    rcases h with h | h
    ·exact i3 t' k e f σ k' h
    ·exact absurd h.2 (lQc _)
   ·intros;trivial
   ·intro k x τ G4 hx h_;apply xe4 h_;clear h_;intro v7 v8 v9 M h_;apply ae5 h_;clear h_;intro i1 i2 i3 i4 i5
    obtain⟨hk,rfl⟩:=jYy hx
    obtain⟨k',hk',hkm⟩:=T1.at hk
    have hb1:Bel W Ts (e.1+k*W.length) e.2 (f.1+k'*W.length) f.2:=⟨t,e,f,σ,k,k',hte,hσ,hk',.inl ⟨rfl,rfl,rfl,rfl⟩⟩
    obtain⟨ts,m1,m2⟩:=i2.at hk hef
    obtain⟨a,a1,a2,a3⟩:=i1.get m1
    have ham:=lJg a1
    obtain⟨p1,p2,p3⟩:=i2.put m1 m2 hb1
    have q1:=i1.set (ts:=ts.set e.2 (encE (f.1+k'*W.length,f.2))) hnd a1
    obtain⟨us,m3,m4⟩:=p1.at hkm hfe
    obtain⟨c,c1,c2,c3⟩:=q1.get m3
    have hcm:=lJg c1
    obtain⟨p4,p5,p6⟩:=p1.put m3 m4 hb1.symm
    have q2:=q1.set (ts:=us.set f.2 (encE (e.1+k*W.length,e.2))) hnd c1
    have g2:L2.atI (Ts.map fun σ=>T.tup (jJk σ)) (t:Int)=some (.tup (jJk σ)):=by rw[atN];simp[hσ]
    have g3:L2.atI (jJk σ) (k:Int)=some (.int (k':Nat)):=by rw[atN];simp[jJk,hk']
    have b1:e.1+k*W.length<m*W.length:=by rw[<-i2.len];exact (lJa.mp m1).1
    have b2:f.1+k'*W.length<m*W.length:=by rw[<-p1.len];exact (lJa.mp m3).1
    have s8:(e.1:Int)+(k:Int)*(W.length:Int)=((e.1+k*W.length:Nat):Int):=by simp
    have s9:(f.1:Int)+(k':Int)*(W.length:Int)=((f.1+k'*W.length:Nat):Int):=by simp
    wp_walk using 1,encE,lJb,jJ2 (i4 _ _ htr),g2,g3,s8,s9,jJ2 i1.1,a2,jYx a3 (kVk m2)
    refine⟨.inr ⟨by omega,by omega⟩,.inr ⟨by omega,by omega⟩,by omega,by omega,.ref c,(jJ2 q1.1).trans c2,_,jYx c3 (kVk m4),xi4 _ _ _ _ rfl ⟨q2,p4,?_,(i4.over (hfr a ham)).over (hfr c hcm),?_⟩⟩
    ·intro t' k0 e' f' σ' k1 h g4 g5 g6
     by_cases hh:t'=t/\k0=k
     ·obtain⟨rfl,rfl⟩:=hh
      rw[hte] at g4;cases g4
      rw[hσ] at g5;cases g5
      rw[hk'] at g6;cases g6
      exact⟨p6 _ _ p2,p5⟩
     ·obtain⟨z1,z2⟩:=i3 t' k0 e' f' σ' k1 (by omega) g4 g5 g6
      exact⟨p6 _ _ (p3 _ _ z1),p6 _ _ (p3 _ _ z2)⟩
    ·rw[jJt (hpn c hcm),jJt (hpn a ham)];exact i5
   ·intro τ G' h_;apply xe4 h_;clear h_;intro v7 v8 v9 M h_;apply ae5 h_;clear h_;intro i1 i2 i3 i4 i5
    rw[jKq] at i3
    refine xi7 _ _ _ _ _ _ M rfl ⟨i1,i2,fun t' k e f σ k' h=>i3 t' k e f σ k' ?_,i4,i5⟩
    by_cases hh:t'=t
    ·exact .inr ⟨hh,h.2⟩
    ·exact .inl ⟨by omega,h.2⟩
  ·intro τ G3 h_;apply xe7 h_;clear h_;intro v4 v5 v6 v7 v8 v9 M h_;apply ae5 h_;clear h_;intro i1 i2 i3 i4 i5
   rw[kJw,lJb] at i3
   obtain⟨sh,eM⟩:=sheet_of sym ok i2 i3
   wp_walk using 1,iSeq,jJp i1.1
   refine jQh (es:=rs) (fun r=>T.tup (match G3 r with | some (.lst ts)=>ts | _=>[])) (by omega) (fun G' s=>jJp (s _ _ i1.1)) ?_ ?_
   ·intro i r hr G4 K K0 s hk
    obtain⟨ts,z1,z2⟩:=i1.2.2 i r hr
    wp_walk using 1,jJp (s _ _ z2)
    have:=hk G4 (.refl _)
    rw[z2] at this
    exact this
   ·intro E G4 hE h4 s4
    refine⟨_,jJp h4,?_⟩
    have e1:rs.map (fun r=>T.tup (match G3 r with | some (.lst ts)=>ts | _=>[]))=(M.map (List.map dec)).map encR:=by
     have e2:(M.map (List.map dec)).map encR=M.map T.tup:=by
      conv=>rhs;rw[eM]
      rw[lJw,lJw,lJw];rfl
     rw[e2]
     apply lJ8
     intro i
     by_cases hi:i<rs.length
     ·have hri:rs[i]? =some rs[i]:=lJc hi
      obtain⟨ts,z1,z2⟩:=i1.2.2 i _ hri
      rw[lJf,lJf,hri,z1]
      simp only[lKx,z2]
     ·rw[lJh (by rw[lJb];omega),lJh (by rw[lJb,<-i1.2.1];omega)]
    rw[e1]
    exact kk _ G4 sh (i4.trans s4)
def Cov (W:Web) (m:Nat) (V:Web):Prop:=V=W\/(Sheet W m V/\Conn V)
theorem Sheet.fine {W V:Web} {m:Nat} (h:Sheet W m V) (f:Fine W) (hm:m*W.length<=1000):Fine V where
 len:=by rw[h.len];exact hm
 row:=fun x ts hx=>by obtain⟨es,h1,h2⟩:=h.row x ts hx;rw[h2];exact f.row _ _ h1
 rng:=fun r i s j he=>jZ7 (h.sym _ _ _ _ he)
theorem Found.conn {V:Web} {F:List Nat} (h:Found V 0 F) (hl:F.length=V.length):Conn V:=fun S h0 hst r hr=>h.got S h0 hst r (kKf h.nd h.lt hl r hr)
theorem eqG_enc {G:Gp} {e f:Nat×Nat}:eqG G (encE e) (encE f)=some (decide (e=f)):=by
 obtain⟨a,b⟩:=e;obtain⟨c,d⟩:=f
 rw[show eqG G (encE (a,b)) (encE (c,d))=some (eqT (encE (a,b)) (encE (c,d))) from rfl]
 congr 1
 simp only[encE,eqT,eqTs,Bool.and_true]
 by_cases h1:a=c
 ·by_cases h2:b=d
  ·simp[h1,h2]
  ·have:¬ (b:Int)=d:=by omega
   simp[h1,h2,this]
 ·have:¬ (a:Int)=c:=by omega
  simp[h1,this]
theorem jU6 {G:Gp} {a c:Nat}:eqG G (.int a) (.int c)=some (decide (a=c)):=by
 rw[show eqG G (.int a) (.int c)=some (eqT (.int a) (.int c)) from rfl]
 congr 1
 simp only[eqT]
 by_cases h1:a=c
 ·simp[h1]
 ·have:¬ (a:Int)=c:=by omega
  simp[h1,this]
noncomputable def jJ9:Sp3:=fun xs G Q=>∃(b:Addr) (W:Web) (m n:Nat),xs=[.ref b,encW W,.int m]/\BoxAt G b n/\n+3*((jQ0 W).length*m)<2^40/\Fine W/\Sym W/\1<=W.length/\1<=m/\m*W.length<=1000/\∀V G',Cov W m V->BoxAt G' b (n+3*((jQ0 W).length*m))->Keep b G G'->Q (encW V) G'
noncomputable def kK4:List Str:=["_law_box_here","_law_web_here","_law_many","_law_turn_here","_law_turns","_law_made","_law_pair"]
noncomputable def jVr:TS3:=
 (tSeq (tFor (jKv (jJa (tC (.int 3)) tNil)) (jJj 3) (tSeq (tAsg (jQ3 [false,false,false,false,false,false,true] (iSeq (jJo jQk (jJa (tVar 1) tNil))) (jJj 6) jUo (jJo jQi (jJa (tVar 0) (jJa (tVar 2) (jJa (tOp rEqA (tOp rIxF (tVar 6) (tC (.int 0))) (tOp rIxF (tVar 6) (tC (.int 1)))) tNil))))) (jJj 4))
 (tSeq (tAsg (jJo jKt (jJa (tVar 1) (jJa (tVar 4) (jJa (tVar 2) tNil)))) (jJj 5))
 (tIfS (jKe (tOp rEqA (tCB rLen (jJa (jJo jKu (jJa (tVar 5) (jJa (tC (.int 0)) tNil))) tNil)) (tCB rLen (jJa (tVar 5) tNil)))) (tRet (tVar 5)) jK5))))
 (tRet (tVar 1)))
theorem kQd:∀xs G Q,jJ9 xs G Q->jVr {nx:=fun _ G'=>Q .non G',rt:=Q} (jJm kK4 xs) G:=by
 intro xs G Q h_;apply xe4 h_;clear h_;intro b W m n h_;apply ae8 h_;clear h_;intro hb hn fine sym hW1 hm1 hmn kk
 rw[show jJm kK4 [.ref b,encW W,.int m]=[some (.ref b),some (encW W),some (.int m),none,none,none,none] from rfl]
 have hs:=sz
 have hm2:m<=1000:=lJo (Nat.le_mul_of_pos_right m hW1) hmn
 wp_walk using 1,jVr,jJ5,jKv
 refine⟨by decide,by decide,?_⟩
 refine⟨fun k τ G'=>∃(v3 v4 v5:Option T),τ=[some (.ref b),some (encW W),some (.int m),v3,v4,v5,none]/\BoxAt G' b (n+k*((jQ0 W).length*m))/\Keep b G G',?_,?_,?_,?_⟩
 ·exact⟨none,none,none,rfl,by simpa using hb,.refl _ _⟩
 ·intros;trivial
 ·intro k x τ G1 hx h_;apply xe3 h_;clear h_;intro v3 v4 v5 h_;apply ae2 h_;clear h_;intro hb1 kp1
  have hk:k<3:=by have:=(lJa.mp hx).1;rw[jKq] at this;exact this
  have hk3:(k+1)*((jQ0 W).length*m)<=3*((jQ0 W).length*m):=lQd _ (by omega)
  rw[lKw] at hk3
  obtain⟨bo,hbo⟩:=hb1.some
  wp_walk using 1,iSeq
  refine⟨W,rfl,fine,fun pe G2 hpe hG2 hlen s2=> ?_⟩
  have hpb:=jJe hbo hpe
  refine⟨_,jJp hG2,?_⟩
  intro D hD
  have hDb:=jJe (s2 _ _ hbo) hD
  have hDe:=jJe hG2 hD
  refine⟨fun i acc G'=>∃Ts:List (List Nat),acc=Ts.map (fun σ=>T.tup (jJk σ))/\Ts.length=i/\(∀(t:Nat) (x:Tie) (σ:List Nat),(jQ0 W)[t]? =some x->Ts[t]? =some σ->Turn m σ/\(x.1=x.2->Invol σ))/\BoxAt G' b (n+k*((jQ0 W).length*m)+i*m)/\Keep b G2 G'/\G' D=some (.lst acc),?_,?_,?_,?_⟩
  ·exact⟨[],rfl,rfl,fun t x σ _ h=>by simp at h,by simpa using (hb1.sub s2).gup hDb,.new hD,jJg⟩
  ·rintro i acc G' hi ⟨Ts,rfl,j1,j2,j3,j4,j5⟩
   exact⟨jJp (j4 _ _ hpb.symm hG2),j5⟩
  ·rintro i x acc G3 hx0 ⟨Ts,rfl,j1,j2,j3,j4,j5⟩
   obtain⟨⟨e,f⟩,hte,rfl⟩:=jUa hx0
   have hi:i<(jQ0 W).length:=(lJa.mp hte).1
   have him:(i+1)*m<=(jQ0 W).length*m:=lQd _ hi
   rw[lKw] at him
   wp_walk using 1,encT,rEqA,eqG_enc
   refine⟨b,m,_,_,rfl,j3,by omega,hm1,hm2,fun σ G4 T1 T2 bx kp=> ?_⟩
   refine⟨kp _ _ hDb.symm j5,by rw[lJb];omega,Ts++[σ],by simp,by simp[j1],?_,?_,?_⟩
   ·intro t y ρ h1 h2
    by_cases htl:t<Ts.length
    ·rw[lJy htl] at h2;exact j2 t y ρ h1 h2
    ·have htl2:t<(Ts++[σ]).length:=(lJa.mp h2).1
     simp at htl2
     have:t=Ts.length:=by omega
     subst this
     rw[lKn (lJd _)] at h2
     simp at h2;subst h2
     rw[j1,hte] at h1;cases h1
     exact⟨T1,fun z=>T2 (by simpa using z)⟩
   ·exact (bx.gup hDb).mono (by rw[lKw];omega)
   ·exact (j4.trans kp).over hD
  ·rintro acc G3 ⟨Ts,rfl,j1,j2,j3,j4,j5⟩
   rw[lJb] at j1 j3
   have hkp3:Keep b G G3:=(kp1.trans (.sub s2)).trans j4
   refine⟨W,D,m,Ts,rfl,fine,sym,hW1,hm1,hmn,⟨j1,j2⟩,j5,fun V G4 sh s4=> ?_⟩
   have hVl:1<=V.length:=by rw[sh.len];exact Nat.mul_pos hm1 hW1
   refine⟨V,0,rfl,sh.fine fine hmn,hVl,fun p G5 F hp hp5 fd _ s5=> ?_⟩
   wp_walk using 1,rEqA,jJp hp5,encW,jJk,lJb,jU6
   split
   ·rename_i hc
    have hc:F.length=V.length:=by simpa using hc
    exact kk V G5 (.inr ⟨sh,fd.conn hc⟩) (((j3.sub s4).sub s5).mono (by omega)) ((hkp3.trans (.sub s4)).trans (.sub s5))
   ·exact⟨((j3.sub s4).sub s5).mono (by rw[lKw];omega),(hkp3.trans (.sub s4)).trans (.sub s5)⟩
 ·intro τ G1 h_;apply xe3 h_;clear h_;intro v3 v4 v5 h_;apply ae2 h_;clear h_;intro hb1 kp1
  rw[jKq] at hb1
  wp_walk using 1,tSeq
  exact kk W G1 (.inl rfl) hb1 kp1
structure AnyWeb (W:Web):Prop where
 pos:1<=W.length
 len:W.length<=24
 sym:Sym W
 deg:∀(r:Nat) (es:List (Nat×Nat)),W[r]? =some es->es.length<=6
 conn:Conn W
theorem WebOk.any {n d:Nat} {W:Web} (h:WebOk n d W) (h1:1<=n) (h2:n<=24) (h3:d<=6):AnyWeb W:=⟨by rw[h.len];exact h1,by rw[h.len];exact h2,h.sym,fun r es hr=>lJo (h.deg r es hr) h3,h.conn⟩
theorem WebOk.fine {n d:Nat} {W:Web} (h:WebOk n d W) (h2:n<=24) (h3:d<=6):Fine W:=⟨by rw[h.len];omega,fun r es hr=>by have:=h.deg r es hr;omega,fun r i s j he=>jZ7 (h.sym _ _ _ _ he)⟩
theorem AnyWeb.fine {W:Web} (h:AnyWeb W):Fine W:=⟨by have:=h.len;omega,fun r es hr=>by have:=h.deg r es hr;omega,fun r i s j he=>jZ7 (h.sym _ _ _ _ he)⟩
theorem flat_len {α β:Type} {f:α->List β} {d:Nat}:∀ {l:List α},(∀a,a∈l->(f a).length<=d)->(l.flatMap f).length<=l.length*d
 | [],_=>by simp
 | a::l,h=>by
  rw[List.flatMap_cons,lJl,lJz,lKw]
  have h1:=h a (lKb)
  have h2:=flat_len (l:=l) fun x hx=>h x (lKa _ hx)
  omega
theorem ends_len {W:Web} {d:Nat} (h:∀(r:Nat) (es:List (Nat×Nat)),W[r]? =some es->es.length<=d):(jQ0 W).length<=W.length*d:=by
 have:=flat_len (f:=rowE W) (d:=d) (l:=List.range W.length) fun r hr=>by
  unfold rowE
  split
  ·rename_i es hes
   have h1:=List.length_filterMap_le (kJm r es) (List.range es.length)
   rw[lKl] at h1
   have h2:=h r es hes
   omega
  ·simp
 rwa [lKl] at this
noncomputable def jKa:Sp3:=fun xs G Q=>∃(b:Addr) (n:Nat),xs=[.ref b]/\BoxAt G b n/\n+1000<2^40/\∀W G',AnyWeb W->BoxAt G' b (n+1000)->Keep b G G'->Q (encW W) G'
noncomputable def kK5:List Str:=["_law_box_here","_law_way_here","_law_base","_law_many"]
noncomputable def jVs:TS3:=
 (tSeq (tAsg (jJo jJh (jJa (tVar 0) (jJa (tC (.int 8)) tNil))) (jJj 1))
 (tSeq (tIfS (jKe (tOp rEqA (tVar 1) (tC (.int 0)))) (tRet (jJo jQ7 (jJa (tVar 0) (jJa (tOp jKk (tC (.int 8)) (jJo jJh (jJa (tVar 0) (jJa (tC (.int 17)) tNil)))) (jJa (tOp jKk (tC (.int 3)) (jJo jJh (jJa (tVar 0) (jJa (tC (.int 4)) tNil)))) tNil))))) jK5)
 (tSeq (tIfS (jKe (tOp rLt (tVar 1) (tC (.int 4)))) (tRet (jJo jQ7 (jJa (tVar 0) (jJa (tOp jKk (tC (.int 1)) (jJo jJh (jJa (tVar 0) (jJa (tC (.int 7)) tNil)))) (jJa (tOp jKk (tC (.int 2)) (jJo jJh (jJa (tVar 0) (jJa (tC (.int 3)) tNil)))) tNil))))) jK5)
 (tSeq (tIfS (jKe (tOp rEqA (tVar 1) (tC (.int 4)))) (tRet (jJo jQ4 (jJa (tOp jKk (tC (.int 1)) (jJo jJh (jJa (tVar 0) (jJa (tC (.int 12)) tNil)))) tNil))) jK5)
 (tSeq (tAsg (jJo jQ7 (jJa (tVar 0) (jJa (tOp jKk (tC (.int 1)) (jJo jJh (jJa (tVar 0) (jJa (tC (.int 4)) tNil)))) (jJa (tOp jKk (tC (.int 2)) (jJo jJh (jJa (tVar 0) (jJa (tC (.int 2)) tNil)))) tNil)))) (jJj 2))
 (tSeq (tAsg (tOp jKk (tC (.int 2)) (jJo jJh (jJa (tVar 0) (jJa (tOp rIxF (tLst (jJa (tC (.int 5)) (jJa (tC (.int 5)) (jJa (tC (.int 5)) (jJa (tC (.int 3)) tNil))))) (tOp rSub (tCB rLen (jJa (tVar 2) tNil)) (tC (.int 1)))) tNil)))) (jJj 3))
 (tRet (jJo jJ9 (jJa (tVar 0) (jJa (tVar 2) (jJa (tVar 3) tNil)))))))))))
theorem kQe:∀xs G Q,jKa xs G Q->jVs {nx:=fun _ G'=>Q .non G',rt:=Q} (jJm kK5 xs) G:=by
 intro xs G Q h_;apply xe2 h_;clear h_;intro b n h_;apply ae3 h_;clear h_;intro hb hn kk
 rw[show jJm kK5 [.ref b]=[some (.ref b),none,none,none] from rfl]
 have hs:=sz
 wp_walk using 1,jVs,rEqA
 refine⟨b,_,n,rfl,hb,by omega,by omega,by omega,fun w G1 w0 w1 b1 k1=> ?_⟩
 obtain⟨w,rfl⟩:=lJm w0
 have e0:eqG G1 (T.int (w:Nat)) (T.int 0)=some (decide (w=0)):=jU6 (c:=0)
 have e4:eqG G1 (T.int (w:Nat)) (T.int 4)=some (decide (w=4)):=jU6 (c:=4)
 wp_walk using 1,e0,e4
 split
 ·refine⟨b,_,_,rfl,b1,by omega,by omega,by omega,fun r G2 r0 r1 b2 k2=> ?_⟩
  wp_walk using 1,tSeq
  refine⟨b,_,_,rfl,b2,by omega,by omega,by omega,fun q G3 q0 q1 b3 k3=> ?_⟩
  wp_walk using 1,tSeq
  obtain⟨r,rfl⟩:=lJm r0
  obtain⟨q,rfl⟩:=lJm q0
  refine⟨b,8+r,3+q,_,by simp,b3,by omega,by omega,by omega,by omega,by omega,fun W G4 ok b4 k4=> ?_⟩
  exact kk W G4 (ok.any (by omega) (by omega) (by omega)) (b4.mono (by omega)) (((k1.trans k2).trans k3).trans k4)
 split
 ·refine⟨b,_,_,rfl,b1,by omega,by omega,by omega,fun r G2 r0 r1 b2 k2=> ?_⟩
  wp_walk using 1,tSeq
  refine⟨b,_,_,rfl,b2,by omega,by omega,by omega,fun q G3 q0 q1 b3 k3=> ?_⟩
  wp_walk using 1,tSeq
  obtain⟨r,rfl⟩:=lJm r0
  obtain⟨q,rfl⟩:=lJm q0
  refine⟨b,1+r,2+q,_,by simp,b3,by omega,by omega,by omega,by omega,by omega,fun W G4 ok b4 k4=> ?_⟩
  exact kk W G4 (ok.any (by omega) (by omega) (by omega)) (b4.mono (by omega)) (((k1.trans k2).trans k3).trans k4)
 split
 ·refine⟨b,_,_,rfl,b1,by omega,by omega,by omega,fun r G2 r0 r1 b2 k2=> ?_⟩
  wp_walk using 1,tSeq
  obtain⟨r,rfl⟩:=lJm r0
  refine⟨1+r,by simp,by omega,by omega,fun G3 s3=> ?_⟩
  exact kk _ G3 ((ring_ok (n:=1+r) (by omega)).any (by omega) (by omega) (by omega)) ((b2.sub s3).mono (by omega)) ((k1.trans k2).trans (.sub s3))
 refine⟨b,_,_,rfl,b1,by omega,by omega,by omega,fun r G2 r0 r1 b2 k2=> ?_⟩
 wp_walk using 1,tSeq
 refine⟨b,_,_,rfl,b2,by omega,by omega,by omega,fun q G3 q0 q1 b3 k3=> ?_⟩
 wp_walk using 1,tSeq
 obtain⟨r,rfl⟩:=lJm r0
 obtain⟨q,rfl⟩:=lJm q0
 refine⟨b,1+r,2+q,_,by simp,b3,by omega,by omega,by omega,by omega,by omega,fun W G4 ok b4 k4=> ?_⟩
 wp_walk using 1,encW,lJb
 refine⟨by omega,fun p hp=> ?_⟩
 obtain⟨bo,hbo⟩:=b4.some
 have hbp:=jJe hbo hp
 have hWl:=ok.len
 have hfine:=ok.fine (by omega) (by omega)
 have hends:=ends_len ok.deg
 obtain⟨c,hc,hc1,hc2,hc3⟩:∃c:Nat,L2.atI [T.int 5,T.int 5,T.int 5,T.int 3] ((W.length:Int)-1)=some (.int (c:Nat))/\1<=c/\c<=5/\(c+1)*W.length<=24:=by
  have:W.length=1\/W.length=2\/W.length=3\/W.length=4:=by omega
  rcases this with h | h | h | h<;>rw[h]
  ·exact⟨5,rfl,by decide,by decide,by decide⟩
  ·exact⟨5,rfl,by decide,by decide,by decide⟩
  ·exact⟨5,rfl,by decide,by decide,by decide⟩
  ·exact⟨3,rfl,by decide,by decide,by decide⟩
 refine⟨_,hc,?_⟩
 refine⟨b,_,_,rfl,b4.gup hbp,by omega,by omega,by omega,fun x G5 x0 x1 b5 k5=> ?_⟩
 wp_walk using 1,tSeq
 obtain⟨x,rfl⟩:=lJm x0
 have hm:(2+x)*W.length<=24:=lJo (lQd _ (by omega)) hc3
 have hcost:(jQ0 W).length*(2+x)<=12*6:=Nat.mul_le_mul (lJo hends (by rw[hWl];exact Nat.mul_le_mul (show 1+r<=4 by omega) (show 2+q<=3 by omega))) (by omega)
 refine⟨b,W,2+x,_,by simp[encW],b5,by omega,hfine,ok.sym,by omega,by omega,by omega,fun V G6 cov b6 k6=> ?_⟩
 refine kk V G6 ?_ (b6.mono (by omega)) (((((k1.trans k2).trans k3).trans k4).trans (.new hp)).trans k5 |>.trans k6)
 rcases cov with rfl | ⟨sh,cn⟩
 ·exact ok.any (by omega) (by omega) (by omega)
 ·refine⟨by rw[sh.len];exact Nat.mul_pos (by omega) (by omega),by rw[sh.len];exact hm,sh.sym,fun y es hy=> ?_,cn⟩
  obtain⟨es',h1,h2⟩:=sh.row y es hy
  have:=ok.deg _ _ h1
  omega
noncomputable def jYv (r:Nat) (es:List (Nat×Nat)):Nat:=(es.getLast?.map Prod.fst).getD r
noncomputable def goW (W:Web) (r:Nat) (ds:List Nat):Option (List (Nat×Nat)):=ds.foldl (fun o d=>o.bind fun es=>(en W (jYv r es) d).map fun e=>es++[e]) (some [])
theorem kVo {W:Web} {r d:Nat} {ds:List Nat}:goW W r (ds++[d])=(goW W r ds).bind fun es=>(en W (jYv r es) d).map fun e=>es++[e]:=by
 unfold goW;rw[List.foldl_append];rfl
theorem goW_none {W:Web} {r:Nat} {ds ds':List Nat} (h:goW W r ds=none):goW W r (ds++ds')=none:=by
 unfold goW at h ⊢
 rw[List.foldl_append,h]
 induction ds' with
 | nil=>rfl
 | cons a as ih=>exact ih
theorem jYj {r:Nat} {es:List (Nat×Nat)} {e:Nat×Nat}:jYv r (es++[e])=e.1:=by simp[jYv]
theorem snocRec {α:Type} {P:List α->Prop} (h0:P []) (h1:∀ds d,P ds->P (ds++[d])) (ds:List α):P ds:=by
 have:∀l:List α,P l.reverse:=by
  intro l
  induction l with
  | nil=>exact h0
  | cons a as ih=>rw[lKq];exact h1 _ _ ih
 have h:=this ds.reverse
 rwa [List.reverse_reverse] at h
theorem goW_lt {W:Web} (f:Fine W) {r:Nat} (hr:r<W.length):∀ {ds:List Nat} {es:List (Nat×Nat)},goW W r ds=some es->jYv r es<W.length/\es.length=ds.length/\∀e,e∈es->e.1<W.length:=by
 intro ds
 refine snocRec (P:=fun ds=>∀ {es:List (Nat×Nat)},goW W r ds=some es->jYv r es<W.length/\es.length=ds.length/\∀e,e∈es->e.1<W.length) ?_ ?_ ds
 ·intro es h;cases h;exact⟨hr,rfl,fun e he=>by cases he⟩
 ·intro ds d ih es h
  rw[kVo] at h
  cases e1:goW W r ds with
  | none=>rw[e1] at h;cases h
  | some es1=>
   rw[e1] at h
   obtain⟨a1,a2,a3⟩:=ih e1
   simp only[Option.bind_some] at h
   cases e2:en W (jYv r es1) d with
   | none=>rw[e2] at h;cases h
   | some e=>
    rw[e2] at h;cases h
    have he:=f.rng _ _ e.1 e.2 e2
    refine⟨by rw[jYj];exact he,by simp[a2],fun x hx=> ?_⟩
    rw[lJu,lJp] at hx
    rcases hx with hx | rfl
    ·exact a3 x hx
    ·exact he
theorem kVn {W:Web} {r i d:Nat} {ds:List Nat} (hd:ds[i]? =some d):goW W r (ds.take (i+1))=(goW W r (ds.take i)).bind fun es=>(en W (jYv r es) d).map fun e=>es++[e]:=by
 rw[lKj,hd];exact kVo
theorem goW_cut {W:Web} {r i d:Nat} {ds:List Nat} {es:List (Nat×Nat)} (hd:ds[i]? =some d) (h:goW W r (ds.take i)=some es) (hn:en W (jYv r es) d=none):goW W r ds=none:=by
 have:goW W r (ds.take (i+1))=none:=by rw[kVn hd,h];simp[hn]
 have h2:=goW_none (ds':=ds.drop (i+1)) this
 rwa [List.take_append_drop] at h2
noncomputable def jQn:Sp3:=fun xs G Q=>∃(W:Web) (r:Nat) (x:T) (ds:List Nat),xs=[encW W,.int r,x]/\Fine W/\r<W.length/\seqT G x=some (jJk ds)/\ds.length<=1000/\∀G',Sub G G'->(goW W r ds=none->Q .non G')/\(∀es p,goW W r ds=some es->G p=none->G' p=some (.lst (es.map encE))->Q (.ref p) G')
noncomputable def N_ends_on:List Str:=["web","room","way","ends","here","door","end"]
noncomputable def jYg:TS3:=
 (tSeq (tAsg (tLst tNil) (jJj 3))
 (tSeq (tAsg (tVar 1) (jJj 4))
 (tSeq (tFor (iSeq (tVar 2)) (jJj 5) (tSeq (tIfS (tNot (jKe (tChain rLeF rLt (tC (.int 0)) (tVar 5) (tCB rLen (jJa (tOp rIxF (tVar 0) (tVar 4)) tNil))))) (tRet (tC .non)) jK5)
 (tSeq (tAsg (tOp rIxF (tOp rIxF (tVar 0) (tVar 4)) (tVar 5)) (jJj 6))
 (tSeq (jUk (tBM "list" jKr (tVar 3) (jJa (tVar 6) tNil)))
 (tAsg (tOp rIxF (tVar 6) (tC (.int 0))) (jJj 4))))))
 (tRet (tVar 3)))))
theorem kJ9 {W:Web} {r:Nat} (hr:r<W.length):∃es,W[r]? =some es/\∀d,en W r d=es[d]? :=⟨W[r],lJc hr,fun d=>by unfold en;rw[lJc hr];rfl⟩
theorem rdok_ends_on:∀xs G Q,jQn xs G Q->jYg {nx:=fun _ G'=>Q .non G',rt:=Q} (jJm N_ends_on xs) G:=by
 intro xs G Q h_;apply xe4 h_;clear h_;intro W r x ds h_;apply ae5 h_;clear h_;intro fine hr hx hdl kk
 rw[show jJm N_ends_on [encW W,.int r,x]=[some (.tup (W.map encR)),some (.int r),some x,none,none,none,none] from rfl]
 have hs:=sz
 wp_walk using 1,jYg,jJ5,iSeq
 refine⟨lJn _,fun p hp=> ?_⟩
 refine⟨jJk ds,(Sub.new hp).seq hx,?_⟩
 refine⟨fun i τ G'=>∃(v5 v6:Option T) (es:List (Nat×Nat)),τ=[some (.tup (W.map encR)),some (.int r),some x,some (.ref p),some (.int (jYv r es:Nat)),v5,v6]/\goW W r (ds.take i)=some es/\G' p=some (.lst (es.map encE))/\Sub G G',?_,?_,?_,?_⟩
 ·exact⟨none,none,[],rfl,rfl,jJg,.new hp⟩
 ·intro i τ G' hi h_;apply xe3 h_;clear h_;intro v5 v6 es h_;apply ae3 h_;clear h_;intro h1 h2 h3
  exact h3.seq hx
 ·intro i y τ G1 hy h_;apply xe3 h_;clear h_;intro v5 v6 es h_;apply ae3 h_;clear h_;intro h1 h2 h3
  obtain⟨d,hd,rfl⟩:=jUa hy
  have hi:i<ds.length:=(lJa.mp hd).1
  obtain⟨b1,b2,b3⟩:=goW_lt fine hr h1
  obtain⟨row,hrow,hen⟩:=kJ9 b1
  have hrl:=fine.row _ _ hrow
  rw[lKm] at b2
  have hatR:=jQe hrow
  wp_walk using 1,tChain,rLeF,hatR,encR,lJb
  rw[if_pos (by omega)]
  by_cases hdr:d<row.length
  ·have hed:row[d]? =some row[d]:=lJc hdr
   generalize row[d]=e at hed
   have heR:=kVs hed
   wp_walk using 1,heR,show decide ((d:Int)<(row.length:Int))=true by simp;omega,encE,jQg h2,h2,lJb
   refine⟨by omega,_,_,es++[e],by rw[jYj],rfl,rfl,?_,by simp[encE],h3.over hp⟩
   rw[kVn hd,h1]
   simp[hen,hed]
  ·have hnone:row[d]? =none:=lJh (by omega)
   wp_walk using 1,show decide ((d:Int)<(row.length:Int))=false by simp;omega
   exact (kk G1 h3).1 (goW_cut hd h1 (by rw[hen];exact hnone))
 ·intro τ G1 h_;apply xe3 h_;clear h_;intro v5 v6 es h_;apply ae3 h_;clear h_;intro h1 h2 h3
  wp_walk using 1,tSeq
  have e1:(jJk ds).length=ds.length:=by simp[jJk]
  rw[e1,lKy] at h1
  exact (kk G1 h3).2 es p h1 hp h2
theorem kVz {nu:List Nat} {x y:Nat} (h:nu[x]? =some y):L2.atI (jJk nu) (x:Int)=some (.int (y:Nat)):=by rw[atN];simp[jJk,h]
theorem numT_at {xs:List T} {j:Nat} {y:T} (h:(numT xs)[j]? =some y):∃x,xs[j]? =some x/\y= .tup [.int j,x]:=by
 have hj:j<xs.length:=by have:=(lJa.mp h).1;rwa [jK8] at this
 refine⟨xs[j],lJc hj,?_⟩
 rw[jXm (lJc hj)] at h
 cases h;rfl
theorem jXe {G G':Gp} (h:Sub G G') {p:Addr} (hp:G' p=none):G p=none:=by
 cases e:G p with
 | none=>rfl
 | some o=>rw[h _ _ e] at hp;cases hp
section
variable {κ:Type} [DecidableEq κ]
noncomputable def fst1 (F:List κ) (x:κ):List κ:=if x∈F then F else F++[x]
noncomputable def jVv (ls:List κ):List κ:=ls.foldl fst1 []
noncomputable def ix1 (F:List κ) (x:κ):Nat:=F.idxOf x
noncomputable def num (ls:List κ):List Nat:=ls.map fun x=>(jVv ls).idxOf x
theorem fst1_mem {F:List κ} {x y:κ}:y∈fst1 F x↔y∈F\/y=x:=by
 unfold fst1
 split
 ·rename_i h
  constructor
  ·exact .inl
  ·rintro (z | rfl)
   ·exact z
   ·exact h
 ·simp
theorem fold_mem:∀(ls F:List κ) {y:κ},y∈ls.foldl fst1 F↔y∈F\/y∈ls
 | [],F,y=>by simp
 | x::ls,F,y=>by
  rw[List.foldl_cons,fold_mem ls,fst1_mem,lJk,or_assoc]
theorem firsts_mem {ls:List κ} {y:κ}:y∈jVv ls↔y∈ls:=by
 unfold jVv;rw[fold_mem];simp
theorem kKp {ls:List κ} {k:Nat} {x:κ} (h:ls[k]? =some x):jVv (ls.take (k+1))=fst1 (jVv (ls.take k)) x:=by
 unfold jVv
 rw[lKj,h,List.foldl_append];rfl
theorem num_len {ls:List κ}:(num ls).length=ls.length:=by simp[num]
theorem num_at {ls:List κ} {k:Nat} {x:κ} (h:ls[k]? =some x):(num ls)[k]? =some ((jVv ls).idxOf x):=by simp[num,h]
theorem idx_inj {F:List κ} {x y:κ} (hx:x∈F) (h:F.idxOf x=F.idxOf y):x=y:=by
 have h1:=List.idxOf_lt_length_of_mem hx
 have h2:F.idxOf y<F.length:=by rw[<-h];exact h1
 have e1:F[F.idxOf x]=x:=List.getElem_idxOf h1
 have e2:F[F.idxOf y]=y:=List.getElem_idxOf h2
 rw[<-e1,<-e2];congr 1
theorem num_inj {ls:List κ} {a b:Nat} {x y:κ} (ha:ls[a]? =some x) (hb:ls[b]? =some y) (h:(num ls)[a]? =(num ls)[b]?):x=y:=by
 rw[num_at ha,num_at hb] at h
 exact idx_inj (firsts_mem.mpr (lJg ha)) (lJ0 h)
end
section
variable {κ K:Type} [DecidableEq κ] [DecidableEq K]
noncomputable def dkvN (key:κ->K):Nat->List κ->List (K×T)
 | _,[]=>[]
 | n,x::F=>(key x,T.int (n:Nat))::dkvN key (n+1) F
noncomputable def dkv (key:κ->K) (F:List κ):List (K×T):=dkvN key 0 F
theorem dkvN_app (key:κ->K) (x:κ):∀(F:List κ) (n:Nat),dkvN key n (F++[x])=dkvN key n F++[(key x,T.int ((n+F.length:Nat)))]
 | [],n=>rfl
 | y::F,n=>by
  rw[List.cons_append,dkvN,dkvN_app key x F,dkvN,List.cons_append,lJz,show n+1+F.length=n+(F.length+1) by omega]
theorem dkv_app (key:κ->K) (x:κ) (F:List κ):dkv key (F++[x])=dkv key F++[(key x,T.int (F.length:Nat))]:=by
 unfold dkv;rw[dkvN_app,Nat.zero_add]
theorem dkvN_len (key:κ->K):∀(F:List κ) (n:Nat),(dkvN key n F).length=F.length
 | [],_=>rfl
 | _::F,n=>by rw[dkvN,lJz,dkvN_len key F,lJz]
theorem dkv_len {key:κ->K} {F:List κ}:(dkv key F).length=F.length:=dkvN_len key F 0
theorem dkvN_val {key:κ->K} (hk:∀x y,key x=key y->x=y) (x:κ):∀(F:List κ) (n:Nat),valT (dkvN key n F) (key x)=if x∈F then some (T.int ((n+F.idxOf x:Nat))) else none
 | [],_=>by simp[dkvN,valT]
 | y::F,n=>by
  have ih:=dkvN_val hk x F (n+1)
  unfold valT at ih ⊢
  rw[dkvN,lKe]
  by_cases h:y=x
  ·subst h
   simp
  ·have h1:decide (key y=key x)=false:=decide_eq_false fun e=>h (hk y x e)
   simp only[h1]
   rw[ih,List.idxOf_cons,beq_eq_false_iff_ne.mpr h]
   have h2:(x∈y::F)↔x∈F:=by
    rw[lJk]
    exact⟨fun z=>z.resolve_left fun e=>h e.symm,.inr⟩
   by_cases hx:x∈F
   ·rw[if_pos hx,if_pos (h2.mpr hx)]
    simp only[cond_false]
    congr 3;omega
   ·rw[if_neg hx,if_neg fun z=>hx (h2.mp z)]
theorem dkv_val {key:κ->K} (hk:∀x y,key x=key y->x=y) {x:κ} {F:List κ}:valT (dkv key F) (key x)=if x∈F then some (T.int (F.idxOf x:Nat)) else none:=by
 unfold dkv;rw[dkvN_val hk,Nat.zero_add]
theorem putT_none {kvs:List (K×T)} {k:K} {v:T} (h:valT kvs k=none):putT kvs k v=kvs++[(k,v)]:=by
 unfold putT
 rw[if_neg]
 intro z
 rw[List.any_eq_true] at z
 obtain⟨p,hp,e⟩:=z
 unfold valT at h
 rw[Option.map_eq_none_iff,List.find?_eq_none] at h
 exact h p hp e
theorem dkv_put {key:κ->K} (hk:∀x y,key x=key y->x=y) {x:κ} {F:List κ} (h:x∉F):putT (dkv key F) (key x) (T.int (F.length:Nat))=dkv key (fst1 F x):=by
 rw[putT_none (by rw[dkv_val hk,if_neg h]),fst1,if_neg h,dkv_app]
structure Dic (mk:List (K×T)->GO) (key:κ->K) (enc:κ->T):Prop where
 inj:∀x y,key x=key y->x=y
 has:∀(G:Gp) d kvs x,G d=some (mk kvs)->inR G (enc x) (.ref d)=some (valT kvs (key x)).isSome
 put:∀(G:Gp) d kvs x v,G d=some (mk kvs)->kvs.length<sizeLine->setR G (.ref d) (enc x) v=some (gup G d (mk (putT kvs (key x) v)))
 get:∀(G:Gp) d kvs x,G d=some (mk kvs)->ixR G (.ref d) (enc x)=valT kvs (key x)
 len:∀(G:Gp) d kvs,G d=some (mk kvs)->lenG G (.ref d)=some kvs.length
end
theorem dicT {κ:Type} [DecidableEq κ] {key:κ->L2.TKey} {enc:κ->List T} (hi:∀x y,key x=key y->x=y) (hk:∀x,jXa (enc x)=some (key x)):Dic (fun kvs=> .dct kvs) key (fun x=>T.tup (enc x)) where
 inj:=hi
 has:=fun G d kvs x h=>by
  have h1:seqT G (.ref d)=none:=by simp only[seqT,h,asL]
  have h2:=dAt_dct h (hk x)
  unfold inR;rw[h1,h2]
 put:=fun G d kvs x v h hz=>setR_dct h (hk x) hz
 get:=fun G d kvs x h=>by
  have h1:seqT G (.ref d)=none:=by simp only[seqT,h,asL]
  have h2:=dAt_dct h (hk x)
  unfold ixR;rw[h1,h2]
 len:=fun G d kvs h=>by simp only[lenG,h]
theorem firsts_len {κ:Type} [DecidableEq κ] {ls:List κ}:(jVv ls).length<=ls.length:=by
 have:∀(ms F:List κ),(ms.foldl fst1 F).length<=F.length+ms.length:=by
  intro ms
  induction ms with
  | nil=>intro F;simp
  | cons m ms ih=>
   intro F
   rw[List.foldl_cons]
   have h1:=ih (fst1 F m)
   have h2:(fst1 F m).length<=F.length+1:=by unfold fst1;split<;>simp
   simp;omega
 have:=this ls []
 simpa[jVv] using this
noncomputable abbrev Look:=Nat×(Bool ⊕ List (Nat×Nat))
noncomputable def encK:Look->List T
 | (a,.inl b)=>[.int (a:Nat),.int (if b=true then 1 else 0)]
 | (a,.inr t)=>[.int (a:Nat),encR t]
noncomputable def keyP1 (e:Nat×Nat):L2.K1:= .inr [.inl (e.1:Nat),.inl (e.2:Nat)]
noncomputable def keyK:Look->L2.TKey
 | (a,.inl b)=>[.inl (.inl (a:Nat)),.inl (.inl (if b=true then 1 else 0))]
 | (a,.inr t)=>[.inl (.inl (a:Nat)),.inr (t.map keyP1)]
theorem keyP1_inj {a b:Nat×Nat} (h:keyP1 a=keyP1 b):a=b:=by
 have h:=Sum.inr.inj h
 simp only[List.cons.injEq,Sum.inl.injEq,and_true] at h
 obtain⟨a1,a2⟩:=a;obtain⟨b1,b2⟩:=b
 simp only at h
 rw[show a1=b1 by omega,show a2=b2 by omega]
theorem mapP1_inj:∀ {a b:List (Nat×Nat)},a.map keyP1=b.map keyP1->a=b
 | [],[],_=>rfl
 | [],_::_,h=>by simp at h
 | _::_,[],h=>by simp at h
 | x::a,y::b,h=>by
  simp only[List.cons.injEq,lJ4] at h
  rw[keyP1_inj h.1,mapP1_inj h.2]
theorem kJy (x y:Look) (h:keyK x=keyK y):x=y:=by
 obtain⟨a,s⟩:=x;obtain⟨b,t⟩:=y
 cases s<;>cases t<;>simp only[keyK,List.cons.injEq,Sum.inl.injEq,Sum.inr.injEq,reduceCtorEq,and_true,and_false,true_and] at h
 ·rename_i s t
  obtain⟨h1,h2⟩:=h
  rw[show a=b by omega]
  cases s<;>cases t<;>simp at h2 ⊢
 ·rename_i s t
  rw[show a=b by omega,mapP1_inj h.2]
theorem allK_P1:∀t:List (Nat×Nat),allK key1 (t.map encE)=some (t.map keyP1)
 | []=>rfl
 | e::t=>by
  show allK key1 (encE e::t.map encE)=_
  unfold allK
  rw[allK_P1 t,show key1 (encE e)=some (keyP1 e) from rfl];rfl
theorem keysOf_K (x:Look):jXa (encK x)=some (keyK x):=by
 obtain⟨a,s⟩:=x
 cases s with
 | inl b=>cases b<;>rfl
 | inr t=>
  show allK key2 [.int (a:Nat),encR t]=_
  unfold allK
  rw[show key2 (.int (a:Nat))=some (.inl (.inl (a:Nat))) from rfl]
  unfold allK
  rw[show key2 (encR t)=some (.inr (t.map keyP1)) by show (allK key1 (t.map encE)).map Sum.inr=_;rw[allK_P1];rfl]
  rfl
theorem dicK:Dic (fun kvs=> .dct kvs) keyK (fun x=>T.tup (encK x)):=dicT kJy keysOf_K
theorem kKo {m:List Nat} {x:Nat} (h:x<m.length):L2.atI (jJk m) (x:Int)=some (.int (m.getD x 0:Nat)):=by
 rw[atN];simp[jJk,List.getD,lJc h]
noncomputable def mk0 (mq:Nat->Bool) (W:Web):List Look:=(List.range W.length).map fun r=>((row W r).length,.inl (mq r))
noncomputable def mk1 (W:Web) (m:List Nat):List Look:=(List.range W.length).map fun r=>(m.getD r 0,.inr ((row W r).map fun e=>(e.2,m.getD e.1 0)))
noncomputable def jKs (mq:Nat->Bool) (W:Web):Nat->List Nat
 | 0=>num (mk0 mq W)
 | k+1=>num (mk1 W (jKs mq W k))
noncomputable def jV7 (mq:Nat->Bool) (W:Web):Nat->List Look
 | 0=>mk0 mq W
 | k+1=>mk1 W (jKs mq W k)
theorem kKg {mq:Nat->Bool} {W:Web}:∀k,(jV7 mq W k).length=W.length
 | 0=>by simp[jV7,mk0]
 | _+1=>by simp[jV7,mk1]
theorem looks_num {mq:Nat->Bool} {W:Web}:∀k,num (jV7 mq W k)=jKs mq W k
 | 0=>rfl
 | _+1=>rfl
theorem jZi {mq:Nat->Bool} {W:Web} (k:Nat):(jKs mq W k).length=W.length:=by rw[<-looks_num,num_len,kKg]
noncomputable def jKz:Sp3:=fun xs G Q=>∃(W:Web) (b mk:Addr) (n:Nat) (F:List Nat) (mq:Nat->Bool),xs=[.ref b,.ref mk,.int n]/\G b=some (.lst (W.map encR))/\G mk=some (.lst (jJk F))/\(∀x,mq x=F.contains x)/\Fine W/\n<=500/\∀q rs G',G q=none->(∀r,r∈rs->G r=none)->RowsT G' q ((List.range (n+1)).map fun k=>jJk (jKs mq W k)) rs->Sub G G'->Q (.ref q) G'
noncomputable def kUe:List Str:=["_law_both_here","_law_marked","_law_many","_law_looks","_law_found","_law_turn_here","_law_some","_law_look","_law_row","_law_room","_law_doors","_law_end","_law_door"]
noncomputable def jXi:TS3:=
 (tSeq (tAsg (jQ3 [false,false,false,false,false,false,false,false,false,true,true,false,false] (jZ4 (jJa (tVar 0) tNil)) (gTup 2 (jKb (jJj 9) (jKb (jJj 10) gNil))) jUo (tTup (jJa (tCB rLenD (jJa (tVar 10) tNil)) (jJa (tCB jZb (jJa (tOp rInFu (tVar 9) (tVar 1)) tNil)) tNil)))) (jJj 3))
 (tSeq (tAsg (tLst tNil) (jJj 4))
 (tSeq (tFor (jKv (jJa (tOp jKk (tVar 2) (tC (.int 1))) tNil)) (jJj 5) (tSeq (tAsg kJ7 (jJj 6))
 (tSeq (tFor (iSeq (tVar 3)) (jJj 7) (jUk (tBM "dict" rSetDef (tVar 6) (jJa (tVar 7) (jJa (tCB rLenD (jJa (tVar 6) tNil)) tNil)))))
 (tSeq (tAsg (jQ3 [false,false,false,false,false,false,false,true,false,false,false,false,false] (iSeq (tVar 3)) (jJj 7) jUo (tOp rIxF (tVar 6) (tVar 7))) (jJj 8))
 (tSeq (jUk (tBM "list" jKr (tVar 4) (jJa (tVar 8) tNil)))
 (tSeq (tAsg (tLst tNil) (jJj 3))
 (tFor (jZ4 (jJa (tVar 0) tNil)) (gTup 2 (jKb (jJj 9) (jKb (jJj 10) gNil))) (jUk (tBM "list" jKr (tVar 3) (jJa (tTup (jJa (tOp rIxF (tVar 8) (tVar 9)) (jJa (tCB jKm (jJa (jQ3 [false,false,false,false,false,false,false,false,false,false,false,true,true] (iSeq (tVar 10)) (gTup 2 (jKb (jJj 11) (jKb (jJj 12) gNil))) jUo (tTup (jJa (tVar 12) (jJa (tOp rIxF (tVar 8) (tVar 11)) tNil)))) tNil)) tNil))) tNil))))))))))
 (tRet (tVar 4)))))
theorem numT_W {W:Web}:numT (W.map encR)=(List.range W.length).map fun i=>T.tup [.int (i:Nat),encR (row W i)]:=by
 unfold numT
 rw[lJb]
 apply List.map_congr_left
 intro i hi
 have hl:=lJt.mp hi
 have hW:W[i]? =some W[i]:=lJc hl
 simp[List.getD,row,hW]
theorem kUy:∀xs G Q,jKz xs G Q->jXi {nx:=fun _ G'=>Q .non G',rt:=Q} (jJm kUe xs) G:=by
 intro xs G Q h_;apply xe6 h_;clear h_;intro W b mk n F mq h_;apply ae6 h_;clear h_;intro hb hmk hmq fine hn kk
 rw[show jJm kUe [.ref b,.ref mk,.int n]=[some (.ref b),some (.ref mk),some (.int n),none,none,none,none,none,none,none,none,none,none] from rfl]
 have hs:=sz
 have hl:=fine.len
 wp_walk using 1,jXi,jJ5,jKv,jZ4
 refine⟨W.map encR,by simp only[jV8,hb,asL],?_⟩
 rw[numT_W]
 refine jQh (es:=List.range W.length) (enc:=fun i=>T.tup [.int (i:Nat),encR (row W i)]) (fun i=>T.tup (encK ((row W i).length,.inl (mq i)))) (by simp;omega) (fun G' s=>by simp only[jV8,s _ _ hb,asL]) ?_ ?_
 ·intro i r hi G' K K0 s hk
  obtain⟨q1,q2⟩:=lJa.mp hi
  simp at q1 q2;subst q2
  wp_walk using 1,rLenD,lenG,encR,lJb,rInFu,inR_ints (s _ _ hmk),jZb
  rw[hmq] at hk
  exact⟨by omega,hk G' (.refl _)⟩
 ·intro lk0 G1 hlk0 h1 s1
  refine⟨by omega,fun p hp=>⟨by omega,by omega,?_⟩⟩
  rw[show ((n:Int)+1).toNat=n+1 by omega]
  have hlp:lk0≠p:=jJe h1 hp
  have hpG:=jXe s1 hp
  let J1:Nat->St3->Gp->Prop:=fun k τ G'=>∃(lk:Addr) (v5 v6 v7 v8 v9 v10:Option T) (rs:List Addr),τ=[some (.ref b),some (.ref mk),some (.int n),some (.ref lk),some (.ref p),v5,v6,v7,v8,v9,v10,none,none]/\G' lk=some (.lst ((jV7 mq W k).map fun x=>T.tup (encK x)))/\RowsT G' p ((List.range k).map fun k=>jJk (jKs mq W k)) rs/\(∀r,r∈rs->G r=none)/\p∉rs/\Sub G G'
  refine⟨J1,?_,?_,?_,?_⟩
  ·refine xi8 lk0 none none none none none none [] rfl ⟨?_,⟨jJg,rfl,by simp⟩,by simp,by simp,s1.trans (.new hp)⟩
   rw[jJt hlp,h1]
   congr 2
   apply lJ8
   intro r
   by_cases hr:r<W.length
   ·have hW:W[r]? =some W[r]:=lJc hr
    simp[jV7,mk0,lKs hr,row,hW]
   ·rw[lJh (by simp;omega),lJh (by simp[jV7,mk0];omega)]
  ·intros;trivial
  ·intro k y τ G2 hy h_;apply xe8 h_;clear h_;intro lk v5 v6 v7 v8 v9 v10 rs h_;apply ae5 h_;clear h_;intro i1 i2 i3 i4 i5
   obtain⟨hk,rfl⟩:=jU8 hy
   have hb2:=i5 _ _ hb
   have hll:=kKg (mq:=mq) (W:=W) k
   wp_walk using 1,kJ7,jJ5,iSeq
   refine .inl fun d hd=> ?_
   have hdG:=jXe i5 hd
   have hld:lk≠d:=jJe i1 hd
   have i1d:gup G2 d (.dct []) lk=some (.lst ((jV7 mq W k).map fun x=>T.tup (encK x))):=by rw[jJt hld];exact i1
   refine⟨_,jJp i1d,?_⟩
   let J2:Nat->St3->Gp->Prop:=fun i τ G'=>∃v7:Option T,τ=[some (.ref b),some (.ref mk),some (.int n),some (.ref lk),some (.ref p),some (.int k),some (.ref d),v7,v8,v9,v10,none,none]/\G' lk=some (.lst ((jV7 mq W k).map fun x=>T.tup (encK x)))/\G' d=some (.dct (dkv keyK (jVv ((jV7 mq W k).take i))))/\Sub G2 G'
   refine⟨J2,?_,?_,?_,?_⟩
   ·exact xi1 v7 rfl ⟨i1d,jJg,.new hd⟩
   ·intro i τ G' hi h_;apply xe1 h_;clear h_;intro v7 h_;apply ae3 h_;clear h_;intro j1 j2 j3
    exact jJp j1
   ·intro i y τ G3 hy h_;apply xe1 h_;clear h_;intro v7 h_;apply ae3 h_;clear h_;intro j1 j2 j3
    obtain⟨x,hx,rfl⟩:=jUa hy
    have hfl:(jVv ((jV7 mq W k).take i)).length<=1000:=lJo firsts_len (by rw[lKm];omega)
    wp_walk using 1,rLenD,lenG,j2,dkv_len
    refine⟨.inr ⟨rfl,.inr ⟨_,j2⟩⟩,d,encK x,keyK x,_,.int _,rfl,rfl,keysOf_K x,j2,by rw[dkv_len];omega,?_⟩
    rw[dkv_val kJy]
    by_cases hm:x∈jVv ((jV7 mq W k).take i)
    ·rw[if_pos hm]
     exact xi1 _ rfl ⟨j1,by rw[kKp hx,fst1,if_pos hm];exact j2,j3⟩
    ·rw[if_neg hm]
     refine xi1 _ rfl ?_
     show gup _ _ _ lk=_/\gup _ _ _ d=_/\Sub G2 (gup _ _ _)
     exact⟨by rw[jJt hld];exact j1,by rw[jJg,dkv_put kJy hm,kKp hx],j3.over hd⟩
   ·intro τ G3 h_;apply xe1 h_;clear h_;intro v7 h_;apply ae3 h_;clear h_;intro j1 j2 j3
    rw[lJb,lKy] at j2
    wp_walk using 1,iSeq,jJp j1
    refine jQh (es:=jV7 mq W k) (enc:=fun x=>T.tup (encK x)) (fun x=>T.int (ix1 (jVv (jV7 mq W k)) x:Nat)) (by omega) (fun G' s=>jJp (s _ _ j1)) ?_ ?_
    ·intro i x hx G' K' K0 s hK
     have hm:x∈jVv (jV7 mq W k):=firsts_mem.mpr (lJg hx)
     wp_walk using 1,dicK.get _ _ _ x (s _ _ j2),dkv_val kJy,if_pos hm
     exact hK G' (.refl _)
    ·intro q G4 hq h4 s4
     have h4':G4 q=some (.lst (jJk (jKs mq W k))):=by
      rw[h4,<-looks_num k,num,jJk,lJw];rfl
     have s24:Sub G2 G4:=j3.trans s4
     have hqG:G q=none:=jXe i5 (jXe j3 hq)
     have hqp:q≠p:=fun e=>by
      rw[e] at hq
      have:=s24 _ _ i2.1
      rw[j3 _ _ i2.1] at hq;cases hq
     have hqr:q∉rs:=fun hm=>by
      obtain⟨j,hj⟩:=lJs (id hm)
      obtain⟨ts,_,z2⟩:=i2.2.2 j q hj
      rw[j3 _ _ z2] at hq;cases hq
     have hrl:rs.length=k:=by have:=i2.2.1;simpa using this
     have hp4:=s24 _ _ i2.1
     wp_walk using 1,hp4,jJ5,jZ4
     refine⟨by rw[jQg hp4];trivial,by simp;omega,by omega,fun l hl=> ?_⟩
     have hbp:b≠p:=jJe hb hpG
     have hb4:gup G4 p (.lst (rs.map T.ref++[.ref q])) b=some (.lst (W.map encR)):=by rw[jJt hbp];exact s24 _ _ hb2
     have hq4:gup G4 p (.lst (rs.map T.ref++[.ref q])) q=some (.lst (jJk (jKs mq W k))):=by rw[jJt hqp];exact h4'
     have hR4:RowsT (gup G4 p (.lst (rs.map T.ref++[.ref q]))) p ((List.range (k+1)).map fun k=>jJk (jKs mq W k)) (rs++[q]):=by
      refine⟨by rw[jJg];simp,by simp[hrl],fun i r hi=> ?_⟩
      by_cases hil:i<rs.length
      ·rw[lJy hil] at hi
       obtain⟨ts,z1,z2⟩:=i2.2.2 i r hi
       have hrp:r≠p:=fun e=>i4 (by rw[<-e];exact lJg hi)
       refine⟨ts,?_,by rw[jJt hrp];exact s24 _ _ z2⟩
       rw[lJf] at z1 ⊢
       rw[lKs (by omega)] at z1 ⊢
       exact z1
      ·have hi2:=(lJa.mp hi).1
       simp at hi2
       have e:i=rs.length:=by omega
       subst e
       rw[lKn (lJd _)] at hi
       simp at hi;subst hi
       exact⟨jJk (jKs mq W k),by simp[hrl],hq4⟩
     have sG4:Sub G (gup G4 p (.lst (rs.map T.ref++[.ref q]))):=(i5.trans s24).over hpG
     generalize gup G4 p (.lst (rs.map T.ref++[.ref q]))=G5 at hl hb4 hq4 hR4 sG4 ⊢
     have hbl:b≠l:=jJe hb4 hl
     have hlG:=jXe sG4 hl
     refine⟨W.map encR,by simp only[jV8,jJt hbl,hb4,asL],?_⟩
     rw[numT_W]
     have hml:=jZi (mq:=mq) (W:=W) k
     have hlk:=kKg (mq:=mq) (W:=W) (k+1)
     let J3:Nat->St3->Gp->Prop:=fun i τ G'=>∃(v9 v10:Option T),τ=[some (.ref b),some (.ref mk),some (.int n),some (.ref l),some (.ref p),some (.int k),some (.ref d),v7,some (.ref q),v9,v10,none,none]/\G' l=some (.lst (((jV7 mq W (k+1)).take i).map fun x=>T.tup (encK x)))/\Sub G5 G'
     refine⟨J3,?_,?_,?_,?_⟩
     ·exact xi2 v9 v10 rfl ⟨by rw[List.take_zero];exact jJg,.new hl⟩
     ·intro i τ G' hi h_;apply xe2 h_;clear h_;intro v9 v10 h_;apply ae2 h_;clear h_;intro q1 q2
      simp only[jV8,q2 _ _ hb4,asL]
     ·intro i y τ G6 hy h_;apply xe2 h_;clear h_;intro v9 v10 h_;apply ae2 h_;clear h_;intro q1 q2
      obtain⟨r,hr,rfl⟩:=jUa hy
      obtain⟨z1,z2⟩:=lJa.mp hr
      simp at z1 z2;subst z2
      have hW:W[i]? =some W[i]:=lJc z1
      generalize W[i]=es at hW
      have hes:=fine.row i es hW
      have hq6:=q2 _ _ hq4
      rw[jUm hW]
      wp_walk using 1,encR,iSeq,jJ2 hq6,kKo (show i<(jKs mq W k).length by omega)
      refine⟨by rw[jQg q1];trivial,?_⟩
      refine jQh (es:=es) (enc:=encE) (fun e=>encE (e.2,(jKs mq W k).getD e.1 0)) (by omega) (fun _ _=>trivial) ?_ ?_
      ·intro j e he G' K' K0 s hK
       have hlt:=fine.rng i j e.1 e.2 (jQq hW he)
       wp_walk using 1,encE,jJ2 (s _ _ hq6),kKo (show e.1<(jKs mq W k).length by omega)
       rw[encE] at hK
       exact⟨by omega,hK G' (.refl _)⟩
      ·intro D G7 hD h7 s7
       have hlD:l≠D:=jJe q1 hD
       refine⟨_,jJp h7,?_⟩
       have q1':=s7 _ _ q1
       have hlook:(jV7 mq W (k+1))[i]? =some ((jKs mq W k).getD i 0,.inr (es.map fun e=>(e.2,(jKs mq W k).getD e.1 0))):=by
        simp[jV7,mk1,z1,jUm hW]
       have tk:((jV7 mq W (k+1)).take (i+1)).map (fun x=>T.tup (encK x))=((jV7 mq W (k+1)).take i).map (fun x=>T.tup (encK x))++[T.tup [.int ((jKs mq W k).getD i 0:Nat),T.tup (es.map fun e=>encE (e.2,(jKs mq W k).getD e.1 0))]]:=by
        rw[lKj,hlook];simp[encK,encR,lJw]
       wp_walk using 1,q1'
       exact⟨by omega,by simp;omega,xi2 _ _ rfl ⟨by rw[jJg,tk],(q2.trans s7).over hl⟩⟩
     ·intro τ G6 h_;apply xe2 h_;clear h_;intro v9 v10 h_;apply ae2 h_;clear h_;intro q1 q2
      rw[lJb,lKl,lQh (by omega)] at q1
      refine xi8 _ _ _ _ _ _ _ (rs++[q]) rfl ⟨q1,⟨q2 _ _ hR4.1,hR4.2.1,fun i r hi=>let ⟨ts,z1,z2⟩:=hR4.2.2 i r hi;⟨ts,z1,q2 _ _ z2⟩⟩,fun r hr=> ?_,fun hm=> ?_,sG4.trans q2⟩
      ·rcases (lJu.mp hr) with h | h
       ·exact i3 r h
       ·rw[lJp.mp h];exact hqG
      ·rcases (lJu.mp hm) with h | h
       ·exact i4 h
       ·exact hqp (lJp.mp h).symm
  ·intro τ G2 h_;apply xe8 h_;clear h_;intro lk v5 v6 v7 v8 v9 v10 rs h_;apply ae5 h_;clear h_;intro i1 i2 i3 i4 i5
   rw[jKq] at i2
   wp_walk using 1,tSeq
   exact kk p rs G2 hpG i3 i2 i5
def Alk (mq:Nat->Bool) (W:Web) (k r s:Nat):Prop:=(jKs mq W k)[r]? =(jKs mq W k)[s]?
theorem kQz {κ:Type} [DecidableEq κ] {ls:List κ} {a b:Nat} {x y:κ} (ha:ls[a]? =some x) (hb:ls[b]? =some y):(num ls)[a]? =(num ls)[b]? ↔x=y:=by
 refine⟨num_inj ha hb,fun e=> ?_⟩
 subst e
 rw[num_at ha,num_at hb]
theorem mk0_at {mq:Nat->Bool} {W:Web} {r:Nat} {es:List (Nat×Nat)} (h:W[r]? =some es):(mk0 mq W)[r]? =some (es.length,.inl (mq r)):=by
 have:=(lJa.mp h).1
 simp[mk0,this,jUm h]
theorem mk1_at {W:Web} {m:List Nat} {r:Nat} {es:List (Nat×Nat)} (h:W[r]? =some es):(mk1 W m)[r]? =some (m.getD r 0,.inr (es.map fun e=>(e.2,m.getD e.1 0))):=by
 have:=(lJa.mp h).1
 simp[mk1,this,jUm h]
theorem alk_zero {mq:Nat->Bool} {W:Web} {r s:Nat} {es fs:List (Nat×Nat)} (hr:W[r]? =some es) (hs:W[s]? =some fs):Alk mq W 0 r s↔es.length=fs.length/\mq r=mq s:=by
 unfold Alk
 rw[show jKs mq W 0=num (mk0 mq W) from rfl,kQz (mk0_at hr) (mk0_at hs)]
 simp
theorem jUc {mq:Nat->Bool} {W:Web} {k r s:Nat} (hr:r<W.length) (hs:s<W.length):(jKs mq W k).getD r 0=(jKs mq W k).getD s 0↔Alk mq W k r s:=by
 unfold Alk
 have l:=jZi (mq:=mq) (W:=W) k
 rw[lQk,lQk,lJc (show r<(jKs mq W k).length by omega),lJc (show s<(jKs mq W k).length by omega)]
 simp
theorem alk_succ {mq:Nat->Bool} {W:Web} {k r s:Nat} {es fs:List (Nat×Nat)} (hr:W[r]? =some es) (hs:W[s]? =some fs):Alk mq W (k+1) r s↔Alk mq W k r s/\(es.map fun e=>(e.2,(jKs mq W k).getD e.1 0))=fs.map fun e=>(e.2,(jKs mq W k).getD e.1 0):=by
 rw[<-jUc (k:=k) (lJa.mp hr).1 (lJa.mp hs).1]
 refine (show ((num (mk1 W (jKs mq W k)))[r]? =(num (mk1 W (jKs mq W k)))[s]?)↔_ from ?_)
 rw[kQz (mk1_at hr) (mk1_at hs)]
 simp
theorem jXc {mq:Nat->Bool} {W:Web} (f:Fine W) {k r s:Nat} {es fs:List (Nat×Nat)} (hr:W[r]? =some es) (hs:W[s]? =some fs):Alk mq W (k+1) r s↔Alk mq W k r s/\es.length=fs.length/\∀(i:Nat) (e g:Nat×Nat),es[i]? =some e->fs[i]? =some g->e.2=g.2/\Alk mq W k e.1 g.1:=by
 rw[alk_succ hr hs]
 refine and_congr Iff.rfl ?_
 constructor
 ·intro h
  have hl:es.length=fs.length:=by have:=congrArg List.length h;simpa using this
  refine⟨hl,fun i e g he hg=> ?_⟩
  have h2:=congrArg (fun l=>l[i]?) h
  simp only[lJf,he,hg,lKx,Option.some.injEq,Prod.mk.injEq] at h2
  exact⟨h2.1,(jUc (f.rng r i e.1 e.2 (jQq hr he)) (f.rng s i g.1 g.2 (jQq hs hg))).mp h2.2⟩
 ·rintro⟨hl,h⟩
  apply lJ8
  intro i
  rw[lJf,lJf]
  by_cases hi:i<es.length
  ·have he:=lJc hi
   have hg:=lJc (show i<fs.length by omega)
   obtain⟨h1,h2⟩:=h i _ _ he hg
   rw[he,hg]
   simp only[lKx,Option.some.injEq,Prod.mk.injEq]
   exact⟨h1,(jUc (f.rng r i _ _ (jQq hr he)) (f.rng s i _ _ (jQq hs hg))).mpr h2⟩
  ·rw[lJh (by omega),lJh (by omega)]
noncomputable def PW (mq:Nat->Bool) (W:Web):List Nat->Nat->Nat->Prop
 | [],r,s=>¬ ((row W r).length=(row W s).length/\mq r=mq s)
 | d::p,r,s=>((row W r).length=(row W s).length/\mq r=mq s)/\∃e g,en W r d=some e/\en W s d=some g/\((e.2≠g.2/\p=[])\/(e.2=g.2/\PW mq W p e.1 g.1))
theorem kK8 {W:Web} {r:Nat} {es:List (Nat×Nat)} (h:W[r]? =some es):row W r=es:=by rw[row,h];rfl
theorem jXo {mq:Nat->Bool} {W:Web} (f:Fine W):∀(k r s:Nat),r<W.length->s<W.length->(Alk mq W k r s↔∀p:List Nat,p.length<=k->¬ PW mq W p r s):=by
 intro k
 induction k with
 | zero=>
  intro r s hr hs
  have h1:=lJc hr
  have h2:=lJc hs
  rw[alk_zero h1 h2]
  constructor
  ·intro h p hp
   have:p=[]:=lK9 (by omega)
   subst this
   rw[PW,kK8 h1,kK8 h2];exact fun z=>z h
  ·intro h
   have:=h [] (lJd _)
   rw[PW,kK8 h1,kK8 h2] at this
   exact lQe.mp this
 | succ k ih=>
  intro r s hr hs
  have h1:=lJc hr
  have h2:=lJc hs
  rw[jXc f h1 h2]
  constructor
  ·rintro⟨hA,hl,h⟩ p hp
   cases p with
   | nil=>exact (ih r s hr hs).mp hA [] (lJn _)
   | cons d q=>
    rw[PW]
    rintro⟨_,e,g,he,hg,z⟩
    obtain⟨es,q1,q2⟩:=jK1 he
    obtain⟨fs,q3,q4⟩:=jK1 hg
    rw[h1] at q1;cases q1
    rw[h2] at q3;cases q3
    obtain⟨a1,a2⟩:=h d e g q2 q4
    rcases z with ⟨z,_⟩ | ⟨_,z⟩
    ·exact z a1
    ·exact (ih e.1 g.1 (f.rng r d e.1 e.2 he) (f.rng s d g.1 g.2 hg)).mp a2 q (by simp at hp;omega) z
  ·intro h
   have hl:(W[r]).length=(W[s]).length/\mq r=mq s:=by
    have:=h [] (lJn _)
    rw[PW,kK8 h1,kK8 h2] at this
    exact lQe.mp this
   refine⟨(ih r s hr hs).mpr fun p hp=>h p (by omega),hl.1,fun i e g he hg=> ?_⟩
   have he':=jQq h1 he
   have hg':=jQq h2 hg
   have a1:e.2=g.2:=by
    apply lJ7
    intro z
    refine h [i] (by simp) ?_
    rw[PW,kK8 h1,kK8 h2]
    exact⟨hl,e,g,he',hg',.inl ⟨z,rfl⟩⟩
   refine⟨a1,(ih e.1 g.1 (f.rng r i e.1 e.2 he') (f.rng s i g.1 g.2 hg')).mpr fun q hq z=> ?_⟩
   refine h (i::q) (by simp;omega) ?_
   rw[PW,kK8 h1,kK8 h2]
   exact⟨hl,e,g,he',hg',.inr ⟨a1,z⟩⟩
noncomputable def lx:List Nat->List Nat->Prop
 | [],_=>False
 | _::_,[]=>False
 | a::u,b::v=>a<b\/(a=b/\lx u v)
def slt (u v:List Nat):Prop:=u.length<v.length\/(u.length=v.length/\lx u v)
theorem lx_irr:∀u:List Nat,¬ lx u u
 | []=>fun h=>h
 | a::u=>fun h=>by
  rcases h with h | ⟨_,h⟩
  ·exact lK0 _ h
  ·exact lx_irr u h
theorem lx_trans:∀ {u v w:List Nat},lx u v->lx v w->lx u w
 | [],_,_,h,_=>(show False from h).elim
 | _::_,[],_,h,_=>(show False from h).elim
 | _::_,_::_,[],_,h=>(show False from h).elim
 | a::u,b::v,c::w,h,k=>by
  rcases h with h | ⟨rfl,h⟩<;>rcases k with k | ⟨rfl,k⟩
  ·exact .inl (Nat.lt_trans h k)
  ·exact .inl h
  ·exact .inl k
  ·exact .inr ⟨rfl,lx_trans h k⟩
theorem lx_app {x y:List Nat}:∀ {u v:List Nat},u.length=v.length->lx u v->lx (u++x) (v++y)
 | [],_,_,h=>(show False from h).elim
 | _::_,[],_,h=>(show False from h).elim
 | a::u,b::v,e,h=>by
  rcases h with h | ⟨rfl,h⟩
  ·exact .inl h
  ·exact .inr ⟨rfl,lx_app (by simpa using e) h⟩
theorem lx_last {a b:Nat} (h:a<b):∀u:List Nat,lx (u++[a]) (u++[b])
 | []=> .inl h
 | _::u=> .inr ⟨rfl,lx_last h u⟩
theorem kUp {u:List Nat} (h:slt u u):False:=by
 rcases h with h | h
 ·exact lK0 _ h
 ·exact lx_irr u h.2
theorem jVy {u v w:List Nat} (h:slt u v) (k:slt v w):slt u w:=by
 rcases h with h | ⟨h,h'⟩<;>rcases k with k | ⟨k,k'⟩
 ·exact .inl (Nat.lt_trans h k)
 ·exact .inl (by omega)
 ·exact .inl (by omega)
 ·exact .inr ⟨h.trans k,lx_trans h' k'⟩
theorem kUo {u v:List Nat} {a b:Nat} (h:slt u v):slt (u++[a]) (v++[b]):=by
 rcases h with h | ⟨h,h'⟩
 ·exact .inl (by simp;exact h)
 ·exact .inr ⟨by simp;exact h,lx_app h h'⟩
theorem slt_last {u:List Nat} {a b:Nat} (h:a<b):slt (u++[a]) (u++[b]):= .inr ⟨by simp,lx_last h u⟩
def sle (u v:List Nat):Prop:=u=v\/slt u v
theorem sle_trans {u v w:List Nat} (h:sle u v) (k:sle v w):sle u w:=by
 rcases h with rfl | h
 ·exact k
 ·rcases k with rfl | k
  ·exact .inr h
  ·exact .inr (jVy h k)
theorem kUr {u v:List Nat} {d:Nat} (h:sle u v):sle (u++[d]) (v++[d]):=by
 rcases h with rfl | h
 ·exact .inl rfl
 ·exact .inr (kUo h)
theorem sle_anti {u v:List Nat} (h:sle u v) (k:sle v u):u=v:=by
 rcases h with h | h
 ·exact h
 ·rcases k with k | k
  ·exact k.symm
  ·exact (kUp (jVy h k)).elim
noncomputable def kXd (W:Web):Nat->List Nat->Nat->Prop
 | r,[],x=>r=x
 | r,d::u,x=>∃s j,en W r d=some (s,j)/\kXd W s u x
theorem kQ2 {W:Web} {x d y j:Nat} (h:en W x d=some (y,j)):∀ {u:List Nat} {r:Nat},kXd W r u x->kXd W r (u++[d]) y
 | [],r,e=>by cases (show r=x from e);exact⟨y,j,h,rfl⟩
 | c::u,r,⟨s,k,e,l⟩=>⟨s,k,e,kQ2 h l⟩
theorem jZ3 {W:Web} {d y:Nat}:∀ {u:List Nat} {r:Nat},kXd W r (u++[d]) y->∃x j,kXd W r u x/\en W x d=some (y,j)
 | [],r,⟨s,j,e,l⟩=>by cases (show s=y from l);exact⟨r,j,rfl,e⟩
 | c::u,r,⟨s,k,e,l⟩=>by
  obtain⟨x,j,h1,h2⟩:=jZ3 l
  exact⟨x,j,⟨s,k,e,h1⟩,h2⟩
noncomputable abbrev PE:=Nat×Option (Nat×Nat)×List Nat
structure Tr (W:Web) (r0 a j:Nat) (P:List PE):Prop where
 nd:(P.map Prod.fst).Nodup
 zero:P[0]? =some (r0,none,[])
 to:∀p,p∈P->kXd W r0 p.2.2 p.1
 par:∀p,p∈P->p=(r0,none,[])\/∃(i:Nat) (q:PE) (d:Nat),(i<a\/(i=a/\d<j))/\P[i]? =some q/\p.2.1=some (q.1,d)/\p.2.2=q.2.2++[d]
 inc:∀(i k:Nat) (p q:PE),i<k->P[i]? =some p->P[k]? =some q->slt p.2.2 q.2.2
 cl:∀(i:Nat) (p:PE) (d y k:Nat),(i<a\/(i=a/\d<j))->P[i]? =some p->en W p.1 d=some (y,k)->∃q,q∈P/\q.1=y/\sle q.2.2 (p.2.2++[d])
theorem tr_start {W:Web} {r0:Nat}:Tr W r0 0 0 [(r0,none,[])] where
 nd:=by simp
 zero:=rfl
 to:=fun p hp=>by rw[lJp.mp hp];rfl
 par:=fun p hp=> .inl (lJp.mp hp)
 inc:=fun i k p q h h1 h2=>by
  have:=(lJa.mp h2).1
  simp at this;omega
 cl:=fun i p d y k h=>by omega
theorem Tr.old {W:Web} {r0 a j:Nat} {P:List PE} {x:PE} (h:Tr W r0 a j P) (hx:P[a]? =some x):∀p,p∈P->slt p.2.2 (x.2.2++[j]):=by
 intro p hp
 rcases h.par p hp with rfl | ⟨i,q,d,hi,hq,_,e⟩
 ·exact .inl (by simp)
 ·rw[e]
  rcases hi with hi | ⟨rfl,hd⟩
  ·exact kUo (h.inc i a q x hi hq hx)
  ·rw[hx] at hq;cases hq
   exact slt_last hd
theorem Tr.skip {W:Web} {r0 a j y k:Nat} {P:List PE} {x:PE} (h:Tr W r0 a j P) (hx:P[a]? =some x) (he:en W x.1 j=some (y,k)) (hy:y∈P.map Prod.fst):Tr W r0 a (j+1) P where
 nd:=h.nd
 zero:=h.zero
 to:=h.to
 par:=fun p hp=>by
  rcases h.par p hp with e | ⟨i,q,d,hi,r⟩
  ·exact .inl e
  ·exact .inr ⟨i,q,d,by omega,r⟩
 inc:=h.inc
 cl:=fun i p d z k' hi hp hz=>by
  by_cases hh:i=a/\d=j
  ·obtain⟨rfl,rfl⟩:=hh
   rw[hx] at hp;cases hp
   rw[he] at hz;cases hz
   obtain⟨q,hq,rfl⟩:=lJ6.mp hy
   exact⟨q,hq,rfl,.inr (h.old hx q hq)⟩
  ·exact h.cl i p d z k' (by omega) hp hz
theorem Tr.add {W:Web} {r0 a j y k:Nat} {P:List PE} {x:PE} (h:Tr W r0 a j P) (hx:P[a]? =some x) (he:en W x.1 j=some (y,k)) (hy:y∉P.map Prod.fst):Tr W r0 a (j+1) (P++[(y,some (x.1,j),x.2.2++[j])]):=by
 have hal:a<P.length:=(lJa.mp hx).1
 have lf:∀ {i:Nat} {q:PE},P[i]? =some q->(P++[(y,some (x.1,j),x.2.2++[j])])[i]? =some q:=fun {i q} hq=>by
  rw[lJy (lJa.mp hq).1];exact hq
 have rt:∀ {i:Nat} {q:PE},(P++[(y,some (x.1,j),x.2.2++[j])])[i]? =some q->P[i]? =some q\/(i=P.length/\q=(y,some (x.1,j),x.2.2++[j])):=fun {i q} hq=>by
  by_cases hi:i<P.length
  ·rw[lJy hi] at hq;exact .inl hq
  ·have:=(lJa.mp hq).1
   simp at this
   have e:i=P.length:=by omega
   subst e
   rw[lKn (lJd _)] at hq
   simp at hq
   exact .inr ⟨rfl,hq.symm⟩
 refine⟨?_,lf h.zero,fun p hp=> ?_,fun p hp=> ?_,fun i m p q him hp hq=> ?_,fun i p d z k' hi hp hz=> ?_⟩
 ·rw[lKk,lK1]
  refine⟨h.nd,by simp,fun u hu v hv=> ?_⟩
  have:v=y:=by simpa using hv
  subst this
  rintro rfl;exact hy hu
 ·rcases (lJu.mp hp) with hp | hp
  ·exact h.to p hp
  ·rw[lJp.mp hp]
   exact kQ2 he (h.to x (lJg hx))
 ·rcases (lJu.mp hp) with hp | hp
  ·rcases h.par p hp with e | ⟨i,q,d,hi,hq,r⟩
   ·exact .inl e
   ·exact .inr ⟨i,q,d,by omega,lf hq,r⟩
  ·rw[lJp.mp hp]
   exact .inr ⟨a,x,j,by omega,lf hx,rfl,rfl⟩
 ·rcases rt hp with hp | ⟨rfl,rfl⟩<;>rcases rt hq with hq | ⟨rfl,rfl⟩
  ·exact h.inc i m p q him hp hq
  ·exact h.old hx p (lJg hp)
  ·have:=(lJa.mp hq).1
   omega
  ·omega
 ·rcases rt hp with hpo | ⟨rfl,rfl⟩
  ·by_cases hh:i=a/\d=j
   ·obtain⟨rfl,rfl⟩:=hh
    rw[hx] at hpo;cases hpo
    rw[he] at hz;cases hz
    exact⟨_,lJ2 _ (List.mem_singleton_self _),rfl,.inl rfl⟩
   ·obtain⟨q,h1,h2⟩:=h.cl i p d z k' (by omega) hpo hz
    exact⟨q,lK5 _ h1,h2⟩
  ·omega
theorem Tr.next {W:Web} {r0 a n:Nat} {P:List PE} {x:PE} (h:Tr W r0 a n P) (hx:P[a]? =some x) (hn:∀d e,en W x.1 d=some e->d<n):Tr W r0 (a+1) 0 P where
 nd:=h.nd
 zero:=h.zero
 to:=h.to
 par:=fun p hp=>by
  rcases h.par p hp with e | ⟨i,q,d,hi,r⟩
  ·exact .inl e
  ·exact .inr ⟨i,q,d,by omega,r⟩
 inc:=h.inc
 cl:=fun i p d z k' hi hp hz=>by
  refine h.cl i p d z k' ?_ hp hz
  by_cases hh:i=a
  ·subst hh
   rw[hx] at hp;cases hp
   exact .inr ⟨rfl,hn d _ hz⟩
  ·exact .inl (by omega)
theorem Tr.all {W:Web} {r0:Nat} {P:List PE} (h:Tr W r0 P.length 0 P):∀(n:Nat) (u:List Nat) (y:Nat),u.length=n->kXd W r0 u y->∃q,q∈P/\q.1=y/\sle q.2.2 u
 | 0,u,y,hn,hl=>by
  have:u=[]:=lKg.mp hn
  subst this
  cases (show r0=y from hl)
  exact⟨_,lJg h.zero,rfl,.inl rfl⟩
 | n+1,u,y,hn,hl=>by
  rcases List.eq_nil_or_concat u with rfl | ⟨u',d,rfl⟩
  ·simp at hn
  ·rw[List.concat_eq_append] at hl hn ⊢
   obtain⟨x,j,h1,h2⟩:=jZ3 hl
   obtain⟨q,hq,rfl,hs⟩:=h.all n u' x (by simpa using hn) h1
   obtain⟨i,hi⟩:=lJs hq
   obtain⟨q',a1,a2,a3⟩:=h.cl i q d y j (.inl (lJa.mp hi).1) hi h2
   exact⟨q',a1,a2,sle_trans a3 (kUr hs)⟩
noncomputable def Grd (mq:Nat->Bool) (W:Web):Nat->Nat->Nat->List Nat->Prop
 | 0,_,_,p=>p=[]
 | k+1,r,s,p=>∃d q e g,p=d::q/\en W r d=some e/\en W s d=some g/\¬(e.2=g.2/\Alk mq W k e.1 g.1)/\
   (∀d' e' g',d'<d->en W r d'=some e'->en W s d'=some g'->e'.2=g'.2/\Alk mq W k e'.1 g'.1)/\Grd mq W k e.1 g.1 q
theorem grd_least {mq:Nat->Bool} {W:Web} (f:Fine W):∀(k r s:Nat) (p:List Nat),r<W.length->s<W.length->(∀j,j<k->Alk mq W j r s)->¬ Alk mq W k r s->Grd mq W k r s p->
  p.length=k/\PW mq W p r s/\∀q,q.length=k->PW mq W q r s->q=p\/lx p q:=by
 intro k
 induction k with
 | zero=>
  intro r s p hr hs _ hn hp
  cases (show p=[] from hp)
  refine⟨rfl,?_,fun q hq _=> .inl (lK9 hq)⟩
  apply lJ7
  intro z
  refine hn ((jXo f 0 r s hr hs).mpr fun q hq hw=> ?_)
  have:q=[]:=lK9 (by omega)
  subst this;exact z hw
 | succ k ih=>
  intro r s p hr hs ha hn h_;apply xe4 h_;clear h_;intro d q e g h_;apply ae5 h_;clear h_;intro he hg hd hmin hq
  have hdeg:(row W r).length=(row W s).length/\mq r=mq s:=by
   have:=(jXo f 0 r s hr hs).mp (ha 0 (by omega)) [] (lJd _)
   rw[PW] at this
   exact lQe.mp this
  obtain⟨es,q1,q2⟩:=jK1 he
  obtain⟨fs,q3,q4⟩:=jK1 hg
  have hel:=f.rng r d e.1 e.2 he
  have hgl:=f.rng s d g.1 g.2 hg
  have key:q.length=k/\PW mq W (d::q) r s/\(∀q',q'.length=k->PW mq W q' e.1 g.1->q'=q\/lx q q'):=by
   by_cases h2:e.2=g.2
   ·have hna:¬ Alk mq W k e.1 g.1:=fun z=>hd ⟨h2,z⟩
    have hal:∀j,j<k->Alk mq W j e.1 g.1:=fun j hj=>(((jXc f q1 q3).mp (ha (j+1) (by omega))).2.2 d e g q2 q4).2
    obtain⟨a1,a2,a3⟩:=ih e.1 g.1 q hel hgl hal hna hq
    refine⟨a1,?_,a3⟩
    rw[PW]
    exact⟨hdeg,e,g,he,hg,.inr ⟨h2,a2⟩⟩
   ·have hk:k=0:=by
     apply lJ7
     intro z
     exact h2 (((jXc f q1 q3).mp (ha 1 (by omega))).2.2 d e g q2 q4).1
    subst hk
    cases (show q=[] from hq)
    refine⟨rfl,?_,fun q' h _=> .inl (lK9 h)⟩
    rw[PW]
    exact⟨hdeg,e,g,he,hg,.inl ⟨h2,rfl⟩⟩
  obtain⟨k1,k2,k3⟩:=key
  refine⟨by simp[k1],k2,fun u hu hw=> ?_⟩
  cases u with
  | nil=>simp at hu
  | cons d' u=>
   have hul:u.length=k:=by simpa using hu
   rw[PW] at hw
   obtain⟨_,e',g',he',hg',z⟩:=hw
   have hge:d<=d':=by
    apply lJ7
    intro y
    obtain⟨b1,b2⟩:=hmin d' e' g' (by omega) he' hg'
    rcases z with ⟨z,_⟩ | ⟨_,z⟩
    ·exact z b1
    ·exact (jXo f k e'.1 g'.1 (f.rng r d' e'.1 e'.2 he') (f.rng s d' g'.1 g'.2 hg')).mp b2 u (by omega) z
   by_cases y:d=d'
   ·subst y
    rw[he] at he';cases he'
    rw[hg] at hg';cases hg'
    rcases z with ⟨z,hu0⟩ | ⟨_,z⟩
    ·subst hu0
     have:q=[]:=lK9 (by simp at hul;omega)
     subst this;exact .inl rfl
    ·rcases k3 u hul z with w | w
     ·exact .inl (by rw[w])
     ·exact .inr (.inr ⟨rfl,w⟩)
   ·exact .inr (.inl (by omega))
theorem kXb {mq:Nat->Bool} {W:Web} (f:Fine W) {k r s:Nat} (hr:r<W.length) (hs:s<W.length) (h:Alk mq W (k+1) r s):Alk mq W k r s:=
 (jXo f k r s hr hs).mpr fun p hp=>(jXo f (k+1) r s hr hs).mp h p (by omega)
theorem cnt_eq {p q:Nat->Bool}:∀l:List Nat,(∀x,x∈l->p x=true->q x=true)->l.countP p=l.countP q->∀x,x∈l->q x=true->p x=true
 | [],_,_,x,hx,_=>by cases hx
 | a::l,h,e,x,hx,hq=>by
  have hm:l.countP p<=l.countP q:=List.countP_mono_left fun x hx=>h x (lKa _ hx)
  rw[List.countP_cons,List.countP_cons] at e
  have h0:=h a lKb
  by_cases h1:p a=true
  ·rw[if_pos h1,if_pos (h0 h1)] at e
   rcases (lJk.mp hx) with rfl | z
   ·exact h1
   ·exact cnt_eq l (fun x hx=>h x (lKa _ hx)) (by omega) x z hq
  ·by_cases h2:q a=true
   ·rw[if_neg h1,if_pos h2] at e;omega
   ·rw[if_neg h1,if_neg h2] at e
    rcases (lJk.mp hx) with rfl | z
    ·exact absurd hq h2
    ·exact cnt_eq l (fun x hx=>h x (lKa _ hx)) (by omega) x z hq
open Classical in
noncomputable def isLd (mq:Nat->Bool) (W:Web) (k r:Nat):Bool:=decide (∀s,s<r->¬ Alk mq W k r s)
theorem isLd_iff {mq:Nat->Bool} {W:Web} {k r:Nat}:isLd mq W k r=true↔∀s,s<r->¬ Alk mq W k r s:=by unfold isLd;simp only[decide_eq_true_eq]
noncomputable def cnt (mq:Nat->Bool) (W:Web) (k:Nat):Nat:=(List.range W.length).countP (isLd mq W k)
theorem ld_up {mq:Nat->Bool} {W:Web} (f:Fine W) {k r:Nat} (hr:r<W.length) (h:isLd mq W k r=true):isLd mq W (k+1) r=true:=
 isLd_iff.mpr fun s hs z=>isLd_iff.mp h s hs (kXb f hr (by omega) z)
theorem cnt_up {mq:Nat->Bool} {W:Web} (f:Fine W) (k:Nat):cnt mq W k<=cnt mq W (k+1):=List.countP_mono_left fun x hx=>ld_up f (lJt.mp hx)
theorem ld_of {mq:Nat->Bool} {W:Web} {k:Nat}:∀(n r:Nat),r<=n->∃l,l<=r/\Alk mq W k r l/\isLd mq W k l=true
 | 0,r,h=>⟨r,lJd _,rfl,isLd_iff.mpr fun s hs=>by omega⟩
 | n+1,r,h=>by
  by_cases z:isLd mq W k r=true
  ·exact⟨r,lJd _,rfl,z⟩
  ·rw[isLd_iff] at z
   have⟨s,hs⟩:=Classical.not_forall.mp z
   have⟨h1,h2⟩:=Classical.not_imp.mp hs
   obtain⟨l,a1,a2,a3⟩:=ld_of n s (by omega)
   exact⟨l,by omega,(lQe.mp h2).trans a2,a3⟩
theorem same_of {mq:Nat->Bool} {W:Web} (f:Fine W) {k:Nat} (e:cnt mq W k=cnt mq W (k+1)) {r s:Nat} (hr:r<W.length) (hs:s<W.length) (h:Alk mq W k r s):Alk mq W (k+1) r s:=by
 obtain⟨a,a1,a2,a3⟩:=ld_of (mq:=mq) (W:=W) (k:=k+1) r r (lJd _)
 obtain⟨b,b1,b2,b3⟩:=ld_of (mq:=mq) (W:=W) (k:=k+1) s s (lJd _)
 have la:=cnt_eq _ (fun x hx=>ld_up f (lJt.mp hx)) e a (lJt.mpr (by omega)) a3
 have lb:=cnt_eq _ (fun x hx=>ld_up f (lJt.mp hx)) e b (lJt.mpr (by omega)) b3
 have hab:Alk mq W k a b:=((kXb f hr (by omega) a2).symm.trans h).trans (kXb f hs (by omega) b2)
 have:a=b:=by
  rcases lKz a b with z | z | z
  ·exact absurd hab.symm (isLd_iff.mp lb a z)
  ·exact z
  ·exact absurd hab (isLd_iff.mp la b z)
 subst this
 exact a2.trans b2.symm
theorem stop_on {mq:Nat->Bool} {W:Web} (f:Fine W) {k:Nat} (h:∀r s,r<W.length->s<W.length->Alk mq W k r s->Alk mq W (k+1) r s):∀(j r s:Nat),r<W.length->s<W.length->Alk mq W k r s->Alk mq W (k+j) r s
 | 0,_,_,_,_,z=>z
 | j+1,r,s,hr,hs,z=>by
  have z1:=h r s hr hs z
  have h1:=lJc hr
  have h2:=lJc hs
  obtain⟨_,c1,c2⟩:=(jXc f h1 h2).mp z1
  exact (jXc f h1 h2).mpr ⟨stop_on f h j r s hr hs z,c1,fun i e g he hg=>⟨(c2 i e g he hg).1,stop_on f h j e.1 g.1 (f.rng r i e.1 e.2 (jQq h1 he)) (f.rng s i g.1 g.2 (jQq h2 hg)) (c2 i e g he hg).2⟩⟩
theorem cnt_grow {mq:Nat->Bool} {W:Web} (f:Fine W):∀n,(∀k,k<n->cnt mq W k≠cnt mq W (k+1))->n<=cnt mq W n
 | 0,_=>lJn _
 | n+1,h=>by
  have:=cnt_grow (mq:=mq) f n fun k hk=>h k (by omega)
  have a:=cnt_up (mq:=mq) f n
  have b:=h n (by omega)
  omega
theorem alk_all {mq:Nat->Bool} {W:Web} (f:Fine W) {r s:Nat} (hr:r<W.length) (hs:s<W.length) (h:∀j,j<=W.length->Alk mq W j r s):∀j,Alk mq W j r s:=by
 have hex:∃k,k<=W.length/\cnt mq W k=cnt mq W (k+1):=by
  apply lJ7
  intro z
  have:=cnt_grow (mq:=mq) f (W.length+1) fun k hk e=>z ⟨k,by omega,e⟩
  have le:cnt mq W (W.length+1)<=W.length:=by
   have:=List.countP_le_length (p:=isLd mq W (W.length+1)) (l:=List.range W.length)
   rw[lKl] at this;exact this
  omega
 obtain⟨k,hk,e⟩:=hex
 intro j
 by_cases z:j<=k
 ·exact h j (by omega)
 ·have:=stop_on f (fun r s=>same_of f e) (j-k) r s hr hs (h k hk)
  rwa [show k+(j-k)=j by omega] at this
theorem no_PW {mq:Nat->Bool} {W:Web} (f:Fine W) {r s:Nat} (hr:r<W.length) (hs:s<W.length) (h:∀j,j<=W.length->Alk mq W j r s) (p:List Nat):¬ PW mq W p r s:=
 (jXo f p.length r s hr hs).mp (alk_all f hr hs h _) p (lJd _)
noncomputable def nuF (nu:List Nat) (x:Nat):Nat:=(nu[x]?).getD x
noncomputable def renE (nu:List Nat) (es:List (Nat×Nat)):List (Nat×Nat):=es.map fun e=>(nuF nu e.1,e.2)
structure Ren (W:Web) (nu:List Nat) (V:Web):Prop where
 len:V.length=W.length
 at':∀(r:Nat) (es:List (Nat×Nat)),W[r]? =some es->V[nuF nu r]? =some (renE nu es)
theorem kJa {nu:List Nat} {x y:Nat} (h:nu[x]? =some y):nuF nu x=y:=by unfold nuF;rw[h];rfl
theorem kKe {nu:List Nat} {x:Nat} (h:nu.length<=x):nuF nu x=x:=by unfold nuF;rw[lJh h];rfl
theorem nuF_lt {n:Nat} {nu:List Nat} (t:Turn n nu) {x:Nat} (h:x<n):nuF nu x<n:=by
 obtain⟨y,hy,hl⟩:=t.at h
 rw[kJa hy];exact hl
theorem nuF_inj {n:Nat} {nu:List Nat} (t:Turn n nu) {x y:Nat} (h:nuF nu x=nuF nu y):x=y:=by
 rcases lJ9 x n with hx | hx<;>rcases lJ9 y n with hy | hy
 ·obtain⟨a,ha,_⟩:=t.at hx
  obtain⟨b,hb,_⟩:=t.at hy
  rw[kJa ha,kJa hb] at h
  subst h
  exact (lK2 (by rw[t.len];exact hx) t.nd).mp (ha.trans hb.symm)
 ·have:=nuF_lt t hx;rw[h,kKe (by rw[t.len];exact hy)] at this;omega
 ·have:=nuF_lt t hy;rw[<-h,kKe (by rw[t.len];exact hx)] at this;omega
 ·rw[kKe (by rw[t.len];exact hx),kKe (by rw[t.len];exact hy)] at h;exact h
theorem jZe {n:Nat} {nu:List Nat} (t:Turn n nu) {y:Nat} (h:y<n):∃x,x<n/\nuF nu x=y:=by
 have hm:=kKf t.nd t.lt t.len y h
 obtain⟨x,hx⟩:=lJs hm
 exact⟨x,by have:=(lJa.mp hx).1;rw[t.len] at this;exact this,kJa hx⟩
theorem ren_en {W V:Web} {nu:List Nat} (t:Turn W.length nu) (h:Ren W nu V) (r i:Nat):en V (nuF nu r) i=(en W r i).map fun e=>(nuF nu e.1,e.2):=by
 unfold en
 rcases lJ9 r W.length with hr | hr
 ·have hW:W[r]? =some W[r]:=lJc hr
  rw[hW,h.at' r _ hW]
  show (renE nu W[r])[i]? =_
  rw[renE,lJf];rfl
 ·rw[lJh hr,kKe (by rw[t.len];exact hr),lJh (by rw[h.len];exact hr)];rfl
theorem conn_from {W:Web} (sym:Sym W) (c:Conn W) {r0:Nat} (hr:r0<W.length) (S:Nat->Prop) (h0:S r0) (cl:∀r i s j,S r->en W r i=some (s,j)->S s):∀r,r<W.length->S r:=
 c S (c (fun x=>S x->S 0) (fun h=>h) (fun x i s j hx he hs=>hx (cl s j x i hs (sym _ _ _ _ he))) r0 hr h0) cl
theorem ren_any {W V:Web} {nu:List Nat} (t:Turn W.length nu) (h:Ren W nu V) (a:AnyWeb W):AnyWeb V:=by
 have back:∀r i e,en V r i=some e->∃x d,nuF nu x=r/\en W x i=some d/\e=(nuF nu d.1,d.2):=by
  intro r i e he
  have hr:=jZ7 he
  rw[h.len] at hr
  obtain⟨x,hx,rfl⟩:=jZe t hr
  rw[ren_en t h] at he
  obtain⟨d,hd,rfl⟩:=lKf.mp he
  exact⟨x,d,rfl,hd,rfl⟩
 refine⟨by rw[h.len];exact a.pos,by rw[h.len];exact a.len,?_,?_,?_⟩
 ·intro r i s j he
  obtain⟨x,d,rfl,hd,e⟩:=back r i _ he
  cases e
  rw[ren_en t h,a.sym _ _ d.1 d.2 hd];rfl
 ·intro r es hr
  have hrl:=(lJa.mp hr).1
  rw[h.len] at hrl
  obtain⟨x,hx,rfl⟩:=jZe t hrl
  have hW:W[x]? =some W[x]:=lJc hx
  rw[h.at' x _ hW] at hr;cases hr
  rw[renE,lJb];exact a.deg x _ hW
 ·intro S h0 cl r hr
  rw[h.len] at hr
  have ap:=a.pos
  obtain⟨z,hz,e0⟩:=jZe t (show 0<W.length by omega)
  obtain⟨x,hx,rfl⟩:=jZe t hr
  exact conn_from a.sym a.conn hz (fun x=>S (nuF nu x)) (by show S (nuF nu z);rw[e0];exact h0) (fun r i s j hS he=>cl _ i _ j hS (by rw[ren_en t h,he];rfl)) x hx
noncomputable def renW (W:Web) (nu:List Nat):Web:=(List.range W.length).map fun i=>renE nu (row W (nu.idxOf i))
theorem renW_ok {W:Web} {nu:List Nat} (t:Turn W.length nu):Ren W nu (renW W nu):=by
 refine⟨by simp[renW],fun r es hr=> ?_⟩
 have hrl:=(lJa.mp hr).1
 obtain⟨x,hx,hxl⟩:=t.at hrl
 have hi:=List.idxOf_lt_length_of_mem (lJg hx)
 have e1:nu[nu.idxOf x]? =some x:=by rw[lJc hi,List.getElem_idxOf]
 have e2:nu.idxOf x=r:=(lK2 hi t.nd).mp (e1.trans hx.symm)
 rw[kJa hx]
 unfold renW
 rw[lJf,lKs hxl]
 show some (renE nu (row W (nu.idxOf x)))=_
 rw[e2,jUm hr]
theorem made_is {W V:Web} {nu:List Nat} {ms:List T} (t:Turn W.length nu) (h:Ren W nu V) (hl:ms.length=W.length) (hm:∀(r:Nat) (es:List (Nat×Nat)),r<W.length->W[r]? =some es->ms[nuF nu r]? =some (encR (renE nu es))):ms=V.map encR:=by
 apply lJ8
 intro i
 rcases lJ9 i W.length with hi | hi
 ·obtain⟨x,hx,rfl⟩:=jZe t hi
  have hW:W[x]? =some W[x]:=lJc hx
  rw[hm x _ hx hW,lJf,h.at' x _ hW];rfl
 ·rw[lJh (by omega),lJh (by rw[lJb,h.len];exact hi)]
noncomputable def jKo:Sp3:=fun xs G Q=>∃(b:Addr) (W:Web) (n:Nat),xs=[.ref b,encW W]/\BoxAt G b n/\n+1000<2^40/\AnyWeb W/\∀nu V G',Turn W.length nu->Ren W nu V->BoxAt G' b (n+W.length)->Keep b G G'->Q (.tup [encW V,.tup (jJk nu)]) G'
noncomputable def kK2:List Str:=["_law_box_here","_law_web_here","_law_numbers","_law_made","_law_room","_law_other","_law_door"]
noncomputable def jVp:TS3:=
 (tSeq (tAsg (jJo jQi (jJa (tVar 0) (jJa (tCB rLen (jJa (tVar 1) tNil)) (jJa (tC (.bl false)) tNil)))) (jJj 2))
 (tSeq (tAsg (tOp jXt (tLst (jJa (tC .non) tNil)) (tCB rLen (jJa (tVar 1) tNil))) (jJj 3))
 (tSeq (tFor (jKv (jJa (tCB rLen (jJa (tVar 1) tNil)) tNil)) (jJj 4) (tAsg (tCB jKm (jJa (jQ3 [false,false,false,false,false,true,true] (iSeq (tOp rIxF (tVar 1) (tVar 4))) (gTup 2 (jKb (jJj 5) (jKb (jJj 6) gNil))) jUo (tTup (jJa (tOp rIxF (tVar 2) (tVar 5)) (jJa (tVar 6) tNil)))) tNil)) (gSub (tVar 3) (tOp rIxF (tVar 2) (tVar 4)) jXx)))
 (tRet (tTup (jJa (tCB jKm (jJa (tVar 3) tNil)) (jJa (tVar 2) tNil)))))))
theorem kQb:∀xs G Q,jKo xs G Q->jVp {nx:=fun _ G'=>Q .non G',rt:=Q} (jJm kK2 xs) G:=by
 intro xs G Q h_;apply xe3 h_;clear h_;intro b W n h_;apply ae4 h_;clear h_;intro hb hn any kk
 rw[show jJm kK2 [.ref b,encW W]=[some (.ref b),some (.tup (W.map encR)),none,none,none,none,none] from rfl]
 have hs:=sz
 have hW1:=any.pos
 have hW2:=any.len
 have fine:=any.fine
 wp_walk using 1,jVp,jJ5,jKv,lJb
 refine⟨b,W.length,n,false,rfl,hb,by omega,hW1,by omega,fun nu G1 t _ b1 k1=> ?_⟩
 obtain⟨bo,hbo⟩:=b1.some
 wp_walk using 1,lJb
 refine⟨by omega,fun z hz=> ?_⟩
 have e1:mulR (gup G1 z (GO.lst [T.non])) (.ref z) (.int (W.length:Nat))=some (.newL (List.replicate W.length T.non)):=by
  simp only[mulR,jJg];rw[if_pos]
  ·congr 2
   rw[show ((W.length:Nat):Int).toNat=W.length by omega]
   induction W.length with
   | zero=>rfl
   | succ n ih=>rw[lKd,lKv,ih,lKd];rfl
  ·refine⟨?_,?_,?_⟩<;>simp<;>omega
 refine⟨_,e1,?_⟩
 rw[jYw]
 intro p hp
 have hbz:b≠z:=jJe hbo hz
 have hzp:z≠p:=jJe (jJg (G:=G1) (a:=z) (o:= .lst [T.non])) hp
 have hp1:G1 p=none:=by rw[jJt hzp.symm] at hp;exact hp
 have hbp:b≠p:=jJe hbo hp1
 have hpG:G p=none:=k1.none hbp.symm hp1
 refine⟨by omega,by omega,?_⟩
 refine⟨fun k τ G'=>∃(v4 v5 v6:Option T) (ms:List T),τ=[some (.ref b),some (.tup (W.map encR)),some (.tup (jJk nu)),some (.ref p),v4,v5,v6]/\G' p=some (.lst ms)/\ms.length=W.length/\(∀(r:Nat) (es:List (Nat×Nat)),r<k->W[r]? =some es->ms[nuF nu r]? =some (encR (renE nu es)))/\Sub G1 G',?_,?_,?_,?_⟩
 ·exact⟨none,none,none,_,rfl,jJg,by simp,fun r es h=>absurd h (lQc _),(Sub.new hz).trans (.new hp)⟩
 ·intros;trivial
 ·intro k y τ G2 hy h_;apply xe4 h_;clear h_;intro v4 v5 v6 ms h_;apply ae4 h_;clear h_;intro h1 h2 h3 h4
  obtain⟨hk,rfl⟩:=jU8 hy
  have hk':k<W.length:=by omega
  have he:W[k]? =some W[k]:=lJc hk'
  generalize W[k]=es at he
  have hel:=any.deg k es he
  obtain⟨x,hx,hxl⟩:=t.at hk'
  wp_walk using 1,iSeq,jQe he,encR
  refine jQh (fun e=>encE (nuF nu e.1,e.2)) (by omega) (fun _ _=>trivial) ?_ ?_
  ·intro i e hi G3 K K0 s hK
   have hex:=fine.rng k i e.1 e.2 (jQq he hi)
   obtain⟨y,hy,_⟩:=t.at hex
   wp_walk using 1,encE,kVz hy
   rw[encE,kJa hy] at hK
   exact⟨by omega,hK G3 (.refl _)⟩
  ·intro D G3 hD q1 q2
   refine⟨_,jJp q1,?_⟩
   have hp3:=q2 _ _ h1
   wp_walk using 1,kVz hx,setR_m hp3
   rw[kVk (show x<ms.length by rw[h2];exact hxl)]
   refine⟨_,rfl,ms.set x (encR (renE nu es)),(by show gup _ _ _ _=_;rw[jJg,encR,renE,lJw];rfl),by rw[lKo];exact h2,fun r es' hr he'=> ?_,(h4.trans q2).over hp1⟩
   rcases Nat.lt_or_eq_of_le (Nat.le_of_lt_succ hr) with h | rfl
   ·rw[lJx (fun e=> ?_)]
    ·exact h3 r es' h he'
    ·have:=nuF_inj t ((kJa hx).trans e)
     omega
   ·rw[he] at he';cases he'
    rw[kJa hx,lJ1 (by rw[h2];exact hxl)];rfl
 ·intro τ G2 h_;apply xe4 h_;clear h_;intro v4 v5 v6 ms h_;apply ae4 h_;clear h_;intro h1 h2 h3 h4
  wp_walk using 1,tSeq
  refine⟨_,jJp h1,by omega,?_⟩
  rw[made_is t (renW_ok t) h2 fun r es hr=>h3 r es (by rw[rngT,lJb,lKl];omega)]
  exact kk nu (renW W nu) G2 t (renW_ok t) (b1.sub h4) (k1.trans (.sub h4))
structure OkD (d:Nat) (x:T):Prop where
 tr:tree x=true
 lay:(td x).canLay0=true
 dep:(td x).depth<=d
theorem okD_int {i:Int}:OkD 0 (.int i):=⟨rfl,rfl,Nat.le_of_eq (by simp[td,PyData.depth])⟩
theorem okD_all {d:Nat}:∀xs:List T,(∀x,x∈xs->OkD d x)->jUf xs=true/\PyData.canLayAll0 (tds xs)=true/\PyData.depthAll (tds xs)<=d
 | [],_=>⟨rfl,by simp[tds,PyData.canLayAll0],by simp[tds,PyData.depthAll]⟩
 | x::xs,h=>by
  obtain⟨a1,a2,a3⟩:=okD_all xs fun y hy=>h y (lKa _ hy)
  obtain⟨b1,b2,b3⟩:=h x (lKb ..)
  refine⟨?_,?_,?_⟩
  ·show (tree x&&jUf xs)=true;rw[a1,b1];rfl
  ·rw[tds,PyData.canLayAll0,a2,b2];rfl
  ·rw[tds,PyData.depthAll];omega
theorem okD_tup {d:Nat} {xs:List T} (h:∀x,x∈xs->OkD d x):OkD (d+1) (.tup xs):=by
 obtain⟨a1,a2,a3⟩:=okD_all xs h
 exact⟨a1,by rw[td,PyData.canLay0];exact a2,by rw[td,PyData.depth];omega⟩
theorem OkD.mono {d d':Nat} {x:T} (h:OkD d x) (l:d<=d'):OkD d' x:=⟨h.tr,h.lay,lJo h.dep l⟩
mutual
theorem eqT_refl:∀x:T,tree x=true->eqT x x=true
 | .non,_=>rfl
 | .bl b,_=>by simp[eqT]
 | .int i,_=>by simp[eqT]
 | .str _,_=>by simp[eqT]
 | .tup xs,h=>eqTs_refl xs h
 | .scr _,h=>nomatch h
 | .ref _,h=>nomatch h
 | .ty _,h=>nomatch h
theorem eqTs_refl:∀xs:List T,jUf xs=true->eqTs xs xs=true
 | [],_=>rfl
 | x::xs,h=>by
  have h':(tree x&&jUf xs)=true:=h
  rw[lJ3] at h'
  show (eqT x x&&eqTs xs xs)=true
  rw[eqT_refl x h'.1,eqTs_refl xs h'.2];rfl
end
theorem okI:∀w:List Nat,jUf (jJk w)=true/\PyData.canLayAll0 (tds (jJk w))=true/\PyData.depthAll (tds (jJk w))<=1
 | []=>⟨rfl,by simp[jJk,tds,PyData.canLayAll0],by simp[jJk,tds,PyData.depthAll]⟩
 | a::w=>by
  obtain⟨a1,a2,a3⟩:=okI w
  refine⟨?_,?_,?_⟩
  ·show (tree (.int a)&&jUf (jJk w))=true;rw[a1];rfl
  ·show PyData.canLayAll0 (td (.int a)::tds (jJk w))=true;rw[PyData.canLayAll0,a2];rfl
  ·show PyData.depthAll (td (.int a)::tds (jJk w))<=1;rw[PyData.depthAll];simp[td,PyData.depth];exact a3
theorem jZm {α:Type} [DecidableEq α] {f:α->T} (h:∀x y,eqT (f x) (f y)=decide (x=y)):∀xs ys:List α,eqTs (xs.map f) (ys.map f)=decide (xs=ys)
 | [],[]=>by simp[eqTs]
 | [],_::_=>by simp[eqTs]
 | _::_,[]=>by simp[eqTs]
 | x::xs,y::ys=>by
  show (eqT (f x) (f y)&&eqTs (xs.map f) (ys.map f))=_
  rw[h,jZm h xs ys]
  by_cases e:x=y
  ·subst e;by_cases e2:xs=ys<;>simp[e2]
  ·simp[e]
theorem kVq (x y:Nat):eqT (.int x) (.int y)=decide (x=y):=by
 by_cases h:x=y
 ·subst h;simp[eqT]
 ·have:¬ (x:Int)=y:=by omega
  simp[eqT,h,this]
theorem eqG_lists {G:Gp} {p q:Addr} {a b:List Nat} (h1:G p=some (.lst (jJk a))) (h2:G q=some (.lst (jJk b))):eqG G (.ref p) (.ref q)=some (decide (a=b)):=by
 have ok:∀F:List Nat,kVr (jJk F)=true:=by
  intro F
  obtain⟨a1,a2,a3⟩:=okI F
  unfold kVr
  rw[a1,a2,decide_eq_true (show (PyData.list (tds (jJk F))).depth<=50 by rw[PyData.depth];omega)];rfl
 have:eqG G (.ref p) (.ref q)=if kVr (jJk a)=true/\kVr (jJk b)=true then some (eqTs (jJk a) (jJk b)) else none:=by simp only[eqG,h1,h2]
 rw[this,if_pos ⟨ok a,ok b⟩,show jJk a=a.map (fun x=>T.int (x:Nat)) from rfl,show jJk b=b.map (fun x=>T.int (x:Nat)) from rfl,jZm kVq]
noncomputable def wayT (p:List Nat):T:= .tup (jJk p)
noncomputable def oWay:Option (List Nat)->T
 | none=> .non
 | some p=>wayT p
theorem dm {e g n:Nat} (h:g<n):(e*n+g) / n=e/\(e*n+g)%n=g:=by
 rw[Nat.mul_comm]
 exact⟨by rw[Nat.mul_add_div (by omega),Nat.div_eq_of_lt h];omega,by rw[Nat.mul_add_mod,lKh h]⟩
theorem en_row {W:Web} {r d:Nat}:en W r d=(row W r)[d]? :=by
 unfold en row
 cases W[r]? with
 | none=>rfl
 | some es=>rfl
theorem lx_tri:∀u v:List Nat,u.length=v.length->lx u v\/u=v\/lx v u
 | [],[],_=> .inr (.inl rfl)
 | [],_::_,h=>by simp at h
 | _::_,[],h=>by simp at h
 | a::u,b::v,h=>by
  rcases lKz a b with z | z | z
  ·exact .inl (.inl z)
  ·subst z
   rcases lx_tri u v (by simpa using h) with y | y | y
   ·exact .inl (.inr ⟨rfl,y⟩)
   ·exact .inr (.inl (by rw[y]))
   ·exact .inr (.inr (.inr ⟨rfl,y⟩))
  ·exact .inr (.inr (.inl z))
theorem slt_tri (u v:List Nat):slt u v\/u=v\/slt v u:=by
 rcases lKz u.length v.length with z | z | z
 ·exact .inl (.inl z)
 ·rcases lx_tri u v z with y | y | y
  ·exact .inl (.inr ⟨z,y⟩)
  ·exact .inr (.inl y)
  ·exact .inr (.inr (.inr ⟨z.symm,y⟩))
 ·exact .inr (.inr (.inl z))
noncomputable def prodW (U V:Web):Web:=(List.range (U.length*V.length)).map fun x=>((row U (x / V.length)).zip (row V (x%V.length))).map fun p=>(p.1.1*V.length+p.2.1,0)
theorem prod_at {U V:Web} {x:Nat} (h:x<U.length*V.length):(prodW U V)[x]? =some (((row U (x / V.length)).zip (row V (x%V.length))).map fun p=>(p.1.1*V.length+p.2.1,0)):=by simp[prodW,h]
theorem en_prod {U V:Web} {x d:Nat} {e g:Nat×Nat} (h:x<U.length*V.length) (he:en U (x / V.length) d=some e) (hg:en V (x%V.length) d=some g):en (prodW U V) x d=some (e.1*V.length+g.1,0):=by
 rw[en_row] at he hg
 refine jQq (prod_at h) ?_
 rw[lJf,List.getElem?_zip_eq_some (z:=(e,g)) |>.mpr ⟨he,hg⟩];rfl
theorem en_prod_inv {U V:Web} {x d y j:Nat} (h:en (prodW U V) x d=some (y,j)):∃e g,en U (x / V.length) d=some e/\en V (x%V.length) d=some g/\y=e.1*V.length+g.1/\x<U.length*V.length:=by
 obtain⟨es,h1,h2⟩:=jK1 h
 have hx:x<U.length*V.length:=by have:=(lJa.mp h1).1;simpa[prodW] using this
 rw[prod_at hx] at h1
 cases h1
 rw[lJf] at h2
 obtain⟨p,hp,e⟩:=lKf.mp h2
 obtain⟨z1,z2⟩:=List.getElem?_zip_eq_some.mp hp
 exact⟨p.1,p.2,by rw[en_row];exact z1,by rw[en_row];exact z2,(congrArg Prod.fst e).symm,hx⟩
noncomputable def PX (X:Nat->Nat->Prop) (U V:Web):List Nat->Nat->Nat->Prop
 | [],r,s=>X r s
 | d::p,r,s=>¬ X r s/\∃e g,en U r d=some e/\en V s d=some g/\((e.2≠g.2/\p=[])\/(e.2=g.2/\PX X U V p e.1 g.1))
def XL (U V:Web) (r s:Nat):Prop:=(row U r).length≠(row V s).length
def Bad (X:Nat->Nat->Prop) (U V:Web) (r s d:Nat):Prop:=∃e g,en U r d=some e/\en V s d=some g/\(e.2≠g.2\/X e.1 g.1)
noncomputable def Go (X:Nat->Nat->Prop) (U V:Web):List Nat->Nat->Nat->Nat->Nat->Prop
 | [],a,b,r,s=>a=r/\b=s/\¬ X a b
 | d::u,a,b,r,s=>¬ X a b/\∃e g,en U a d=some e/\en V b d=some g/\e.2=g.2/\Go X U V u e.1 g.1 r s
theorem go_snoc {X:Nat->Nat->Prop} {U V:Web} {r s d:Nat} {e g:Nat×Nat} (he:en U r d=some e) (hg:en V s d=some g) (h2:e.2=g.2) (hX:¬ X e.1 g.1):∀ {u:List Nat} {a b:Nat},Go X U V u a b r s->Go X U V (u++[d]) a b e.1 g.1
 | [],a,b,h=>by
  obtain⟨rfl,rfl,h0⟩:=h
  exact⟨h0,e,g,he,hg,h2,rfl,rfl,hX⟩
 | c::u,a,b,h=>by
  obtain⟨h0,e',g',h1,h3,h4,h5⟩:=h
  exact⟨h0,e',g',h1,h3,h4,go_snoc he hg h2 hX h5⟩
theorem go_px {X:Nat->Nat->Prop} {U V:Web} {r s d:Nat} (hb:Bad X U V r s d):∀ {u:List Nat} {a b:Nat},Go X U V u a b r s->PX X U V (u++[d]) a b
 | [],a,b,h=>by
  obtain⟨rfl,rfl,h0⟩:=h
  obtain⟨e,g,he,hg,z⟩:=hb
  refine⟨h0,e,g,he,hg,?_⟩
  by_cases y:e.2=g.2
  ·exact .inr ⟨y,z.resolve_left fun q=>q y⟩
  ·exact .inl ⟨y,rfl⟩
 | c::u,a,b,h=>by
  obtain⟨h0,e',g',h1,h3,h4,h5⟩:=h
  exact⟨h0,e',g',h1,h3,.inr ⟨h4,go_px hb h5⟩⟩
theorem prod_lt {U V:Web} (fU:Fine U) (fV:Fine V) {x d:Nat} {e g:Nat×Nat} (he:en U (x / V.length) d=some e) (hg:en V (x%V.length) d=some g):e.1*V.length+g.1<U.length*V.length/\(e.1*V.length+g.1) / V.length=e.1/\(e.1*V.length+g.1)%V.length=g.1:=by
 have h1:=fU.rng _ _ e.1 e.2 he
 have h2:=fV.rng _ _ g.1 g.2 hg
 refine⟨?_,dm h2⟩
 calc e.1*V.length+g.1<e.1*V.length+V.length:=by omega
  _=(e.1+1)*V.length:=by rw[Nat.add_mul,Nat.one_mul]
  _<=U.length*V.length:=lQd _ h1
theorem kU4 {X:Nat->Nat->Prop} {U V:Web} (fU:Fine U) (fV:Fine V):∀(p:List Nat) (x:Nat),x<U.length*V.length->PX X U V p (x / V.length) (x%V.length)->¬ X (x / V.length) (x%V.length)->∃u d y,p=u++[d]/\kXd (prodW U V) x u y/\Bad X U V (y / V.length) (y%V.length) d
 | [],x,hx,h,hn=>absurd h hn
 | d::q,x,hx,h,hn=>by
  obtain⟨_,e,g,he,hg,z⟩:=h
  rcases z with ⟨z1,rfl⟩ | ⟨z1,z2⟩
  ·exact⟨[],d,x,rfl,rfl,e,g,he,hg,.inl z1⟩
  ·by_cases hX:X e.1 g.1
   ·cases q with
    | nil=>exact⟨[],d,x,rfl,rfl,e,g,he,hg,.inr hX⟩
    | cons c q=>exact absurd hX z2.1
   ·obtain⟨l1,l2,l3⟩:=prod_lt fU fV he hg
    obtain⟨u,c,y,h1,h2,h3⟩:=kU4 fU fV q (e.1*V.length+g.1) l1 (by rw[l2,l3];exact z2) (by rw[l2,l3];exact hX)
    exact⟨d::u,c,y,by rw[h1];rfl,⟨_,_,en_prod hx he hg,h2⟩,h3⟩
structure Wk (X:Nat->Nat->Prop) (U V:Web) (a b i j:Nat) (P:List PE):Prop where
 tr:Tr (prodW U V) (a*V.length+b) i j P
 go:∀q,q∈P->q.1<U.length*V.length/\Go X U V q.2.2 a b (q.1 / V.length) (q.1%V.length)
 ok:∀(k:Nat) (q:PE) (d:Nat),(k<i\/(k=i/\d<j))->P[k]? =some q->¬ Bad X U V (q.1 / V.length) (q.1%V.length) d
theorem wk_start {X:Nat->Nat->Prop} {U V:Web} {a b:Nat} (ha:a<U.length) (hb:b<V.length) (h:¬ X a b):Wk X U V a b 0 0 [(a*V.length+b,none,[])] where
 tr:=tr_start
 go:=fun q hq=>by
  rw[(lJp.mp hq)]
  obtain⟨d1,d2⟩:=dm (e:=a) hb
  refine⟨?_,by rw[d1,d2];exact⟨rfl,rfl,h⟩⟩
  calc a*V.length+b<a*V.length+V.length:=by omega
   _=(a+1)*V.length:=by rw[Nat.add_mul,Nat.one_mul]
   _<=U.length*V.length:=lQd _ ha
 ok:=fun k q d h=>by omega
theorem Wk.ok_step {X:Nat->Nat->Prop} {U V:Web} {a b i j:Nat} {P:List PE} {x:PE} (w:Wk X U V a b i j P) (hx:P[i]? =some x) (hb:¬ Bad X U V (x.1 / V.length) (x.1%V.length) j):∀(k:Nat) (q:PE) (d:Nat),(k<i\/(k=i/\d<j+1))->P[k]? =some q->¬ Bad X U V (q.1 / V.length) (q.1%V.length) d:=by
 intro k q d h hq
 by_cases z:k=i/\d=j
 ·obtain⟨rfl,rfl⟩:=z
  rw[hx] at hq;cases hq;exact hb
 ·exact w.ok k q d (by omega) hq
theorem Wk.skip {X:Nat->Nat->Prop} {U V:Web} {a b i j:Nat} {P:List PE} {x:PE} {e g:Nat×Nat} (w:Wk X U V a b i j P) (hx:P[i]? =some x) (he:en U (x.1 / V.length) j=some e) (hg:en V (x.1%V.length) j=some g) (hb:¬ Bad X U V (x.1 / V.length) (x.1%V.length) j) (hy:e.1*V.length+g.1∈P.map Prod.fst):Wk X U V a b i (j+1) P where
 tr:=w.tr.skip hx (en_prod (w.go x (lJg hx)).1 he hg) hy
 go:=w.go
 ok:=w.ok_step hx hb
theorem Wk.add {X:Nat->Nat->Prop} {U V:Web} (fU:Fine U) (fV:Fine V) {a b i j:Nat} {P:List PE} {x:PE} {e g:Nat×Nat} (w:Wk X U V a b i j P) (hx:P[i]? =some x) (he:en U (x.1 / V.length) j=some e) (hg:en V (x.1%V.length) j=some g) (hb:¬ Bad X U V (x.1 / V.length) (x.1%V.length) j) (hy:e.1*V.length+g.1∉P.map Prod.fst):Wk X U V a b i (j+1) (P++[(e.1*V.length+g.1,some (x.1,j),x.2.2++[j])]) where
 tr:=w.tr.add hx (en_prod (w.go x (lJg hx)).1 he hg) hy
 go:=fun q hq=>by
  rcases (lJu.mp hq) with hq | hq
  ·exact w.go q hq
  ·rw[lJp.mp hq]
   obtain⟨l1,l2,l3⟩:=prod_lt fU fV he hg
   refine⟨l1,?_⟩
   show Go X U V (x.2.2++[j]) a b ((e.1*V.length+g.1) / V.length) ((e.1*V.length+g.1)%V.length)
   rw[l2,l3]
   refine go_snoc he hg (lJ7 fun z=>hb ⟨e,g,he,hg,.inl z⟩) (fun z=>hb ⟨e,g,he,hg,.inr z⟩) (w.go x (lJg hx)).2
 ok:=fun k q d h hq=>by
  have hi:i<P.length:=(lJa.mp hx).1
  rw[lJy (by omega)] at hq
  exact w.ok_step hx hb k q d h hq
theorem Wk.next {X:Nat->Nat->Prop} {U V:Web} {a b i n:Nat} {P:List PE} {x:PE} (w:Wk X U V a b i n P) (hx:P[i]? =some x) (hn:(row U (x.1 / V.length)).length<=n):Wk X U V a b (i+1) 0 P where
 tr:=w.tr.next hx fun d e h=>by
  obtain⟨e',g,h1,_⟩:=en_prod_inv (j:=e.2) (y:=e.1) h
  rw[en_row] at h1
  have:=(lJa.mp h1).1
  omega
 go:=w.go
 ok:=fun k q d h hq=>by
  by_cases z:k=i
  ·subst z
   rw[hx] at hq;cases hq
   by_cases y:d<n
   ·exact w.ok k x d (.inr ⟨rfl,y⟩) hx
   ·rintro⟨e,g,h1,_⟩
    rw[en_row] at h1
    have:=(lJa.mp h1).1
    omega
  ·exact w.ok k q d (by omega) hq
theorem Wk.seen {X:Nat->Nat->Prop} {U V:Web} {a b i j:Nat} {P:List PE} {x:PE} (w:Wk X U V a b i j P) (hx:P[i]? =some x):∀(n:Nat) (u:List Nat) (d y:Nat),u.length=n->kXd (prodW U V) (a*V.length+b) u y->slt (u++[d]) (x.2.2++[j])->∃(k:Nat) (q:PE),(k<i\/(k=i/\d<j))/\P[k]? =some q/\q.1=y/\sle q.2.2 u:=by
 intro n
 have place:∀(u:List Nat) (d y:Nat) (q:PE),q∈P->q.1=y->sle q.2.2 u->slt (u++[d]) (x.2.2++[j])->∃(k:Nat) (q:PE),(k<i\/(k=i/\d<j))/\P[k]? =some q/\q.1=y/\sle q.2.2 u:=by
  intro u d y q hq h1 h2 h3
  obtain⟨k,hk⟩:=lJs hq
  refine⟨k,q,?_,hk,h1,h2⟩
  have h4:slt (q.2.2++[d]) (x.2.2++[j]):=by
   rcases kUr (d:=d) h2 with z | z
   ·rw[z];exact h3
   ·exact jVy z h3
  rcases lKz k i with z | z | z
  ·exact .inl z
  ·subst z
   rw[hx] at hk;cases hk
   refine .inr ⟨rfl,?_⟩
   rcases lKz d j with y | y | y
   ·exact y
   ·subst y;exact (kUp h4).elim
   ·exact (kUp (jVy h4 (slt_last y))).elim
  ·exact (kUp (jVy h4 (kUo (w.tr.inc i k x q z hx hk)))).elim
 induction n with
 | zero=>
  intro u d y hn hl h
  have:u=[]:=lKg.mp hn
  subst this
  exact place [] d y _ (lJg w.tr.zero) (show a*V.length+b=y from hl) (.inl rfl) h
 | succ n ih=>
  intro u d y hn hl h
  rcases List.eq_nil_or_concat u with rfl | ⟨u',c,rfl⟩
  ·simp at hn
  ·rw[List.concat_eq_append] at hl hn h ⊢
   obtain⟨z,m,h1,h2⟩:=jZ3 hl
   have h3:slt (u'++[c]) (x.2.2++[j]):=jVy (.inl (by simp)) h
   obtain⟨k,q,hk,hq,rfl,hs⟩:=ih u' c z (by simpa using hn) h1 h3
   obtain⟨q',a1,a2,a3⟩:=w.tr.cl k q c y m hk hq h2
   exact place _ d y q' a1 a2 (sle_trans a3 (kUr hs)) h
noncomputable def Lst (X:Nat->Nat->Prop) (U V:Web) (a b:Nat):Option (List Nat)->Prop
 | none=>∀p,¬ PX X U V p a b
 | some p=>PX X U V p a b/\∀q,PX X U V q a b->sle p q
theorem Wk.found {X:Nat->Nat->Prop} {U V:Web} (fU:Fine U) (fV:Fine V) {a b i j:Nat} {P:List PE} {x:PE} (ha:a<U.length) (hb:b<V.length) (w:Wk X U V a b i j P) (hx:P[i]? =some x) (hbad:Bad X U V (x.1 / V.length) (x.1%V.length) j):Lst X U V a b (some (x.2.2++[j])):=by
 refine⟨go_px hbad (w.go x (lJg hx)).2,fun p hp=> ?_⟩
 obtain⟨d1,d2⟩:=dm (e:=a) hb
 have h0:=(w.go _ (lJg w.tr.zero))
 rw[d1,d2] at h0
 obtain⟨u,d,y,rfl,hl,hB⟩:=kU4 fU fV p (a*V.length+b) h0.1 (by rw[d1,d2];exact hp) (by rw[d1,d2];exact h0.2.2.2)
 by_cases z:slt (u++[d]) (x.2.2++[j])
 ·obtain⟨k,q,hk,hq,rfl,_⟩:=w.seen hx _ u d y rfl hl z
  exact absurd hB (w.ok k q d hk hq)
 ·rcases slt_tri (x.2.2++[j]) (u++[d]) with h | h | h
  ·exact .inr h
  ·exact .inl h
  ·exact absurd h z
theorem Wk.none {X:Nat->Nat->Prop} {U V:Web} (fU:Fine U) (fV:Fine V) {a b:Nat} {P:List PE} (ha:a<U.length) (hb:b<V.length) (w:Wk X U V a b P.length 0 P):Lst X U V a b none:=by
 intro p hp
 obtain⟨d1,d2⟩:=dm (e:=a) hb
 have h0:=(w.go _ (lJg w.tr.zero))
 rw[d1,d2] at h0
 obtain⟨u,d,y,rfl,hl,hB⟩:=kU4 fU fV p (a*V.length+b) h0.1 (by rw[d1,d2];exact hp) (by rw[d1,d2];exact h0.2.2.2)
 obtain⟨q,hq,rfl,_⟩:=w.tr.all _ u y rfl hl
 obtain⟨k,hk⟩:=lJs hq
 exact w.ok k q d (.inl (lJa.mp hk).1) hk hB
theorem Wk.len {X:Nat->Nat->Prop} {U V:Web} {a b i j:Nat} {P:List PE} (w:Wk X U V a b i j P):P.length<=U.length*V.length:=by
 have:=jZf w.tr.nd (n:=U.length*V.length) fun y hy=>by
  obtain⟨q,hq,rfl⟩:=lJ6.mp hy
  exact (w.go q hq).1
 simpa using this
theorem Wk.wlen {X:Nat->Nat->Prop} {U V:Web} {a b i' j':Nat} {P:List PE} (w:Wk X U V a b i' j' P):∀(i:Nat) (p:PE),P[i]? =some p->p.2.2.length<=i:=by
 intro i
 induction i using Nat.strongRecOn with
 | ind i ih=>
  intro p hp
  rcases w.tr.par p (lJg hp) with rfl | ⟨k,q,d,_,hq,_,e⟩
  ·simp
  ·rw[e,lJl]
   have hki:k<i:=by
    rcases lKz k i with z | z | z
    ·exact z
    ·subst z
     rw[hp] at hq;cases hq
     have:=congrArg List.length e
     simp at this
    ·have:=w.tr.inc i k p q z hp hq
     rw[e] at this
     rcases this with this | ⟨this,_⟩<;>simp at this
     omega
   have:=ih k hki q hq
   simp;omega
theorem eqG_tups {G:Gp} {a b:List Nat}:eqG G (.tup (jJk a)) (.tup (jJk b))=some (decide (a=b)):=by
 have ok:∀w:List Nat,eqOk (.tup (jJk w))=true:=fun w=>by
  obtain⟨a1,a2,a3⟩:=okI w
  unfold eqOk
  rw[show tree (.tup (jJk w))=true from a1,show (td (.tup (jJk w))).canLay0=true by rw[td,PyData.canLay0];exact a2,decide_eq_true (show (td (.tup (jJk w))).depth<=50 by rw[td,PyData.depth];omega)];rfl
 show (if eqOk (.tup (jJk a))=true/\eqOk (.tup (jJk b))=true then some (eqTs (jJk a) (jJk b)) else none)=_
 rw[if_pos ⟨ok a,ok b⟩,show jJk a=a.map (fun x=>T.int (x:Nat)) from rfl,show jJk b=b.map (fun x=>T.int (x:Nat)) from rfl,jZm kVq]
noncomputable def jYo (st:Bool) (w:Web) (f:Nat) (e:Nat×Nat):List Nat:=if st=true then [e.2,(row w e.1).length,if e.1=f then 1 else 0] else [e.2,(row w e.1).length]
noncomputable def jU3:Sp3:=fun xs G Q=>∃(w:Web) (f:Nat) (e:Nat×Nat) (st:Bool),xs=[encW w,.int f,encE e,.bl st]/\e.1<w.length/\w.length<=1000/\(∀(r:Nat) (es:List (Nat×Nat)),w[r]? =some es->es.length<=1000)/\∀G',Sub G G'->Q (.tup (jJk (jYo st w f e))) G'
noncomputable def N_look:List Str:=["web","first","end","stone"]
noncomputable def kKa:TS3:=
 (tSeq (tIfS (tTru rTru (tVar 3)) (tRet (tTup (jJa (tOp rIxF (tVar 2) (tC (.int 1))) (jJa (tCB rLen (jJa (tOp rIxF (tVar 0) (tOp rIxF (tVar 2) (tC (.int 0)))) tNil)) (jJa (tIf (jKe (tOp rEqA (tOp rIxF (tVar 2) (tC (.int 0))) (tVar 1))) (tC (.int 1)) (tC (.int 0))) tNil))))) jK5)
 (tRet (tTup (jJa (tOp rIxF (tVar 2) (tC (.int 1))) (jJa (tCB rLen (jJa (tOp rIxF (tVar 0) (tOp rIxF (tVar 2) (tC (.int 0)))) tNil)) tNil)))))
theorem rdok_look:∀xs G Q,jU3 xs G Q->kKa {nx:=fun _ G'=>Q .non G',rt:=Q} (jJm N_look xs) G:=by
 intro xs G Q h_;apply xe4 h_;clear h_;intro w f e st h_;apply ae4 h_;clear h_;intro he hw hd kk
 rw[show jJm N_look [encW w,.int f,encE e,.bl st]=[some (encW w),some (.int f),some (encE e),some (.bl st)] from rfl]
 have hs:=sz
 obtain⟨es,h1⟩:∃es,w[e.1]? =some es:=⟨_,lJc he⟩
 have h2:=hd _ _ h1
 have hk:=kk G (.refl G)
 rw[jYo,row,h1] at hk
 cases st with
 | false=>
  wp_walk using 1,kKa,encE,encW
  refine⟨encR es,L2.atI_nat (by rw[lJf,h1];rfl),es.map encE,rfl,by omega,?_⟩
  simpa[jJk] using hk
 | true=>
  wp_walk using 1,kKa,encE,encW,rEqA
  refine⟨encR es,L2.atI_nat (by rw[lJf,h1];rfl),es.map encE,rfl,?_⟩
  refine⟨decide (e.1=f),jU6,?_⟩
  by_cases z:e.1=f
  ·rw[if_pos (decide_eq_true z)]
   rw[if_pos z] at hk
   exact⟨by omega,by simpa[jJk] using hk⟩
  ·rw[if_neg (by simpa using z)]
   rw[if_neg z] at hk
   exact⟨by omega,by simpa[jJk] using hk⟩
theorem go_end {X:Nat->Nat->Prop} {U V:Web} {r s:Nat}:∀ {u:List Nat} {a b:Nat},Go X U V u a b r s->¬ X r s
 | [],_,_,h=>by obtain⟨rfl,rfl,h⟩:=h;exact h
 | _::_,_,_,h=>by obtain⟨_,_,_,_,_,_,h⟩:=h;exact go_end h
theorem add_way {G:Gp} {u:List Nat} {j:Nat} {Q:VK3} (h:u.length+1<=sizeLine) (q:Q (wayT (u++[j])) G):jJ3 (.tup (jJk u)) (.tup [.int (j:Nat)]) G Q:=by
 cases u with
 | nil=>exact .inr ⟨[.int j],rfl,rfl,q⟩
 | cons c u=>
  refine .inl ⟨.val (wayT (c::u++[j])),?_,q⟩
  have:u.length+1+1<=sizeLine:=h
  simp[addR,jJk,wayT,this]
def XS (st:Bool) (U V:Web) (a b r s:Nat):Prop:=(row U r).length≠(row V s).length\/(st=true/\¬ (r=a↔s=b))
theorem XS_start {st:Bool} {U V:Web} {a b:Nat}:XS st U V a b a b↔(row U a).length≠(row V b).length:=by simp[XS]
theorem XS_false {U V:Web} {a b:Nat}:XS false U V a b=XL U V:=by
 funext r s;simp[XS,XL]
theorem look_eq {st:Bool} {U V:Web} {a b:Nat} {e g:Nat×Nat}:jYo st U a e=jYo st V b g↔¬ (e.2≠g.2\/XS st U V a b e.1 g.1):=by
 unfold jYo XS
 cases st with
 | false=>simp
 | true=>
  by_cases z:e.1=a<;>by_cases y:g.1=b<;>simp[z,y]
noncomputable def prs (n:Nat) (p:PE):Nat×Nat:=(p.1 / n,p.1%n)
noncomputable def pkv (n:Nat) (P:List PE):List (L2.TKey×T):=P.map fun p=>(keyE (prs n p),T.bl true)
noncomputable def lvT (n:Nat) (p:PE):T:= .tup [encE (prs n p),wayT p.2.2]
theorem valT_someG {K:Type} [DecidableEq K] {kvs:List (K×T)} {k:K}:(valT kvs k).isSome=true↔k∈kvs.map Prod.fst:=by
 unfold valT
 rw[Option.isSome_map,List.find?_isSome,lJ6]
 exact⟨fun ⟨a,h1,h2⟩=>⟨a,h1,by simpa using h2⟩,fun ⟨a,h1,h2⟩=>⟨a,h1,by simpa using h2⟩⟩
theorem pkv_mem {n r s:Nat} {P:List PE} (hs:s<n):keyE (r,s)∈(pkv n P).map Prod.fst↔r*n+s∈P.map Prod.fst:=by
 rw[pkv,lJw,lJ6,lJ6]
 constructor
 ·rintro⟨p,hp,e⟩
  have:=kVj e
  refine⟨p,hp,?_⟩
  have h1:p.1 / n=r:=congrArg Prod.fst this
  have h2:p.1%n=s:=congrArg Prod.snd this
  rw[<-h1,<-h2,Nat.mul_comm];exact (Nat.div_add_mod p.1 n).symm
 ·rintro⟨p,hp,e⟩
  refine⟨p,hp,?_⟩
  obtain⟨d1,d2⟩:=dm (e:=r) hs
  show keyE (p.1 / n,p.1%n)=_
  rw[e,d1,d2]
theorem dicE:Dic (fun kvs=> .dct kvs) keyE (fun e:Nat×Nat=>T.tup [.int e.1,.int e.2]):=dicT (fun _ _ h=>kVj h) (fun _=>jYk)
noncomputable def jKg:Sp3:=fun xs G Q=>∃(U V:Web) (a b:Nat) (st:Bool),xs=[encW U,.int a,encW V,.int b,.bl st]/\Fine U/\Fine V/\a<U.length/\b<V.length/\U.length*V.length<=5000/\∀o d P G',Lst (XS st U V a b) U V a b o->G d=none->G' d=some (.dct (pkv V.length P))->(o=none->Wk (XS st U V a b) U V a b P.length 0 P)->(∀p,o=some p->p.length<=U.length*V.length)->Sub G G'->Q (.tup [oWay o,.ref d]) G'
noncomputable def jZs:List Str:=["one","a","other","b","stone","pairs","level","further","pair","way","door","left","right","come_to"]
noncomputable def jUy:TS3:=
 (tSeq (tAsg (tDisp1T (tTup (jJa (tVar 1) (jJa (tVar 3) tNil))) (tC (.bl true))) (jJj 5))
 (tSeq (tIfS (jKe (tOp rNeA (tCB rLen (jJa (tOp rIxF (tVar 0) (tVar 1)) tNil)) (tCB rLen (jJa (tOp rIxF (tVar 2) (tVar 3)) tNil)))) (tRet (tTup (jJa (tTup tNil) (jJa (tVar 5) tNil)))) jK5)
 (tSeq (tAsg (tLst (jJa (tTup (jJa (tTup (jJa (tVar 1) (jJa (tVar 3) tNil))) (jJa (tTup tNil) tNil))) tNil)) (jJj 6))
 (tSeq (kQu (tTru rTru (tVar 6)) (tSeq (tAsg (tLst tNil) (jJj 7))
 (tSeq (tFor (iSeq (tVar 6)) (gTup 2 (jKb (jJj 8) (jKb (jJj 9) gNil))) (tFor (iEnT (jJa (tOp rIxF (tVar 0) (tOp rIxF (tVar 8) (tC (.int 0)))) tNil)) (gTup 2 (jKb (jJj 10) (jKb (jJj 11) gNil))) (tSeq (tAsg (tOp rIxF (tOp rIxF (tVar 2) (tOp rIxF (tVar 8) (tC (.int 1)))) (tVar 10)) (jJj 12))
 (tSeq (tIfS (jKe (tOp rNeA (jJo jU3 (jJa (tVar 0) (jJa (tVar 1) (jJa (tVar 11) (jJa (tVar 4) tNil))))) (jJo jU3 (jJa (tVar 2) (jJa (tVar 3) (jJa (tVar 12) (jJa (tVar 4) tNil))))))) (tRet (tTup (jJa (tOp jJ3 (tVar 9) (tTup (jJa (tVar 10) tNil))) (jJa (tVar 5) tNil)))) jK5)
 (tSeq (tAsg (tTup (jJa (tOp rIxF (tVar 11) (tC (.int 0))) (jJa (tOp rIxF (tVar 12) (tC (.int 0))) tNil))) (jJj 13))
 (tIfS (jKe (tOp jZa (tVar 13) (tVar 5))) (tSeq (tAsg (tC (.bl true)) (gSub (tVar 5) (tVar 13) jXx))
 (jUk (tBM "list" jKr (tVar 7) (jJa (tTup (jJa (tVar 13) (jJa (tOp jJ3 (tVar 9) (tTup (jJa (tVar 10) tNil))) tNil))) tNil)))) jK5))))))
 (tAsg (tVar 7) (jJj 6)))))
 (tRet (tTup (jJa (tC .non) (jJa (tVar 5) tNil))))))))
theorem kJf:∀xs G Q,jKg xs G Q->jUy {nx:=fun _ G'=>Q .non G',rt:=Q} (jJm jZs xs) G:=by
 intro xs G Q h_;apply xe5 h_;clear h_;intro U V a b st h_;apply ae6 h_;clear h_;intro fU fV ha hb huv kk
 rw[show jJm jZs [encW U,.int a,encW V,.int b,.bl st]=[some (encW U),some (.int a),some (encW V),some (.int b),some (.bl st),none,none,none,none,none,none,none,none,none] from rfl]
 have hs:=sz
 obtain⟨es,hU⟩:∃es,U[a]? =some es:=⟨_,lJc ha⟩
 obtain⟨fs,hV⟩:∃fs,V[b]? =some fs:=⟨_,lJc hb⟩
 have hul:=fU.row _ _ hU
 have hvl:=fV.row _ _ hV
 wp_walk using 1,jUy,kQu,jJ5,tDisp1T,iSeq,iEnT,encW,rNeA
 intro d hd
 refine⟨by omega,keyE (a,b),jYk,encR es,jQe hU,es.map encE,rfl,encR fs,jQe hV,fs.map encE,rfl,?_⟩
 simp only[lJb]
 refine⟨decide (es.length=fs.length),jU6,?_⟩
 have hX:XS st U V a b a b↔es.length≠fs.length:=by rw[XS_start,jUm hU,jUm hV]
 by_cases hX0:¬ es.length=fs.length
 ·rw[if_pos (by simpa using hX0)]
  refine⟨by omega,by omega,kk (some []) d [(a*V.length+b,none,[])] _ ⟨hX.mpr hX0,fun q hq=> ?_⟩ hd ?_ (fun z=>by cases z) (fun p z=>by cases z;exact lJn _) (.new hd)⟩
  ·cases q with
   | nil=>exact .inl rfl
   | cons c q=>exact .inr (.inl (by simp))
  ·rw[jJg];simp[pkv,prs,dm hb]
 replace hX0:=Decidable.not_not.mp hX0
 rw[if_neg (by simpa using hX0)]
 refine⟨by omega,by omega,by omega,by omega,fun l hl0=> ?_⟩
 have hdl:d≠l:=jJe jJg hl0
 have wk0:Wk (XS st U V a b) U V a b 0 0 [(a*V.length+b,none,[])]:=wk_start ha hb (fun z=>hX.mp z hX0)
 let J1:Nat->St3->Gp->Prop:=fun m τ G'=>∃(i:Nat) (l:Addr) (v7 v8 v9 v10 v11 v12 v13:Option T) (P:List PE),τ=[some (.tup (U.map encR)),some (.int a),some (.tup (V.map encR)),some (.int b),some (.bl st),some (.ref d),some (.ref l),v7,v8,v9,v10,v11,v12,v13]/\d≠l/\G l=none/\G' d=some (.dct (pkv V.length P))/\Wk (XS st U V a b) U V a b i 0 P/\G' l=some (.lst ((P.drop i).map (lvT V.length)))/\i<=P.length/\Sub G G'/\m=U.length*V.length-i
 refine⟨J1,?_,?_⟩
 ·refine⟨_,xi10 0 l none none none none none none none _ rfl ⟨hdl,?_,?_,wk0,?_,lJn _,(Sub.new hd).trans (.new hl0),rfl⟩⟩
  ·rw[jJt hdl.symm] at hl0;exact hl0
  ·rw[jJt hdl,jJg];simp[pkv,prs,dm hb]
  ·rw[jJg];simp[lvT,prs,dm hb,encE,wayT,jJk]
 intro m τ G1 h_;apply xe10 h_;clear h_;intro i l v7 v8 v9 v10 v11 v12 v13 P h_;apply ae8 h_;clear h_;intro hdl hl0 h1 hW h2 hiP hs1 e7_
 subst e7_
 have hPl:=hW.len
 wp_walk using 1,h2
 split
 ·rename_i hne
  have hiP':i<P.length:=by
   rcases lJ9 i P.length with z | z
   ·exact z
   ·rw[List.drop_of_length_le z] at hne;simp at hne
  let J2:St3->Gp->Prop:=fun τ' G'=>∃(l':Addr) (v7 v8 v9 v10 v11 v12 v13:Option T) (P':List PE),τ'=[some (.tup (U.map encR)),some (.int a),some (.tup (V.map encR)),some (.int b),some (.bl st),some (.ref d),some (.ref l'),v7,v8,v9,v10,v11,v12,v13]/\d≠l'/\G l'=none/\G' d=some (.dct (pkv V.length P'))/\Wk (XS st U V a b) U V a b P.length 0 P'/\G' l'=some (.lst ((P'.drop P.length).map (lvT V.length)))/\P.length<=P'.length/\Sub G G'
  refine⟨J2,?_,by omega,fun p hp=> ?_⟩
  ·intro τ' G' h_;apply xe9 h_;clear h_;intro l' v7 v8 v9 v10 v11 v12 v13 P' h_;apply ae7 h_;clear h_;intro i1 i2 i3 i4 i5 i6 i7
   exact⟨_,by omega,xi10 P.length l' v7 v8 v9 v10 v11 v12 v13 P' rfl ⟨i1,i2,i3,i4,i5,i6,i7,rfl⟩⟩
  ·have hpd:d≠p:=jJe h1 hp
   have hpl:l≠p:=jJe h2 hp
   have hp0:=jXe hs1 hp
   refine⟨(P.drop i).map (lvT V.length),jJp (by rw[jJt hpl];exact h2),?_⟩
   let J3:Nat->St3->Gp->Prop:=fun k τ G'=>∃(v8 v9 v10 v11 v12 v13:Option T) (P':List PE),τ=[some (.tup (U.map encR)),some (.int a),some (.tup (V.map encR)),some (.int b),some (.bl st),some (.ref d),some (.ref l),some (.ref p),v8,v9,v10,v11,v12,v13]/\G' d=some (.dct (pkv V.length P'))/\Wk (XS st U V a b) U V a b (i+k) 0 P'/\G' l=some (.lst ((P.drop i).map (lvT V.length)))/\G' p=some (.lst ((P'.drop P.length).map (lvT V.length)))/\(∃E,P'=P++E)/\Sub G G'
   refine⟨J3,?_,?_,?_,?_⟩
   ·exact xi7 v8 v9 v10 v11 v12 v13 P rfl ⟨by rw[jJt hpd];exact h1,hW,by rw[jJt hpl];exact h2,by rw[List.drop_length];exact jJg,⟨[],by simp⟩,hs1.trans (.new hp)⟩
   ·intro k τ G' hi h_;apply xe7 h_;clear h_;intro v8 v9 v10 v11 v12 v13 P' h_;apply ae6 h_;clear h_;intro j1 jW j2 j3 jE js
    exact jJp j2
   ·intro k y τ G2 hy h_;apply xe7 h_;clear h_;intro v8 v9 v10 v11 v12 v13 P' h_;apply ae6 h_;clear h_;intro j1 jW j2 j3 q4_ js
    obtain⟨E,jE⟩:=q4_
    obtain⟨x,hx,rfl⟩:=jUa hy
    rw[List.getElem?_drop] at hx
    have hik:i+k<P.length:=(lJa.mp hx).1
    have hx':P'[i+k]? =some x:=by rw[jE,lJy hik];exact hx
    obtain⟨gx1,gx2⟩:=jW.go x (lJg hx')
    have hV0:0<V.length:=by omega
    have hrU:x.1 / V.length<U.length:=Nat.div_lt_of_lt_mul (by rw[Nat.mul_comm];exact gx1)
    have hrV:x.1%V.length<V.length:=Nat.mod_lt _ hV0
    obtain⟨es2,hU2⟩:∃es,U[x.1 / V.length]? =some es:=⟨_,lJc hrU⟩
    obtain⟨fs2,hV2⟩:∃fs,V[x.1%V.length]? =some fs:=⟨_,lJc hrV⟩
    have hlen2:es2.length=fs2.length:=by
     have:=go_end gx2
     rw[XS,jUm hU2,jUm hV2] at this
     exact lJ7 fun z=>this (.inl z)
    have hul2:=fU.row _ _ hU2
    wp_walk using 1,lvT,prs,encE,wayT,iEnT,jQe hU2,encR,jJ5
    let J4:Nat->St3->Gp->Prop:=fun j τ G'=>∃(v10 v11 v12 v13:Option T) (P2:List PE),τ=[some (.tup (U.map encR)),some (.int a),some (.tup (V.map encR)),some (.int b),some (.bl st),some (.ref d),some (.ref l),some (.ref p),some (.tup [.int (x.1 / V.length:Nat),.int (x.1%V.length:Nat)]),some (.tup (jJk x.2.2)),v10,v11,v12,v13]/\G' d=some (.dct (pkv V.length P2))/\Wk (XS st U V a b) U V a b (i+k) j P2/\G' l=some (.lst ((P.drop i).map (lvT V.length)))/\G' p=some (.lst ((P2.drop P.length).map (lvT V.length)))/\(∃E,P2=P++E)/\Sub G G'
    refine⟨J4,?_,?_,?_,?_⟩
    ·exact xi5 v10 v11 v12 v13 P' rfl ⟨j1,jW,j2,j3,⟨E,jE⟩,js⟩
    ·intros;trivial
    ·intro j y τ G3 hy h_;apply xe5 h_;clear h_;intro v10 v11 v12 v13 P2 h_;apply ae6 h_;clear h_;intro q1 qW q2 q3 q4_ q5
     obtain⟨E2,qE⟩:=q4_
     obtain⟨z,hz,rfl⟩:=numT_at hy
     obtain⟨e,he,rfl⟩:=jUa hz
     have hj:j<fs2.length:=by have:=(lJa.mp he).1;omega
     obtain⟨g,hg⟩:∃g,fs2[j]? =some g:=⟨_,lJc hj⟩
     have hx2:P2[i+k]? =some x:=by rw[qE,lJy hik];exact hx
     have hee:en U (x.1 / V.length) j=some e:=jQq hU2 he
     have hge:en V (x.1%V.length) j=some g:=jQq hV2 hg
     have he1:=fU.rng _ _ e.1 e.2 hee
     have hg1:=fV.rng _ _ g.1 g.2 hge
     have hP2:=qW.len
     have hwl:=qW.wlen _ _ hx2
     have hkl:(pkv V.length P2).length=P2.length:=by simp[pkv]
     have hgat:L2.atI (fs2.map encE) (j:Int)=some (encE g):=L2.atI_nat (by rw[lJf,hg];rfl)
     have heE:encE e= .tup [.int e.1,.int e.2]:=rfl
     wp_walk using 1,rNeA,jQe hV2,encR,hgat,jU3
     refine⟨U,rfl,a,rfl,e,rfl,he1,fU.len,fU.row,fun G4 s4=>⟨V,rfl,b,rfl,g,rfl,hg1,fV.len,fV.row,fun G5 s5=>⟨_,eqG_tups,?_⟩⟩⟩
     have s35:=s4.trans s5
     have q1':=s35 _ _ q1
     have q2':=s35 _ _ q2
     have q3':=s35 _ _ q3
     have q5':=q5.trans s35
     have hbad:Bad (XS st U V a b) U V (x.1 / V.length) (x.1%V.length) j↔¬ jYo st U a e=jYo st V b g:=by
      rw[look_eq,lQe]
      constructor
      ·rintro⟨e',g',z1,z2,z⟩
       rw[hee] at z1;rw[hge] at z2
       cases z1;cases z2;exact z
      ·exact fun z=>⟨e,g,hee,hge,z⟩
     by_cases hlk:jYo st U a e=jYo st V b g
     ·rw[if_neg (by simp[hlk])]
      have hin:=dicE.has G5 d _ (e.1,g.1) q1'
      have hmem:=pkv_mem (r:=e.1) (P:=P2) hg1
      rw[<-valT_someG] at hmem
      refine⟨.int e.1,rfl,.int g.1,rfl,by omega,_,hin,_,rfl,?_⟩
      by_cases hm:e.1*V.length+g.1∈P2.map Prod.fst
      ·rw[if_neg (by simp[hmem.mpr hm])]
       exact xi5 _ _ _ _ P2 rfl ⟨q1',qW.skip hx2 hee hge (fun z=>hbad.mp z hlk) hm,q2',q3',⟨E2,qE⟩,q5'⟩
      ·have hnn:valT (pkv V.length P2) (keyE (e.1,g.1))=none:=by
        cases hv:valT (pkv V.length P2) (keyE (e.1,g.1)) with
        | none=>rfl
        | some t=>exact absurd (hmem.mp (by rw[hv];rfl)) hm
       rw[if_pos (by simp[hnn])]
       have hgp:gup G5 d (.dct (putT (pkv V.length P2) (keyE (e.1,g.1)) (.bl true))) p=some (.lst ((P2.drop P.length).map (lvT V.length))):=by rw[jJt hpd.symm];exact q3'
       refine⟨_,dicE.put G5 d _ (e.1,g.1) _ q1' (by omega),by rw[jQg hgp];trivial,by omega,add_way (by omega) ?_⟩
       refine⟨by omega,_,hgp,by simp;omega,xi5 _ _ _ _ (P2++[(e.1*V.length+g.1,some (x.1,j),x.2.2++[j])]) rfl ⟨?_,?_,?_,?_,?_,?_⟩⟩
       ·rw[jJt hpd,jJg,putT_none hnn,pkv,pkv,lKk]
        simp[prs,dm hg1]
       ·exact qW.add fU fV hx2 hee hge (fun z=>hbad.mp z hlk) hm
       ·rw[jJt hpl,jJt hdl.symm];exact q2'
       ·rw[jJg,List.drop_append_of_le_length (by rw[qE,lJl];omega)]
        simp[lvT,prs,dm hg1,encE]
       ·exact⟨E2++[(e.1*V.length+g.1,some (x.1,j),x.2.2++[j])],by rw[qE,List.append_assoc]⟩
       ·exact (q5'.over hd).over hp0
     ·rw[if_pos (by simpa using hlk)]
      refine⟨by omega,add_way (by omega) ?_⟩
      exact⟨by omega,kk (some (x.2.2++[j])) d P2 G5 (qW.found fU fV ha hb hx2 (hbad.mpr hlk)) hd q1' (fun z=>by cases z) (fun p z=>by cases z;have z1:=qW.wlen _ _ hx2;have z2:=qW.len;have z3:=(lJa.mp hx2).1;rw[lJl];show x.2.2.length+1<=_;omega) q5'⟩
    ·intro τ G3 h_;apply xe5 h_;clear h_;intro v10 v11 v12 v13 P2 h_;apply ae6 h_;clear h_;intro q1 qW q2 q3 qE q5
     rw[jK8,lJb] at qW
     obtain⟨E2,qE⟩:=qE
     have hx2:P2[i+k]? =some x:=by rw[qE,lJy hik];exact hx
     exact xi7 _ _ _ _ _ _ P2 rfl ⟨q1,qW.next hx2 (by rw[jUm hU2];exact lJd _),q2,q3,⟨E2,qE⟩,q5⟩
   ·intro τ G2 h_;apply xe7 h_;clear h_;intro v8 v9 v10 v11 v12 v13 P' h_;apply ae6 h_;clear h_;intro j1 jW j2 j3 q4_ js
    obtain⟨E,jE⟩:=q4_
    have hlen:((P.drop i).map (lvT V.length)).length=P.length-i:=by simp
    rw[hlen,show i+(P.length-i)=P.length by omega] at jW
    wp_walk using 1,tSeq
    exact xi9 p _ _ _ _ _ _ _ P' rfl ⟨hpd,hp0,j1,jW,j3,by rw[jE,lJl];omega,js⟩
 ·rename_i hne
  have he:P.length<=i:=by
   have:(P.drop i).map (lvT V.length)=[]:=by simpa using hne
   have:=congrArg List.length this
   simp at this;omega
  have e:i=P.length:=by omega
  subst e
  exact⟨by omega,kk none d P G1 (hW.none fU fV ha hb) hd h1 (fun _=>hW) (fun p z=>by cases z) hs1⟩
noncomputable def jQm:Sp3:=fun xs G Q=>∃(U V:Web) (a b:Nat),xs=[encW U,.int a,encW V,.int b]/\Fine U/\Fine V/\a<U.length/\b<V.length/\U.length*V.length<=5000/\∀o G',Lst (XL U V) U V a b o->(∀p,o=some p->p.length<=U.length*V.length)->Sub G G'->Q (oWay o) G'
noncomputable def N_parting:List Str:=["one","a","other","b"]
noncomputable def jYc:TS3:=
 (tRet (tOp rIxF (jJo jKg (jJa (tVar 0) (jJa (tVar 1) (jJa (tVar 2) (jJa (tVar 3) (jJa (tC (.bl false)) tNil)))))) (tC (.int 0))))
theorem rdok_parting:∀xs G Q,jQm xs G Q->jYc {nx:=fun _ G'=>Q .non G',rt:=Q} (jJm N_parting xs) G:=by
 intro xs G Q h_;apply xe4 h_;clear h_;intro U V a b h_;apply ae6 h_;clear h_;intro fU fV ha hb huv kk
 rw[show jJm N_parting [encW U,.int a,encW V,.int b]=[some (encW U),some (.int a),some (encW V),some (.int b)] from rfl]
 wp_walk using 1,jYc
 refine xi5 U V a b false rfl ⟨fU,fV,ha,hb,huv,fun o d P G' h1 h2 h3 h4 h5 s=> ?_⟩
 rw[XS_false] at h1
 exact⟨_,rfl,kk o G' h1 h5 s⟩
theorem kUa {A:Nat->Bool} {n:Nat}:((List.range n).filter A=[]/\∀k,k<n->A k=false)\/∃d rest,(List.range n).filter A=d::rest/\d<n/\A d=true/\∀k,k<d->A k=false:=by
 cases h:(List.range n).filter A with
 | nil=>
  refine .inl ⟨rfl,fun k hk=> ?_⟩
  rw[List.filter_eq_nil_iff] at h
  simpa using h k (lJt.mpr hk)
 | cons d rest=>
  have hm:d∈(List.range n).filter A:=by rw[h];exact lKb
  obtain⟨h1,h2⟩:=lKu.mp hm
  refine .inr ⟨d,rest,rfl,lJt.mp h1,h2,fun k hk=> ?_⟩
  cases hA:A k with
  | false=>rfl
  | true=>
   have hkm:k∈(List.range n).filter A:=lKu.mpr ⟨lJt.mpr (Nat.lt_trans hk (lJt.mp h1)),hA⟩
   have hp:=(List.pairwise_lt_range (n:=n)).filter A
   rw[h] at hkm hp
   rcases (lJk.mp hkm) with z | z
   ·omega
   ·have:=(List.pairwise_cons.mp hp).1 k z;omega
theorem jZk {A:Nat->Bool}:∀l:List Nat,(l.filterMap fun k=>if A k=true then some (T.int (k:Nat)) else none)=jJk (l.filter A)
 | []=>rfl
 | a::l=>by
  by_cases h:A a=true
  ·rw[lK4,if_pos h,lK3,if_pos h,jZk l];rfl
  ·rw[lK4,if_neg h,lK3,if_neg h,jZk l]
theorem alk_le {mq:Nat->Bool} {W:Web} (f:Fine W) {j k r s:Nat} (hr:r<W.length) (hs:s<W.length) (h:j<=k) (ha:Alk mq W k r s):Alk mq W j r s:=
 (jXo f j r s hr hs).mpr fun p hp=>(jXo f k r s hr hs).mp ha p (by omega)
structure LI (mq:Nat->Bool) (W:Web) (k r s m r' s':Nat) (w:List Nat):Prop where
 hr:r'<W.length
 hs:s'<W.length
 un:m<k->(∀j,j<k-m->Alk mq W j r' s')/\¬ Alk mq W (k-m) r' s'
 gr:∀q,Grd mq W (k-m) r' s' q->Grd mq W k r s (w++q)
 len:w.length=m
noncomputable def lkN (mq:Nat->Bool) (W:Web) (t:Nat) (es:List (Nat×Nat)):List (Nat×Nat):=es.map fun e=>(e.2,(jKs mq W t).getD e.1 0)
noncomputable def unl (mq:Nat->Bool) (W:Web) (t:Nat) (es fs:List (Nat×Nat)) (p:Nat):Bool:= !decide ((lkN mq W t es)[p]? =(lkN mq W t fs)[p]?)
theorem unl_iff {mq:Nat->Bool} {W:Web} (f:Fine W) {t r s p:Nat} {es fs:List (Nat×Nat)} {e g:Nat×Nat} (h1:W[r]? =some es) (h2:W[s]? =some fs) (he:es[p]? =some e) (hg:fs[p]? =some g):unl mq W t es fs p=false↔e.2=g.2/\Alk mq W t e.1 g.1:=by
 have r1:=f.rng r p e.1 e.2 (jQq h1 he)
 have r2:=f.rng s p g.1 g.2 (jQq h2 hg)
 unfold unl lkN
 rw[lJf,lJf,he,hg]
 simp only[lKx,Bool.not_eq_false',decide_eq_true_eq,Option.some.injEq,Prod.mk.injEq]
 rw[jUc r1 r2]
theorem LI.rows {mq:Nat->Bool} {W:Web} (f:Fine W) {k r s m r' s':Nat} {w:List Nat} (h:LI mq W k r s m r' s' w) (hm:m<k) {es fs:List (Nat×Nat)} (h1:W[r']? =some es) (h2:W[s']? =some fs):es.length=fs.length/\∃d rest,(List.range es.length).filter (unl mq W (k-m-1) es fs)=d::rest/\d<es.length/\unl mq W (k-m-1) es fs d=true/\∀p,p<d->unl mq W (k-m-1) es fs p=false:=by
 obtain⟨u1,u2⟩:=h.un hm
 have hl:es.length=fs.length:=((alk_zero h1 h2).mp (u1 0 (by omega))).1
 refine⟨hl,?_⟩
 rcases kUa (A:=unl mq W (k-m-1) es fs) (n:=es.length) with ⟨_,z⟩ | z
 ·exfalso
  apply u2
  rw[show k-m=k-m-1+1 by omega,alk_succ h1 h2]
  refine⟨u1 _ (by omega),?_⟩
  apply lJ8
  intro p
  by_cases hp:p<es.length
  ·have:=z p hp
   unfold unl lkN at this
   simpa using this
  ·rw[lJh (by simp;omega),lJh (by simp;omega)]
 ·exact z
theorem LI.step {mq:Nat->Bool} {W:Web} (f:Fine W) {k r s m r' s' d:Nat} {w:List Nat} (h:LI mq W k r s m r' s' w) (hm:m<k) {es fs:List (Nat×Nat)} {e g:Nat×Nat} (h1:W[r']? =some es) (h2:W[s']? =some fs) (hd:unl mq W (k-m-1) es fs d=true) (hf:∀p,p<d->unl mq W (k-m-1) es fs p=false) (he:es[d]? =some e) (hg:fs[d]? =some g):LI mq W k r s (m+1) e.1 g.1 (w++[d]):=by
 obtain⟨u1,u2⟩:=h.un hm
 have hn:¬ (e.2=g.2/\Alk mq W (k-m-1) e.1 g.1):=fun z=>by rw[(unl_iff f h1 h2 he hg).mpr z] at hd;cases hd
 have r1:=f.rng r' d e.1 e.2 (jQq h1 he)
 have r2:=f.rng s' d g.1 g.2 (jQq h2 hg)
 refine⟨r1,r2,fun hm1=> ?_,fun q hq=> ?_,by rw[lJl,h.len];rfl⟩
 ·have hA:=u1 (k-m-1) (by omega)
  rw[show k-m-1=k-m-2+1 by omega,jXc f h1 h2] at hA
  obtain⟨a1,a2⟩:=hA.2.2 d e g he hg
  refine⟨fun j hj=>alk_le f r1 r2 (by omega) a2,fun z=>hn ⟨a1,by rw[show k-m-1=k-(m+1) by omega];exact z⟩⟩
 ·have:=h.gr (d::q) (by
   rw[show k-m=k-m-1+1 by omega]
   refine⟨d,q,e,g,rfl,jQq h1 he,jQq h2 hg,hn,fun d' e' g' hd' he' hg'=> ?_,by rw[show k-m-1=k-(m+1) by omega];exact hq⟩
   obtain⟨_,z1,z2⟩:=jK1 he'
   rw[h1] at z1;cases z1
   obtain⟨_,y1,y2⟩:=jK1 hg'
   rw[h2] at y1;cases y1
   exact (unl_iff f h1 h2 z2 y2).mp (hf d' hd'))
  rw[List.append_assoc];exact this
noncomputable def Gr (mq:Nat->Bool) (W:Web) (n r s:Nat):Option (List Nat)->Prop
 | none=>∀j,j<=n->Alk mq W j r s
 | some p=>∃k,k<=n/\(∀j,j<k->Alk mq W j r s)/\¬ Alk mq W k r s/\Grd mq W k r s p
noncomputable def jQb:Sp3:=fun xs G Q=>∃(mq:Nat->Bool) (W:Web) (b q:Addr) (rs:List Addr) (n r s:Nat),xs=[.ref b,.ref q,.int r,.int s]/\G b=some (.lst (W.map encR))/\RowsT G q ((List.range (n+1)).map fun k=>jJk (jKs mq W k)) rs/\Fine W/\n<=500/\r<W.length/\s<W.length/\∀o G',Gr mq W n r s o->Sub G G'->Q (oWay o) G'
noncomputable def N_l_least:List Str:=["_law_both_here","_law_rounds_here","_law_r","_law_s","_law_unlike","_law_way_here","_law_turn_here","_law_ahead","_law_looks","_law_door","_law_room","_law_end","_law_place"]
noncomputable def jYf:TS3:=
 (tSeq (tAsg (jQ3 [false,false,false,false,false,false,true,false,false,false,false,false,false] (jKv (jJa (tCB rLen (jJa (tVar 1) tNil)) tNil)) (jJj 6) (jKe (tOp rNeA (tOp rIxF (tOp rIxF (tVar 1) (tVar 6)) (tVar 2)) (tOp rIxF (tOp rIxF (tVar 1) (tVar 6)) (tVar 3)))) (tVar 6)) (jJj 4))
 (tSeq (tIfS (jKe (tOp rEqA (tVar 4) (tLst tNil))) (tRet (tC .non)) jK5)
 (tSeq (tAsg (tTup tNil) (jJj 5))
 (tSeq (tFor (iRng3 (jJa (tOp rIxF (tVar 4) (tC (.int 0))) (jJa (tC (.int 0)) (jJa (tUn rNeg (tC (.int 1))) tNil)))) (jJj 6) (tSeq (tAsg (tOp rIxF (tVar 1) (tOp rSub (tVar 6) (tC (.int 1)))) (jJj 7))
 (tSeq (tAsg (jQ3 [false,false,false,false,false,false,false,false,false,false,true,false,false] (iSeq (tTup (jJa (tVar 2) (jJa (tVar 3) tNil)))) (jJj 10) jUo (jQ3 [false,false,false,false,false,false,false,false,false,false,false,true,false] (iSeq (tOp rIxF (tVar 0) (tVar 10))) (jJj 11) jUo (tTup (jJa (tOp rIxF (tVar 11) (tC (.int 1))) (jJa (tOp rIxF (tVar 7) (tOp rIxF (tVar 11) (tC (.int 0)))) tNil))))) (jJj 8))
 (tSeq (tAsg (tOp rIxF (jQ3 [false,false,false,false,false,false,false,false,false,false,false,false,true] (jKv (jJa (tCB rLen (jJa (tOp rIxF (tVar 0) (tVar 2)) tNil)) tNil)) (jJj 12) (jKe (tOp rNeA (tOp rIxF (tOp rIxF (tVar 8) (tC (.int 0))) (tVar 12)) (tOp rIxF (tOp rIxF (tVar 8) (tC (.int 1))) (tVar 12)))) (tVar 12)) (tC (.int 0))) (jJj 9))
 (tSeq (tAsg (tOp jJ3 (tVar 5) (tTup (jJa (tVar 9) tNil))) (jJj 5))
 (tAsg (tTup (jJa (tOp rIxF (tOp rIxF (tOp rIxF (tVar 0) (tVar 2)) (tVar 9)) (tC (.int 0))) (jJa (tOp rIxF (tOp rIxF (tOp rIxF (tVar 0) (tVar 3)) (tVar 9)) (tC (.int 0))) tNil))) (gTup 2 (jKb (jJj 2) (jKb (jJj 3) gNil)))))))))
 (tRet (tVar 5))))))
theorem rdok_l_least:∀xs G Q,jQb xs G Q->jYf {nx:=fun _ G'=>Q .non G',rt:=Q} (jJm N_l_least xs) G:=by
 intro xs G Q h_;apply xe8 h_;clear h_;intro mq W b q rs n r s h_;apply ae7 h_;clear h_;intro hb hq f hn hr hs' kk
 rw[show jJm N_l_least [.ref b,.ref q,.int r,.int s]=[some (.ref b),some (.ref q),some (.int r),some (.int s),none,none,none,none,none,none,none,none,none] from rfl]
 have hs:=sz
 have hql:rs.length=n+1:=by have:=hq.2.1;simpa using this
 have rowAt:∀(G':Gp) (k:Nat),Sub G G'->k<=n->∃a,ixR G' (.ref q) (.int (k:Nat))=some (.ref a)/\G' a=some (.lst (jJk (jKs mq W k))):=fun G' k sb hk=>by
  obtain⟨a,_,h2,h3⟩:=hq.get (x:=k) (ts:=jJk (jKs mq W k)) (by rw[lJf,lKs (by omega)];rfl)
  exact⟨a,by rw[jJ2 (sb _ _ hq.1)];exact h2,sb _ _ h3⟩
 wp_walk using 1,jYf,jJ5,jKv,iRng3,rNeA,rEqA
 refine⟨rs.map T.ref,jJp hq.1,by rw[lJb,hql];omega,by rw[lJb,hql];omega,?_⟩
 rw[lJb,hql,show (((n+1:Nat):Int)).toNat=n+1 by omega,jXf]
 refine jZo (es:=List.range (n+1)) (enc:=fun (i:Nat)=>T.int i) (fun k=>if (!decide ((jKs mq W k).getD r 0=(jKs mq W k).getD s 0))=true then some (T.int (k:Nat)) else none) (by simp;omega) (fun _ _=>trivial) ?_ ?_
 ·intro i k hk G' K K0 sb hk1 hk0
  obtain⟨q1,q2⟩:=lJa.mp hk
  simp at q1 q2;subst q2
  obtain⟨a,a1,a2⟩:=rowAt G' i sb (by omega)
  have hml:=jZi (mq:=mq) (W:=W) i
  wp_walk using 1,rNeA,a1,jJ2 a2,kKo (show r<(jKs mq W i).length by omega),kKo (show s<(jKs mq W i).length by omega)
  refine⟨_,jU6,?_⟩
  by_cases z:(jKs mq W i).getD r 0=(jKs mq W i).getD s 0
  ·rw[if_neg (by simpa using z)]
   exact hk0 (by rw[if_neg (by simpa using z)]) G' (.refl _)
  ·rw[if_pos (by simpa using z)]
   exact hk1 _ G' (by rw[if_pos (by simpa using z)]) (.refl _)
 ·intro u G1 hu h1 s1
  rw[jZk] at h1
  refine⟨by omega,fun p hp=> ?_⟩
  have hup:u≠p:=jJe h1 hp
  have s2:=s1.trans (.new hp (o:= .lst []))
  have h1p:gup G1 p (.lst []) u=some (.lst (jJk ((List.range (n+1)).filter fun k=> !decide ((jKs mq W k).getD r 0=(jKs mq W k).getD s 0)))):=by rw[jJt hup];exact h1
  have hpp:gup G1 p (.lst []) p=some (.lst (jJk [])):=jJg
  generalize gup G1 p (.lst [])=G2 at *
  refine⟨_,eqG_lists h1p hpp,?_⟩
  rcases kUa (A:=fun k=> !decide ((jKs mq W k).getD r 0=(jKs mq W k).getD s 0)) (n:=n+1) with ⟨hf,z⟩ | ⟨k,rest,hf,hk,hA,hlt⟩
  ·rw[hf,if_pos (by simp)]
   refine kk none G2 (fun j hj=> ?_) s2
   have:=z j (by omega)
   exact (jUc hr hs').mp (by simpa using this)
  rw[hf,if_neg (by simp)]
  rw[hf] at h1p
  have hal:∀j,j<k->Alk mq W j r s:=fun j hj=>(jUc hr hs').mp (by simpa using hlt j hj)
  have hna:¬ Alk mq W k r s:=fun z=>by
   have:=(jUc hr hs').mpr z
   simp at hA;exact hA this
  have hN:(Builtin.Range.rangeSize (k:Int) 0 (-1)).toNat=k:=by
   unfold Builtin.Range.rangeSize;rw[if_neg (by decide),show (- -1:Int)=1 by decide]
   split<;>omega
  have hsm:Builtin.Range.small (k:Int) 0 (-1)=true:=by
   unfold Builtin.Range.small Builtin.Range.rangeSize
   simp only[Builtin.Range.rangeFitsLong,lJ3,Bool.or_eq_true,decide_eq_true_eq,beq_iff_eq,show ¬ ((-1:Int)>0) by decide,if_false,show (- -1:Int)=1 by decide]
   split<;>omega
  refine⟨by omega,.int k,by rw[jJ2 h1p];exact kVz (x:=0) rfl,k,rfl,by decide,by decide,hsm,?_⟩
  rw[hN]
  let J1:Nat->St3->Gp->Prop:=fun m τ G'=>∃(v6 v7 v8 v9:Option T) (r' s':Nat) (w:List Nat),τ=[some (.ref b),some (.ref q),some (.int r'),some (.int s'),some (.ref u),some (wayT w),v6,v7,v8,v9,none,none,none]/\LI mq W k r s m r' s' w/\Sub G G'
  refine⟨J1,?_,?_,?_,?_⟩
  ·exact xi7 none none none none r s [] rfl ⟨⟨hr,hs',fun _=>⟨hal,hna⟩,fun _ h=>h,rfl⟩,s2⟩
  ·intros;trivial
  ·intro m y τ G3 hy h_;apply xe7 h_;clear h_;intro v6 v7 v8 v9 r' s' w h_;apply ae2 h_;clear h_;intro li s3
   unfold rngS at hy
   obtain⟨m',hm',rfl⟩:=jUa hy
   obtain⟨hm,e⟩:=lJa.mp hm'
   simp at hm e;subst e
   obtain⟨es,hes⟩:∃es,W[r']? =some es:=⟨_,lJc li.hr⟩
   obtain⟨fs,hfs⟩:∃fs,W[s']? =some fs:=⟨_,lJc li.hs⟩
   obtain⟨hl,d,rest,hd1,hd2,hd3,hd4⟩:=li.rows f hm hes hfs
   have hesl:=f.row _ _ hes
   obtain⟨a,a1,a2⟩:=rowAt G3 (k-m-1) s3 (by omega)
   wp_walk using 1,show ((k:Int)+(m:Nat)* -1-1)=((k-m-1:Nat):Int) by omega,a1
   wp_walk using 1,iSeq,jKv
   refine⟨by omega,?_⟩
   have hb3:=s3 _ _ hb
   have hml:=jZi (mq:=mq) (W:=W) (k-m-1)
   refine jZ8 (es:=[r',s']) (enc:=fun x:Nat=>T.int x) (fun x=>(lkN mq W (k-m-1) (row W x)).map encE) (by simp;omega) (fun _ _=>trivial) ?_ ?_
   ·intro i x hx G' K K0 sb hk
    have hxW:x<W.length:=by
     have:=lJg hx
     simp at this
     rcases this with rfl | rfl
     ·exact li.hr
     ·exact li.hs
    obtain⟨gs,hgs⟩:∃gs,W[x]? =some gs:=⟨_,lJc hxW⟩
    have hgl:=f.row _ _ hgs
    wp_walk using 1,iSeq,jJ2 (sb _ _ hb3),jQe hgs,encR
    refine jQh (es:=gs) (enc:=encE) (fun e=>encE (e.2,(jKs mq W (k-m-1)).getD e.1 0)) (by omega) (fun _ _=>trivial) ?_ ?_
    ·intro i2 e he G'' K' K0' sb2 hk2
     have hr1:=f.rng x i2 e.1 e.2 (jQq hgs he)
     wp_walk using 1,encE,jJ2 ((sb.trans sb2) _ _ a2),kKo (show e.1<(jKs mq W (k-m-1)).length by omega)
     exact⟨by omega,hk2 G'' (.refl _)⟩
    ·intro D G'' hD hD1 sb2
     refine hk D G'' hD ?_ sb2
     rw[hD1,jUm hgs,lkN,lJw];rfl
   ·intro D rs2 G4 hD hD4 s4 hrl hnd hrow
    obtain⟨x0,x1,rfl⟩:∃x0 x1,rs2=[x0,x1]:=by
     match rs2,hrl with
     | [x0,x1],_=>exact⟨x0,x1,rfl⟩
    have g0:=(hrow 0 x0 r' rfl rfl).2
    have g1:=(hrow 1 x1 s' rfl rfl).2
    rw[jUm hes] at g0
    rw[jUm hfs] at g1
    have hb4:=s4 _ _ hb3
    refine⟨encR es,by rw[jJ2 hb4];exact jQe hes,es.map encE,rfl,by rw[lJb];omega,by rw[lJb];omega,?_⟩
    rw[lJb,show ((es.length:Int)).toNat=es.length by omega,jXf]
    refine jZo (es:=List.range es.length) (enc:=fun (i:Nat)=>T.int i) (fun p=>if unl mq W (k-m-1) es fs p=true then some (T.int (p:Nat)) else none) (by simp;omega) (fun _ _=>trivial) ?_ ?_
    ·intro i p hp G' K K0 sb hk1 hk0
     obtain⟨q1,q2⟩:=lJa.mp hp
     simp at q1 q2;subst q2
     obtain⟨e,he⟩:∃e,es[i]? =some e:=⟨_,lJc q1⟩
     obtain⟨g,hg⟩:∃g,fs[i]? =some g:=⟨_,lJc (by omega)⟩
     have e0:L2.atI ((lkN mq W (k-m-1) es).map encE) (i:Int)=some (encE (e.2,(jKs mq W (k-m-1)).getD e.1 0)):=L2.atI_nat (by rw[lJf,lkN,lJf,he];rfl)
     have e1:L2.atI ((lkN mq W (k-m-1) fs).map encE) (i:Int)=some (encE (g.2,(jKs mq W (k-m-1)).getD g.1 0)):=L2.atI_nat (by rw[lJf,lkN,lJf,hg];rfl)
     have hu:unl mq W (k-m-1) es fs i= !decide ((e.2,(jKs mq W (k-m-1)).getD e.1 0)=(g.2,(jKs mq W (k-m-1)).getD g.1 0)):=by
      unfold unl lkN
      rw[lJf,lJf,he,hg]
      simp only[lKx,Option.some.injEq]
     wp_walk using 1,rNeA
     refine⟨.ref x0,by rw[jJ2 (sb _ _ hD4)];rfl,_,by rw[jJ2 (sb _ _ g0)];exact e0,.ref x1,by rw[jJ2 (sb _ _ hD4)];rfl,_,by rw[jJ2 (sb _ _ g1)];exact e1,_,eqG_enc,?_⟩
     rw[hu] at hk1 hk0
     by_cases z:(e.2,(jKs mq W (k-m-1)).getD e.1 0)=(g.2,(jKs mq W (k-m-1)).getD g.1 0)
     ·rw[decide_eq_true z] at hk0 ⊢
      exact hk0 rfl G' (.refl _)
     ·rw[decide_eq_false z] at hk1 ⊢
      exact hk1 _ G' rfl (.refl _)
    ·intro D2 G5 hD2 h5 s5
     rw[jZk,hd1] at h5
     obtain⟨e,he⟩:∃e,es[d]? =some e:=⟨_,lJc hd2⟩
     obtain⟨g,hg⟩:∃g,fs[d]? =some g:=⟨_,lJc (by omega)⟩
     have hwl:=li.len
     have hb5:=s5 _ _ hb4
     refine⟨.int d,by rw[jJ2 h5];exact kVz (x:=0) rfl,by omega,add_way (by omega) ?_⟩
     refine⟨encR es,by rw[jJ2 hb5];exact jQe hes,encE e,L2.atI_nat (by rw[lJf,he];rfl),.int e.1,rfl,encR fs,by rw[jJ2 hb5];exact jQe hfs,encE g,L2.atI_nat (by rw[lJf,hg];rfl),.int g.1,rfl,by omega,?_⟩
     exact xi7 _ _ _ _ e.1 g.1 (w++[d]) rfl ⟨li.step f hm hes hfs hd3 hd4 he hg,(s3.trans s4).trans s5⟩
  ·intro τ G3 h_;apply xe7 h_;clear h_;intro v6 v7 v8 v9 r' s' w h_;apply ae2 h_;clear h_;intro li s3
   have hrl:(rngS (k:Int) (-1) k).length=k:=by simp[rngS]
   rw[hrl] at li
   wp_walk using 1,tSeq
   have hg:=li.gr [] (by rw[Nat.sub_self];rfl)
   rw[List.append_nil] at hg
   exact kk (some w) G3 ⟨k,by omega,hal,hna,hg⟩ s3
noncomputable def both (U V:Web):Web:=U++V.map fun es=>es.map fun e=>(e.1+U.length,e.2)
noncomputable def jQu:Sp3:=fun xs G Q=>∃(U V:Web),xs=[encW U,encW V]/\U.length<=1000/\V.length<=1000/\(∀(r:Nat) (es:List (Nat×Nat)),V[r]? =some es->es.length<=1000)/\∀p G',G p=none->G' p=some (.lst ((both U V).map encR))->Sub G G'->Q (.ref p) G'
noncomputable def N_l_both:List Str:=["_law_one","_law_other","_law_doors","_law_room","_law_door"]
noncomputable def jY8:TS3:=
 (tRet (tOp jKk (tCB jUd (jJa (tVar 0) tNil)) (jQ3 [false,false,true,false,false] (iSeq (tVar 1)) (jJj 2) jUo (tCB jKm (jJa (jQ3 [false,false,false,true,true] (iSeq (tVar 2)) (gTup 2 (jKb (jJj 3) (jKb (jJj 4) gNil))) jUo (tTup (jJa (tOp jKk (tVar 3) (tCB rLen (jJa (tVar 0) tNil))) (jJa (tVar 4) tNil)))) tNil)))))
theorem rdok_l_both:∀xs G Q,jQu xs G Q->jY8 {nx:=fun _ G'=>Q .non G',rt:=Q} (jJm N_l_both xs) G:=by
 intro xs G Q h_;apply xe2 h_;clear h_;intro U V h_;apply ae4 h_;clear h_;intro hU hV hd kk
 rw[show jJm N_l_both [encW U,encW V]=[some (encW U),some (encW V),none,none,none] from rfl]
 have hs:=sz
 wp_walk using 1,jY8,encW,jUd,jVw,iSeq
 intro p hp
 refine jQh (es:=V) (enc:=encR) (fun es=>encR (es.map fun e=>(e.1+U.length,e.2))) (by omega) (fun _ _=>trivial) ?_ ?_
 ·intro i es he G' K K0 s hk
  wp_walk using 1,encR,iSeq
  refine jQh (es:=es) (enc:=encE) (fun e=>encE (e.1+U.length,e.2)) (by have:=hd _ _ he;omega) (fun _ _=>trivial) ?_ ?_
  ·intro i e he G' K K0 s hk
   wp_walk using 1,encE,lJb
   exact⟨by omega,hk G' (.refl _)⟩
  ·intro q G1 hq h1 s1
   refine⟨_,jJp h1,?_⟩
   have:=hk G1 s1
   rw[encR,lJw] at this
   exact this
 ·intro q G1 hq h1 s1
  have hp1:G1 p=some (.lst (U.map encR)):=s1 _ _ jJg
  refine⟨_,jZr hp1 h1 (by simp;omega),?_⟩
  simp only[jYw]
  intro l hl
  refine kk l _ (jXe (Sub.trans (.new hp) s1) hl) (by rw[jJg,both,lKk,lJw];rfl) (Sub.trans (Sub.trans (.new hp) s1) (.new hl))
noncomputable def line (n:Nat):Web:=(List.range n).map fun r=>[if r>0 then (r-1,1) else (0,0),if r<n-1 then (r+1,0) else (r,1)]
theorem jVx {n r:Nat} (h:r<n):(line n)[r]? =some [if r>0 then (r-1,1) else (0,0),if r<n-1 then (r+1,0) else (r,1)]:=by simp[line,h]
theorem en_line {n r i s j:Nat} (h:en (line n) r i=some (s,j)):r<n/\((i=0/\r>0/\s=r-1/\j=1)\/(i=0/\r=0/\s=0/\j=0)\/(i=1/\r<n-1/\s=r+1/\j=0)\/(i=1/\r=n-1/\s=r/\j=1)):=by
 have hr:=jZ7 h
 rw[show (line n).length=n by simp[line]] at hr
 obtain⟨es,h1,h2⟩:=jK1 h
 rw[jVx hr] at h1;cases h1
 refine⟨hr,?_⟩
 have hi:=(lJa.mp h2).1
 simp at hi
 have:i=0\/i=1:=by omega
 rcases this with rfl | rfl
 ·simp at h2
  by_cases h0:r>0
  ·rw[if_pos h0] at h2;cases h2;exact .inl ⟨rfl,h0,rfl,rfl⟩
  ·rw[if_neg h0] at h2;cases h2;exact .inr (.inl ⟨rfl,by omega,rfl,rfl⟩)
 ·simp at h2
  by_cases h0:r<n-1
  ·rw[if_pos h0] at h2;cases h2;exact .inr (.inr (.inl ⟨rfl,h0,rfl,rfl⟩))
  ·rw[if_neg h0] at h2;cases h2;exact .inr (.inr (.inr ⟨rfl,by omega,rfl,rfl⟩))
theorem kVb {n r:Nat} (h:r<n) (h0:r>0):en (line n) r 0=some (r-1,1):=jQq (jVx h) (by simp[h0])
theorem line_ok {n:Nat} (hn:1<=n):WebOk n 2 (line n) where
 len:=by simp[line]
 sym:=by
  intro r i s j h
  obtain⟨hr,h⟩:=en_line h
  rcases h with ⟨rfl,h0,rfl,rfl⟩ | ⟨rfl,rfl,rfl,rfl⟩ | ⟨rfl,h0,rfl,rfl⟩ | ⟨rfl,h0,rfl,rfl⟩
  ·rw[jQq (jVx (show r-1<n by omega)) (e:=(r,0)) (i:=1)]
   simp only[List.getElem?_cons_succ,List.getElem?_cons_zero]
   rw[if_pos (by omega)];congr 2;omega
  ·exact jQq (jVx hr) (by simp)
  ·rw[kVb (by omega) (by omega)];rfl
  ·exact jQq (jVx hr) (by simp only[List.getElem?_cons_succ,List.getElem?_cons_zero];rw[if_neg (by omega)])
 deg:=fun r es h=>by
  have hr:r<n:=by have:=(lJa.mp h).1;simpa[line] using this
  rw[jVx hr] at h;cases h;simp
 low:=fun r h1 h2=>⟨0,r-1,1,kVb h2 (by omega),by omega⟩
noncomputable def jQt:Sp3:=fun xs G Q=>∃n:Nat,xs=[.int n]/\1<=n/\n<=1000/\∀G',Sub G G'->Q (encW (line n)) G'
noncomputable def N_l_line:List Str:=["_law_many","_law_made","_law_room","_law_back","_law_on"]
noncomputable def jY6:TS3:=
 (tSeq (tAsg (tLst tNil) (jJj 1))
 (tSeq (tFor (jKv (jJa (tVar 0) tNil)) (jJj 2) (tSeq (tAsg (tIf (jKe (tOp rGt (tVar 2) (tC (.int 0)))) (tTup (jJa (tOp rSub (tVar 2) (tC (.int 1))) (jJa (tC (.int 1)) tNil))) (tTup (jJa (tC (.int 0)) (jJa (tC (.int 0)) tNil)))) (jJj 3))
 (tSeq (tAsg (tIf (jKe (tOp rLt (tVar 2) (tOp rSub (tVar 0) (tC (.int 1))))) (tTup (jJa (tOp jKk (tVar 2) (tC (.int 1))) (jJa (tC (.int 0)) tNil))) (tTup (jJa (tVar 2) (jJa (tC (.int 1)) tNil)))) (jJj 4))
 (jUk (tBM "list" jKr (tVar 1) (jJa (tTup (jJa (tVar 3) (jJa (tVar 4) tNil))) tNil))))))
 (tRet (tCB jKm (jJa (tVar 1) tNil)))))
theorem rdok_l_line:∀xs G Q,jQt xs G Q->jY6 {nx:=fun _ G'=>Q .non G',rt:=Q} (jJm N_l_line xs) G:=by
 intro xs G Q h_;apply xe1 h_;clear h_;intro n h_;apply ae3 h_;clear h_;intro hn1 hn kk
 rw[show jJm N_l_line [.int n]=[some (.int n),none,none,none,none] from rfl]
 have hs:=sz
 wp_walk using 1,jY6,jJ5,jKv
 refine⟨by omega,fun p hp=>⟨by omega,by omega,?_⟩⟩
 rw[show ((n:Nat):Int).toNat=n by omega]
 refine⟨fun k τ G'=>∃(v2 v3 v4:Option T),τ=[some (.int n),some (.ref p),v2,v3,v4]/\G' p=some (.lst (((line n).take k).map encR))/\Sub G G',?_,?_,?_,?_⟩
 ·exact⟨none,none,none,rfl,by rw[List.take_zero];exact jJg,.new hp⟩
 ·intros;trivial
 ·intro k y τ G1 hy h_;apply xe3 h_;clear h_;intro v2 v3 v4 h_;apply ae2 h_;clear h_;intro h1 h2
  obtain⟨hk,rfl⟩:=jU8 hy
  have tk:((line n).take (k+1)).map encR=((line n).take k).map encR++[encR [if k>0 then (k-1,1) else (0,0),if k<n-1 then (k+1,0) else (k,1)]]:=by
   rw[lKj,jVx hk];simp
  have hlen:(((line n).take k).map encR).length<sizeLine:=by simp[line];omega
  have hty:tyT G1 "list" (T.ref p):=by rw[jQg h1];trivial
  wp_walk using 1,h1
  by_cases h0:0<k
  ·rw[if_pos (by omega)]
   refine⟨by omega,?_⟩
   by_cases h3:k<n-1
   ·rw[if_pos (by omega)]
    refine⟨by omega,hty,by omega,hlen,?_,h2.over hp⟩
    rw[tk,if_pos h0,if_pos h3,show ((k:Int)-1)=((k-1:Nat):Int) by omega];rfl
   ·rw[if_neg (by omega)]
    refine⟨by omega,hty,by omega,hlen,?_,h2.over hp⟩
    rw[tk,if_pos h0,if_neg h3,show ((k:Int)-1)=((k-1:Nat):Int) by omega];rfl
  ·rw[if_neg (by omega)]
   refine⟨by omega,?_⟩
   by_cases h3:k<n-1
   ·rw[if_pos (by omega)]
    refine⟨by omega,hty,by omega,hlen,?_,h2.over hp⟩
    rw[tk,if_neg h0,if_pos h3];rfl
   ·rw[if_neg (by omega)]
    refine⟨by omega,hty,by omega,hlen,?_,h2.over hp⟩
    rw[tk,if_neg h0,if_neg h3];rfl
 ·intro τ G1 h_;apply xe3 h_;clear h_;intro v2 v3 v4 h_;apply ae2 h_;clear h_;intro h1 h2
  rw[jKq,lQh (by simp[line])] at h1
  wp_walk using 1,tSeq
  exact⟨_,jJp h1,kk G1 h2⟩
noncomputable def tend (ts:List Nat) (e:Nat×Nat):Nat×Nat:=(e.1,if ts.getD e.1 0=0 then e.2 else 1-e.2)
noncomputable def trow (n:Nat) (ts:List Nat) (r:Nat):List (Nat×Nat):=if ts.getD r 0=0 then (((line n).getD r []).map (tend ts)) else (((line n).getD r []).map (tend ts)).reverse
noncomputable def jVg (n:Nat) (ts:List Nat):Web:=(List.range n).map (trow n ts)
noncomputable def jJ0:Sp3:=fun xs G Q=>∃(n:Nat) (t:Addr) (ts:List Nat),xs=[.int n,.ref t]/\G t=some (.lst (jJk ts))/\1<=n/\n<=24/\n<=ts.length/\(∀x,x∈ts->x<=1)/\∀G',Sub G G'->Q (encW (jVg n ts)) G'
noncomputable def jX1:List Str:=["_law_many","_law_turned","_law_made","_law_room","_law_doors","_law_row","_law_other","_law_door"]
noncomputable def jQ9:TS3:=
 (tSeq (tAsg (tLst tNil) (jJj 2))
 (tSeq (tFor (iEnT (jJa (jJo jQt (jJa (tVar 0) tNil)) tNil)) (gTup 2 (jKb (jJj 3) (jKb (jJj 4) gNil))) (tSeq (tAsg (jQ3 [false,false,false,false,false,false,true,true] (iSeq (tVar 4)) (gTup 2 (jKb (jJj 6) (jKb (jJj 7) gNil))) jUo (tTup (jJa (tVar 6) (jJa (tOp rIxF (tLst (jJa (tVar 7) (jJa (tOp rSub (tC (.int 1)) (tVar 7)) tNil))) (tOp rIxF (tVar 1) (tVar 6))) tNil)))) (jJj 5))
 (jUk (tBM "list" jKr (tVar 2) (jJa (tCB jKm (jJa (tOp rIxF (tLst (jJa (tVar 5) (jJa (tRevL (tVar 5) (jKf (tUn rNeg (tC (.int 1))))) tNil))) (tOp rIxF (tVar 1) (tVar 3))) tNil)) tNil)))))
 (tRet (tCB jKm (jJa (tVar 2) tNil)))))
theorem jY0:∀xs G Q,jJ0 xs G Q->jQ9 {nx:=fun _ G'=>Q .non G',rt:=Q} (jJm jX1 xs) G:=by
 intro xs G Q h_;apply xe3 h_;clear h_;intro n t ts h_;apply ae6 h_;clear h_;intro ht hn1 hn hts h01 kk
 rw[show jJm jX1 [.int n,.ref t]=[some (.int n),some (.ref t),none,none,none,none,none,none] from rfl]
 have hs:=sz
 wp_walk using 1,jQ9,jJ5,iEnT,jQt
 refine⟨by omega,fun p hp=>⟨n,rfl,hn1,by omega,fun G1 s1=> ?_⟩⟩
 refine⟨(line n).map encR,rfl,?_⟩
 have hll:(line n).length=n:=by simp[line]
 rw[numT_W,hll]
 refine⟨fun k τ G'=>∃(v3 v4 v5:Option T),τ=[some (.int n),some (.ref t),some (.ref p),v3,v4,v5,none,none]/\G' p=some (.lst (((jVg n ts).take k).map encR))/\Sub G G',?_,?_,?_,?_⟩
 ·exact⟨none,none,none,rfl,by rw[List.take_zero];exact s1 _ _ jJg,Sub.trans (.new hp) s1⟩
 ·intros;trivial
 ·intro k y τ G2 hy h_;apply xe3 h_;clear h_;intro v3 v4 v5 h_;apply ae2 h_;clear h_;intro h1 h2
  rw[lJf] at hy
  obtain⟨i,hi,rfl⟩:=lKf.mp hy
  obtain⟨hk,e⟩:=lJa.mp hi
  simp at hk e;subst e
  have hW:=jVx hk
  have hrow:row (line n) k=(line n).getD k []:=by simp[row]
  have ht2:=h2 _ _ ht
  wp_walk using 1,iSeq,encR
  have hin:∀(i:Nat) (e:Nat×Nat),(row (line n) k)[i]? =some e->e.1<n/\e.2<=1:=by
   intro i e he
   rw[row,hW] at he
   simp only[Option.getD_some] at he
   have hi2:=(lJa.mp he).1
   simp at hi2
   have:i=0\/i=1:=by omega
   rcases this with rfl | rfl
   ·simp at he;subst he
    by_cases z:0<k
    ·rw[if_pos z];simp;omega
    ·rw[if_neg z];simp;omega
   ·simp at he;subst he
    by_cases z:k<n-1
    ·rw[if_pos z];simp;omega
    ·rw[if_neg z];simp;omega
  have hrl:(row (line n) k).length=2:=by rw[row,hW];rfl
  have bit:∀j,j<n->∃b:Nat,ts[j]? =some b/\ts.getD j 0=b/\b<=1:=fun j hj=>by
   have hj2:j<ts.length:=by omega
   exact⟨ts[j],lJc hj2,by simp[hj2],h01 _ (List.getElem_mem hj2)⟩
  refine jQh (es:=row (line n) k) (enc:=encE) (fun e=>encE (tend ts e)) (by omega) (fun _ _=>trivial) ?_ ?_
  ·intro i e he G' K K0 s hk
   obtain⟨he1,he2⟩:=hin i e he
   obtain⟨b,hb1,hb2,hb3⟩:=bit _ he1
   wp_walk using 1,encE
   refine⟨by omega,fun l hl=>⟨.int b,?_,?_⟩⟩
   ·rw[jJ2 (xs:=jJk ts) (by rw[jJt (jJe (s _ _ ht2) hl)];exact s _ _ ht2)]
    exact L2.atI_nat (by simp[jJk,hb1])
   ·have hb:b=0\/b=1:=by omega
    have hk2:=hk _ (Sub.new (o:= .lst [T.int e.2,T.int (1-e.2)]) hl)
    rw[jJ2 (jJg)]
    rcases hb with rfl | rfl
    ·refine⟨.int e.2,rfl,by omega,?_⟩
     rw[tend,hb2,if_pos rfl] at hk2;exact hk2
    ·refine⟨.int (1-e.2),rfl,by omega,?_⟩
     rw[tend,hb2,if_neg (by decide)] at hk2
     rw[show ((1:Int)-(e.2:Nat))=((1-e.2:Nat):Int) by omega] at hk2 ⊢
     exact hk2
  ·intro q G3 hq h3 s3
   obtain⟨b,hb1,hb2,hb3⟩:=bit _ hk
   wp_walk using 1,tRevL,jKf
   refine⟨by rw[jQg (s3 _ _ h1)];trivial,(row (line n) k).map fun e=>encE (tend ts e),by simp only[jV8,h3,asL],fun l1 hl1=>⟨by omega,fun l2 hl2=> ?_⟩⟩
   have sA:=Sub.trans (Sub.new (o:= .lst ((row (line n) k).map fun e=>encE (tend ts e)).reverse) hl1) (Sub.new (o:= .lst [.ref q,.ref l1]) hl2)
   have aT:=sA _ _ (s3 _ _ ht2)
   have aP:=sA _ _ (s3 _ _ h1)
   have aQ:=sA _ _ h3
   have a1:=(Sub.new (o:= .lst [.ref q,.ref l1]) hl2) _ _ (jJg (G:=G3) (a:=l1) (o:= .lst ((row (line n) k).map fun e=>encE (tend ts e)).reverse))
   generalize hGA:gup (gup G3 l1 (.lst ((row (line n) k).map fun e=>encE (tend ts e)).reverse)) l2 (.lst [.ref q,.ref l1])=GA at *
   have a2:GA l2=some (.lst [.ref q,.ref l1]):=by rw[<-hGA];exact jJg
   have tk:((jVg n ts).take (k+1)).map encR=((jVg n ts).take k).map encR++[encR (trow n ts k)]:=by
    rw[lKj,show (jVg n ts)[k]? =some (trow n ts k) by simp[jVg,hk]];simp
   have hlen:(((jVg n ts).take k).map encR).length<sizeLine:=by simp[jVg];omega
   refine⟨.int b,by rw[jJ2 aT];exact L2.atI_nat (by simp[jJk,hb1]),?_⟩
   rw[jJ2 a2]
   have hb:b=0\/b=1:=by omega
   rcases hb with rfl | rfl
   ·refine⟨.ref q,rfl,_,jJp aQ,_,aP,hlen,?_,?_⟩
    ·rw[tk,trow,hb2,if_pos rfl,<-hrow,encR,lJw];rfl
    ·exact (Sub.trans (Sub.trans h2 s3) sA).over hp
   ·refine⟨.ref l1,rfl,_,jJp a1,_,aP,hlen,?_,?_⟩
    ·rw[tk,trow,hb2,if_neg (by decide),<-hrow,encR,List.map_reverse,lJw];rfl
    ·exact (Sub.trans (Sub.trans h2 s3) sA).over hp
 ·intro τ G2 h_;apply xe3 h_;clear h_;intro v3 v4 v5 h_;apply ae2 h_;clear h_;intro h1 h2
  rw[lJb,lKl,lQh (by simp[jVg])] at h1
  wp_walk using 1,tSeq
  exact⟨_,jJp h1,kk G2 h2⟩
theorem jZp {U V:Web} {r:Nat} (h:r<U.length):(both U V)[r]? =U[r]? :=by rw[both,lJy h]
theorem jYm {U V:Web} {r:Nat}:(both U V)[U.length+r]? =(V[r]?).map fun es=>es.map fun e=>(e.1+U.length,e.2):=by
 rw[both,lKn (by omega),lJf];congr 2;omega
theorem kVy {U V:Web}:(both U V).length=U.length+V.length:=by simp[both]
theorem fine_both {U V:Web} (fU:Fine U) (fV:Fine V) (h:U.length+V.length<=1000):Fine (both U V) where
 len:=by rw[kVy];exact h
 row:=fun r es hr=>by
  by_cases z:r<U.length
  ·rw[jZp z] at hr;exact fU.row r es hr
  ·obtain⟨k,rfl⟩:∃k,r=U.length+k:=⟨r-U.length,by omega⟩
   rw[jYm] at hr
   obtain⟨fs,h1,rfl⟩:=lKf.mp hr
   rw[lJb];exact fV.row _ _ h1
 rng:=fun r i s j hr=>by
  obtain⟨es,h1,h2⟩:=jK1 hr
  rw[kVy]
  by_cases z:r<U.length
  ·rw[jZp z] at h1
   have:=fU.rng r i s j (jQq h1 h2);omega
  ·obtain⟨k,rfl⟩:∃k,r=U.length+k:=⟨r-U.length,by omega⟩
   rw[jYm] at h1
   obtain⟨fs,h3,rfl⟩:=lKf.mp h1
   rw[lJf] at h2
   obtain⟨e,h4,h5⟩:=lKf.mp h2
   cases h5
   have:=fV.rng k i e.1 e.2 (jQq h3 h4);omega
noncomputable def flp (ts:List Nat) (r i:Nat):Nat:=if ts.getD r 0=0 then i else 1-i
theorem flp_flp {ts:List Nat} {r i:Nat} (h:i<2):flp ts r (flp ts r i)=i:=by unfold flp;split<;>omega
theorem flp_lt {ts:List Nat} {r i:Nat} (h:i<2):flp ts r i<2:=by unfold flp;split<;>omega
theorem kVt {n:Nat} {ts:List Nat} {r i:Nat} (hr:r<n):i<2->en (jVg n ts) r i=(en (line n) r (flp ts r i)).map fun e=>(e.1,flp ts e.1 e.2):=by
 intro hi
 have h1:(jVg n ts)[r]? =some (trow n ts r):=by simp[jVg,hr]
 have h2:=jVx hr
 unfold en
 rw[h1,h2]
 simp only[Option.bind_some]
 unfold trow flp
 rw[lQk (l:=line n),h2]
 have:i=0\/i=1:=by omega
 by_cases z:ts.getD r 0=0
 ·rw[if_pos z,if_pos z]
  rcases this with rfl | rfl<;>rfl
 ·rw[if_neg z,if_neg z]
  rcases this with rfl | rfl<;>rfl
theorem kJ5 {n:Nat} {ts:List Nat}:(jVg n ts).length=n:=by simp[jVg]
theorem trow_len {n:Nat} {ts:List Nat} {r:Nat} (hr:r<n):(trow n ts r).length=2:=by
 have:((line n).getD r []).length=2:=by rw[lQk,jVx hr];rfl
 unfold trow
 split
 ·rw[lJb];exact this
 ·rw[List.length_reverse,lJb];exact this
theorem tline_ok {n:Nat} {ts:List Nat} (hn:1<=n):WebOk n 2 (jVg n ts) where
 len:=kJ5
 sym:=by
  intro r i s j h
  have hr:=jZ7 h
  rw[kJ5] at hr
  have hi:i<2:=by
   obtain⟨es,h1,h2⟩:=jK1 h
   rw[show (jVg n ts)[r]? =some (trow n ts r) by simp[jVg,hr]] at h1;cases h1
   have:=(lJa.mp h2).1
   rw[trow_len hr] at this;exact this
  rw[kVt hr hi] at h
  obtain⟨e,he,h3⟩:=lKf.mp h
  obtain⟨s0,j0⟩:=e
  simp only[Prod.mk.injEq] at h3
  obtain⟨rfl,rfl⟩:=h3
  have hs:=(line_ok hn).sym _ _ _ _ he
  have hj:j0<2:=by
   obtain⟨_,q⟩:=en_line he
   omega
  have hs0:s0<n:=by have:=jZ7 hs;rw[(line_ok hn).len] at this;exact this
  rw[kVt hs0 (flp_lt hj),flp_flp hj,hs]
  show some (r,flp ts r (flp ts r i))=_
  rw[flp_flp hi]
 deg:=fun r es h=>by
  have hr:r<n:=by have:=(lJa.mp h).1;rwa [kJ5] at this
  rw[show (jVg n ts)[r]? =some (trow n ts r) by simp[jVg,hr]] at h;cases h
  rw[trow_len hr];exact lJd _
 low:=fun r h1 h2=>⟨flp ts r 0,r-1,flp ts (r-1) 1,by
  rw[kVt h2 (flp_lt (by decide)),flp_flp (by decide),kVb h2 (by omega)];rfl,by omega⟩
theorem kKx {mask:List Bool} {g:TG3} {tif:TT3} {te:TE3} {τ:St3} {xs:List T} {stay:Gp->Prop} {G:Gp} {Q:VK3} {b:Addr} {n:Nat} (c:Nat) (Pr:Nat->T->Prop) (hz:xs.length<=sizeLine) (hb:BoxAt G b n) (hst:∀G',Keep b G G'->stay G')
  (h:∀(i:Nat) x,xs[i]? =some x->∀G' (K:T->Gp->Prop) (K0:Gp->Prop),BoxAt G' b (n+i*c)->Keep b G G'->(∀t G4,Pr i t->BoxAt G4 b (n+(i+1)*c)->Keep b G' G4->K t G4)->g x (msk mask τ) G' fun τ2 G2=>tif τ2 G2 fun b G3=>if b=true then te τ2 G3 K else K0 G3)
  (hq:∀D ts G',G D=none->G' D=some (.lst ts)->ts.length=xs.length->(∀(i:Nat) t,ts[i]? =some t->Pr i t)->BoxAt G' b (n+xs.length*c)->Keep b G G'->Q (.ref D) G'):CompAt mask g tif te τ xs stay G Q:=by
 intro D hD
 obtain⟨bo,hbo⟩:=hb.some
 have hDb:b≠D:=jJe hbo hD
 let J1:Nat->List T->Gp->Prop:=fun i acc G'=>acc.length=i/\(∀(j:Nat) t,acc[j]? =some t->Pr j t)/\BoxAt G' b (n+i*c)/\Keep b G G'/\G' D=some (.lst acc)
 refine⟨J1,?_,?_,?_,?_⟩
 ·exact⟨rfl,fun j t z=>by simp at z,by simpa using hb.gup hDb,.new hD,jJg⟩
 ·rintro i acc G' hi ⟨j1,j2,j3,j4,j5⟩
  exact⟨hst G' j4,j5⟩
 ·rintro i x acc G3 hx ⟨j1,j2,j3,j4,j5⟩
  have hi:i<xs.length:=(lJa.mp hx).1
  refine h i x hx G3 _ _ j3 j4 fun t G4 hp hb4 kp=> ?_
  refine⟨kp _ _ hDb.symm j5,by omega,by simp[j1],?_,hb4.gup hDb,(j4.trans kp).over hD,jJg⟩
  intro j u hu
  by_cases hjl:j<acc.length
  ·rw[lJy hjl] at hu;exact j2 j u hu
  ·have:=(lJa.mp hu).1
   simp at this
   have:j=acc.length:=by omega
   subst this
   rw[lKn (lJd _)] at hu
   simp at hu;subst hu
   rw[j1];exact hp
 ·rintro acc G3 ⟨j1,j2,j3,j4,j5⟩
  exact hq D acc G3 hD j5 j1 j2 j3 j4
theorem kU5 {Pr:Nat->Prop}:∀(us:List T),(∀(i:Nat) t,us[i]? =some t->∃x:Nat,Pr x/\t= .int x)->∃ts:List Nat,us=jJk ts/\∀x,x∈ts->Pr x
 | [],_=>⟨[],rfl,fun x hx=>by simp at hx⟩
 | u::us,h=>by
  obtain⟨x,hx,rfl⟩:=h 0 u rfl
  obtain⟨ts,rfl,h2⟩:=kU5 us fun i t hi=>h (i+1) t hi
  refine⟨x::ts,rfl,fun y hy=> ?_⟩
  rcases (lJk.mp hy) with rfl | hy
  ·exact hx
  ·exact h2 y hy
theorem cut_drop {ts:List Nat} {m:Nat} (h:ts.length=24) (hm:m<=24):cutT (jJk ts) (some (24-(m:Int))) none=jJk (ts.drop (24-m)):=by
 have hl:(jJk ts).length=24:=by simp[jJk,h]
 unfold cutT
 simp only[HT.sIx,hl]
 rw[if_neg (by omega),show min (24-(m:Int)).toNat 24=24-m by omega]
 rw[lQh (by simp[hl])]
 simp[jJk,List.map_drop]
theorem eqG_z {G:Gp} {a c:Int}:eqG G (.int a) (.int c)=some (decide (a=c)):=by
 rw[show eqG G (.int a) (.int c)=some (eqT (.int a) (.int c)) from rfl]
 congr 1
theorem cut_take {ds:List Nat} {c:Nat}:cutT (jJk ds) none (some (c:Int))=jJk (ds.take c):=by
 unfold cutT
 rw[HT.sIx_none,HT.sIx_nat,List.drop_zero,Nat.sub_zero]
 simp[jJk,List.map_take]
def WR (p:Web×Nat):Prop:=AnyWeb p.1/\p.2<p.1.length
noncomputable def jQa:Sp3:=fun xs G Q=>∃(b:Addr) (n:Nat),xs=[.ref b]/\BoxAt G b n/\n+100<2^40/\∀p q G',WR p->WR q->BoxAt G' b (n+40)->Keep b G G'->Q (.tup [encW p.1,.int p.2,encW q.1,.int q.2]) G'
noncomputable def N_l_lines:List Str:=["_law_box_here","_law_turned","_law_start","_law_at","_law_sizes","_law_first","_law_aligned","_law_far","_law_found","_law_many","_law_room","_law_k"]
noncomputable def jYe:TS3:=
 (tSeq (tAsg (jQ3 [false,false,false,false,false,false,false,false,false,false,true,false] (jKv (jJa (tC (.int 24)) tNil)) (jJj 10) jUo (tCB jZb (jJa (tOp rEqA (jJo jJh (jJa (tVar 0) (jJa (tC (.int 6)) tNil))) (tC (.int 0))) tNil))) (jJj 1))
 (tSeq (tAsg (tTup (jJa (jJo jJh (jJa (tVar 0) (jJa (tC (.int 2)) tNil))) (jJa (jJo jJh (jJa (tVar 0) (jJa (tC (.int 24)) tNil))) tNil))) (gTup 2 (jKb (jJj 2) (jKb (jJj 3) gNil))))
 (tSeq (tIfS (jKe (tOp rEqA (jJo jJh (jJa (tVar 0) (jJa (tC (.int 2)) tNil))) (tC (.int 0)))) (tAsg (jQ3 [false,false,false,false,false,false,false,false,false,false,true,false] (jKv (jJa (tC (.int 24)) tNil)) (jJj 10) jUo (tOp rMod (tOp jKk (tOp jKk (tVar 10) (tVar 2)) (tCB jZb (jJa (tOp rGe (tVar 10) (tVar 3)) tNil))) (tC (.int 2)))) (jJj 1)) jK5)
 (tSeq (tAsg (jQ3 [false,false,false,false,false,false,false,false,false,false,false,true] (jKv (jJa (tC (.int 2)) tNil)) (jJj 11) jUo (tOp jKk (tC (.int 2)) (jJo jJh (jJa (tVar 0) (jJa (tC (.int 23)) tNil))))) (jJj 4))
 (tSeq (tPar3 5 6 7 (jJa (jJo jJh (jJa (tVar 0) (jJa (tC (.int 2)) tNil))) (jJa (jJo jJh (jJa (tVar 0) (jJa (tC (.int 2)) tNil))) (jJa (jJo jJh (jJa (tVar 0) (jJa (tCB rMinL (jJa (tVar 4) tNil)) tNil))) tNil))))
 (tSeq (tAsg (tLst tNil) (jJj 8))
 (tSeq (tFor (iSeq (tVar 4)) (jJj 9) (tSeq (jUk (tBM "list" jKr (tVar 8) (jJa (jJo jJ0 (jJa (tVar 9) (jJa (tOp rIxF (tLst (jJa (tSl rSlF (tVar 1) (jKf (tOp rSub (tC (.int 24)) (tVar 9))) jJs) (jJa (tSl rSlF (tVar 1) jJs (jKf (tVar 9))) tNil))) (tVar 5)) tNil))) tNil)))
 (jUk (tBM "list" jKr (tVar 8) (jJa (tOp rIxF (tLst (jJa (jJo jJh (jJa (tVar 0) (jJa (tVar 9) tNil))) (jJa (tOp rIxF (tLst (jJa (tOp rSub (tOp rSub (tVar 9) (tC (.int 1))) (tVar 7)) (jJa (tVar 7) tNil))) (tVar 5)) tNil))) (tVar 6)) tNil)))))
 (tRet (tCB jKm (jJa (tVar 8) tNil))))))))))
noncomputable def kKb:TS3:=(tSeq (tAsg (jQ3 [false,false,false,false,false,false,false,false,false,false,false,true] (jKv (jJa (tC (.int 2)) tNil)) (jJj 11) jUo (tOp jKk (tC (.int 2)) (jJo jJh (jJa (tVar 0) (jJa (tC (.int 23)) tNil))))) (jJj 4))
 (tSeq (tPar3 5 6 7 (jJa (jJo jJh (jJa (tVar 0) (jJa (tC (.int 2)) tNil))) (jJa (jJo jJh (jJa (tVar 0) (jJa (tC (.int 2)) tNil))) (jJa (jJo jJh (jJa (tVar 0) (jJa (tCB rMinL (jJa (tVar 4) tNil)) tNil))) tNil))))
 (tSeq (tAsg (tLst tNil) (jJj 8))
 (tSeq (tFor (iSeq (tVar 4)) (jJj 9) (tSeq (jUk (tBM "list" jKr (tVar 8) (jJa (jJo jJ0 (jJa (tVar 9) (jJa (tOp rIxF (tLst (jJa (tSl rSlF (tVar 1) (jKf (tOp rSub (tC (.int 24)) (tVar 9))) jJs) (jJa (tSl rSlF (tVar 1) jJs (jKf (tVar 9))) tNil))) (tVar 5)) tNil))) tNil)))
 (jUk (tBM "list" jKr (tVar 8) (jJa (tOp rIxF (tLst (jJa (jJo jJh (jJa (tVar 0) (jJa (tVar 9) tNil))) (jJa (tOp rIxF (tLst (jJa (tOp rSub (tOp rSub (tVar 9) (tC (.int 1))) (tVar 7)) (jJa (tVar 7) tNil))) (tVar 5)) tNil))) (tVar 6)) tNil)))))
 (tRet (tCB jKm (jJa (tVar 8) tNil)))))))
theorem kQ0 {b u:Addr} {n:Nat} {ts:List Nat} {v2 v3:T} {G:Gp} {Q:VK3} (hb:BoxAt G b n) (hn:n+50<2^40) (hu:G u=some (.lst (jJk ts))) (hub:u≠b) (hl:ts.length=24) (h01:∀x,x∈ts->x<=1)
  (kk:∀p q G',WR p->WR q->BoxAt G' b (n+10)->Keep b G G'->Q (.tup [encW p.1,.int p.2,encW q.1,.int q.2]) G'):
  kKb {nx:=fun _ G'=>Q .non G',rt:=Q} [some (.ref b),some (.ref u),some v2,some v3,none,none,none,none,none,none,none,none] G:=by
 have hs:=sz
 wp_walk using 1,kKb,jJ5,jKv,tPar3
 refine⟨by decide,by decide,?_⟩
 refine kKx (b:=b) (n:=n) 1 (fun _ t=>∃x:Nat,(2<=x/\x<=24)/\t= .int x) (by rw[jKq];omega) hb (fun _ _=>trivial) ?_ ?_
 ·intro i x hx G' K K0 hb1 kp hk
  obtain⟨hi,rfl⟩:=jU8 hx
  wp_walk using 1,tSeq
  refine⟨b,23,n+i*1,rfl,hb1,by omega,by decide,by decide,fun r G2 r0 r1 hb2 kp2=> ?_⟩
  exact⟨_,rfl,hk _ G2 ⟨(2+r).toNat,by omega,by congr 1;omega⟩ (hb2.mono (by omega)) kp2⟩
 ·intro D us G1 hD hD1 hlen hus hb1 kp1
  obtain⟨ns,rfl,hns⟩:=kU5 us hus
  rw[jKq] at hb1 hlen
  obtain⟨n1,n2,rfl⟩:∃n1 n2,ns=[n1,n2]:=by
   match ns,hlen with
   | [x0,x1],_=>exact⟨x0,x1,rfl⟩
  have hn1:=hns n1 (by simp)
  have hn2:=hns n2 (by simp)
  obtain⟨bo,hbo⟩:=hb.some
  have hDb:D≠b:=(jJe hbo hD).symm
  refine⟨b,2,n+2,rfl,hb1,by omega,by decide,by decide,fun f G2 f0 f1 hb2 kp2=> ?_⟩
  refine⟨b,2,n+3,rfl,hb2,by omega,by decide,by decide,fun al G3 al0 al1 hb3 kp3=> ?_⟩
  have hD3:=(kp2.trans kp3) _ _ hDb hD1
  obtain⟨mn,hmn,hmn1,hmn2,hmn3⟩:∃mn:Nat,jXz (n1:Int) [(n2:Int)]=mn/\2<=mn/\mn<=n1/\mn<=n2:=by
   unfold jXz jXz
   split
   ·exact⟨n2,rfl,by omega,by omega,by omega⟩
   ·exact⟨n1,rfl,by omega,by omega,by omega⟩
  refine⟨D,(n1:Int),[(n2:Int)],rfl,hD3,?_⟩
  rw[hmn]
  refine⟨b,mn,n+4,rfl,hb3,by omega,by omega,by omega,fun far G4 far0 far1 hb4 kp4=>⟨by omega,fun p hp=> ?_⟩⟩
  have kp14:=(kp2.trans kp3).trans kp4
  have kpG4:=kp1.trans kp14
  have hD4:=kp4 _ _ hDb hD3
  have hu4:=kpG4 _ _ hub hu
  obtain⟨bo4,hbo4⟩:=hb4.some
  have hpb:p≠b:=(jJe hbo4 hp).symm
  have hpD:D≠p:=jJe hD4 hp
  have hpu:u≠p:=jJe hu4 hp
  have hpG:=kpG4.none hpb hp
  wp_walk using 1,iSeq
  refine⟨jJk [n1,n2],jJp (by rw[jJt hpD];exact hD4),?_⟩
  let J2:Nat->St3->Gp->Prop:=fun k τ G'=>∃(v9:Option T) (L:List (Web×Nat)),τ=[some (.ref b),some (.ref u),some v2,some v3,some (.ref D),some (.int f),some (.int al),some (.int far),some (.ref p),v9,none,none]/\L.length=k/\(∀x,x∈L->WR x)/\G' p=some (.lst (L.flatMap fun x=>[encW x.1,.int x.2]))/\BoxAt G' b (n+5+k)/\Keep b G G'/\G' u=some (.lst (jJk ts))/\G' D=some (.lst (jJk [n1,n2]))
  refine⟨J2,?_,?_,?_,?_⟩
  ·exact xi2 none [] rfl ⟨rfl,by simp,jJg,hb4.gup hpb.symm,kpG4.over hpG,by rw[jJt hpu];exact hu4,by rw[jJt hpD];exact hD4⟩
  ·intro k τ G' hk h_;apply xe2 h_;clear h_;intro v9 L h_;apply ae7 h_;clear h_;intro j1 j2 j3 j4 j5 j6 j7
   exact jJp j7
  ·intro k y τ G5 hy h_;apply xe2 h_;clear h_;intro v9 L h_;apply ae7 h_;clear h_;intro j1 j2 j3 j4 j5 j6 j7
   obtain⟨m,hm,rfl⟩:=jUa hy
   have hk:k<2:=(lJa.mp hm).1
   have hmm:(2<=m/\m<=24)/\mn<=m:=by
    have:=lJg hm
    simp at this
    rcases this with rfl | rfl
    ·exact⟨hn1,hmn2⟩
    ·exact⟨hn2,hmn3⟩
   have hfl:(L.flatMap fun x=>[encW x.1,T.int x.2]).length<=10:=by
    have:∀L:List (Web×Nat),(L.flatMap fun x=>[encW x.1,T.int x.2]).length=2*L.length:=by
     intro L;induction L with
     | nil=>rfl
     | cons a L ih=>rw[List.flatMap_cons,lJl,ih,lJz];simp;omega
    rw[this];omega
   wp_walk using 1,tSl,rSlF,slR,jJs,jKf,j6
   refine⟨by rw[jQg j3];trivial,fun c1 hc1=> ?_⟩
   have hc1u:u≠c1:=jJe j6 hc1
   refine⟨.newL (cutT (jJk ts) none (some (m:Int))),by rw[jJt hc1u,j6],fun c2 hc2=>⟨by omega,fun c3 hc3=> ?_⟩⟩
   have k1:=Sub.new (o:= .lst (cutT (jJk ts) (some (24-(m:Int))) none)) hc1
   have k2:=Sub.new (o:= .lst (cutT (jJk ts) none (some (m:Int)))) hc2
   have k3:=Sub.new (o:= .lst [T.ref c1,T.ref c2]) hc3
   have sA:=(k1.trans k2).trans k3
   have g1:=(k2.trans k3) _ _ (jJg (G:=G5) (a:=c1) (o:= .lst (cutT (jJk ts) (some (24-(m:Int))) none)))
   have g2:=k3 _ _ (jJg (G:=gup G5 c1 (.lst (cutT (jJk ts) (some (24-(m:Int))) none))) (a:=c2) (o:= .lst (cutT (jJk ts) none (some (m:Int)))))
   generalize gup (gup (gup G5 c1 (.lst (cutT (jJk ts) (some (24-(m:Int))) none))) c2 (.lst (cutT (jJk ts) none (some (m:Int))))) c3 (.lst [T.ref c1,T.ref c2])=G6 at *
   rw[cut_drop (by omega) (by omega)] at g1
   rw[cut_take] at g2
   obtain⟨at',tl,hat,hatG,htl,hbits⟩:∃(at':Addr) (tl:List Nat),L2.atI [T.ref c1,T.ref c2] f=some (.ref at')/\G6 at'=some (.lst (jJk tl))/\m<=tl.length/\∀x,x∈tl->x<=1:=by
    have:f=0\/f=1:=by omega
    rcases this with rfl | rfl
    ·exact⟨c1,_,rfl,g1,by simp;omega,fun x hx=>h01 x (List.mem_of_mem_drop hx)⟩
    ·exact⟨c2,_,rfl,g2,by simp;omega,fun x hx=>h01 x (List.mem_of_mem_take hx)⟩
   refine⟨.ref at',hat,m,at',tl,rfl,hatG,by omega,by omega,htl,hbits,fun G7 s7=> ?_⟩
   have s57:=sA.trans s7
   have j3':=s57 _ _ j3
   refine⟨_,j3',by omega,b,m,n+5+k,rfl,(j4.sub s57).gup hpb.symm,by omega,by omega,by omega,fun tk G8 tk0 tk1 hb8 kp8=>⟨by omega,fun c4 hc4=> ?_⟩⟩
   obtain⟨tv,htv,htvm⟩:∃tv:Nat,L2.atI [T.int ((m:Int)-1-far),T.int far] f=some (.int tv)/\tv<m:=by
    have:f=0\/f=1:=by omega
    rcases this with rfl | rfl
    ·exact⟨((m:Int)-1-far).toNat,by rw[show ((((m:Int)-1-far).toNat:Nat):Int)=(m:Int)-1-far by omega];rfl,by omega⟩
    ·exact⟨far.toNat,by rw[show ((far.toNat:Nat):Int)=far by omega];rfl,by omega⟩
   refine⟨.int tv,htv,by omega,fun c5 hc5=> ?_⟩
   obtain⟨rm,hrm,hrmm⟩:∃rm:Nat,L2.atI [T.int tk,T.int tv] al=some (.int rm)/\rm<m:=by
    have:al=0\/al=1:=by omega
    rcases this with rfl | rfl
    ·exact⟨tk.toNat,by rw[show ((tk.toNat:Nat):Int)=tk by omega];rfl,by omega⟩
    ·exact⟨tv,rfl,htvm⟩
   have s8:=(Sub.new (o:= .lst [T.int ((m:Int)-1-far),T.int far]) hc4).trans (Sub.new (o:= .lst [T.int tk,T.int tv]) hc5)
   have p8:=s8 _ _ (kp8 _ _ hpb jJg)
   have u8:=s8 _ _ (kp8 _ _ hub (by rw[jJt hpu];exact s57 _ _ j6))
   have D8:=s8 _ _ (kp8 _ _ hDb (by rw[jJt hpD];exact s57 _ _ j7))
   refine⟨.int rm,hrm,_,p8,by rw[lJl];simp only[lJz,List.length_nil];omega,xi2 _ (L++[(jVg m tl,rm)]) rfl ⟨by simp[j1],?_,?_,?_,?_,?_,?_⟩⟩
   ·intro x hx
    rcases (lJu.mp hx) with hx | hx
    ·exact j2 x hx
    ·rw[lJp.mp hx]
     have:(jVg m tl).length=m:=by simp[jVg]
     exact⟨(tline_ok (by omega)).any (by omega) (by omega) (by omega),by show rm<(jVg m tl).length;omega⟩
   ·rw[jJg,lQi];simp
   ·exact ((hb8.sub s8).gup hpb.symm).mono (by omega)
   ·exact ((((j5.trans (.sub s57)).over hpG).trans kp8).trans (.sub s8)).over hpG
   ·rw[jJt hpu];exact u8
   ·rw[jJt hpD];exact D8
  ·intro τ G5 h_;apply xe2 h_;clear h_;intro v9 L h_;apply ae7 h_;clear h_;intro j1 j2 j3 j4 j5 j6 j7
   have hll:(jJk [n1,n2]).length=2:=rfl
   rw[hll] at j1 j4
   obtain⟨p1,p2,rfl⟩:∃p1 p2,L=[p1,p2]:=by
    match L,j1 with
    | [x0,x1],_=>exact⟨x0,x1,rfl⟩
   wp_walk using 1,tSeq
   exact⟨_,jJp j3,kk p1 p2 G5 (j2 _ (by simp)) (j2 _ (by simp)) (j4.mono (by omega)) j5⟩
theorem rdok_l_lines:∀xs G Q,jQa xs G Q->jYe {nx:=fun _ G'=>Q .non G',rt:=Q} (jJm N_l_lines xs) G:=by
 intro xs G Q h_;apply xe2 h_;clear h_;intro b n h_;apply ae3 h_;clear h_;intro hb hn kk
 rw[show jJm N_l_lines [.ref b]=[some (.ref b),none,none,none,none,none,none,none,none,none,none,none] from rfl]
 have hs:=sz
 rw[show jYe=(tSeq (tAsg (jQ3 [false,false,false,false,false,false,false,false,false,false,true,false] (jKv (jJa (tC (.int 24)) tNil)) (jJj 10) jUo (tCB jZb (jJa (tOp rEqA (jJo jJh (jJa (tVar 0) (jJa (tC (.int 6)) tNil))) (tC (.int 0))) tNil))) (jJj 1)) (tSeq (tAsg (tTup (jJa (jJo jJh (jJa (tVar 0) (jJa (tC (.int 2)) tNil))) (jJa (jJo jJh (jJa (tVar 0) (jJa (tC (.int 24)) tNil))) tNil))) (gTup 2 (jKb (jJj 2) (jKb (jJj 3) gNil)))) (tSeq (tIfS (jKe (tOp rEqA (jJo jJh (jJa (tVar 0) (jJa (tC (.int 2)) tNil))) (tC (.int 0)))) (tAsg (jQ3 [false,false,false,false,false,false,false,false,false,false,true,false] (jKv (jJa (tC (.int 24)) tNil)) (jJj 10) jUo (tOp rMod (tOp jKk (tOp jKk (tVar 10) (tVar 2)) (tCB jZb (jJa (tOp rGe (tVar 10) (tVar 3)) tNil))) (tC (.int 2)))) (jJj 1)) jK5) kKb))) from rfl]
 wp_walk using 1,jKv,rEqA
 refine⟨by decide,by decide,?_⟩
 obtain⟨bo,hbo⟩:=hb.some
 refine kKx (b:=b) (n:=n) 1 (fun _ t=>∃x:Nat,x<=1/\t= .int x) (by rw[jKq];rw[hs];decide) hb (fun _ _=>trivial) ?_ ?_
 ·intro i x hx G' K K0 hb1 kp hk
  obtain⟨hi,rfl⟩:=jU8 hx
  have hi:i<24:=hi
  wp_walk using 1,rEqA
  refine⟨b,6,n+i*1,rfl,hb1,by omega,by decide,by decide,fun r G2 r0 r1 hb2 kp2=>⟨_,eqG_z,?_⟩⟩
  by_cases z:r=0
  ·rw[if_pos (decide_eq_true z)]
   exact hk _ G2 ⟨1,by omega,rfl⟩ (hb2.mono (by omega)) kp2
  ·rw[if_neg (by simpa using z)]
   exact hk _ G2 ⟨0,by omega,rfl⟩ (hb2.mono (by omega)) kp2
 ·intro D us G1 hD hD1 hlen hus hb1 kp1
  obtain⟨ts,rfl,h01⟩:=kU5 us hus
  have hlt:ts.length=24:=by rw[jKq] at hlen;simpa[jJk] using hlen
  rw[jKq,show n+Int.toNat 24*1=n+24 from rfl] at hb1
  have hDb:D≠b:=(jJe hbo hD).symm
  refine⟨b,2,n+24,rfl,hb1,by omega,by decide,by decide,fun st G2 st0 st1 hb2 kp2=> ?_⟩
  refine⟨b,24,n+25,rfl,hb2,by omega,by decide,by decide,fun at' G3 at0 at1 hb3 kp3=>⟨by omega,?_⟩⟩
  refine⟨b,2,n+26,rfl,hb3,by omega,by decide,by decide,fun c G4 c0 c1 hb4 kp4=>⟨_,eqG_z,?_⟩⟩
  have kp14:=((kp1.trans kp2).trans kp3).trans kp4
  have hD4:=((kp2.trans kp3).trans kp4) _ _ hDb hD1
  split
  ·refine⟨by decide,by decide,?_⟩
   obtain⟨bo4,hbo4⟩:=hb4.some
   refine kKx (b:=b) (n:=n+27) 0 (fun _ t=>∃x:Nat,x<=1/\t= .int x) (by rw[jKq];rw[hs];decide) hb4 (fun _ _=>trivial) ?_ ?_
   ·intro i x hx G' K K0 hb5 kp hk
    obtain⟨hi,rfl⟩:=jU8 hx
    wp_walk using 1,tSeq
    refine⟨by decide,hk _ G' ⟨(((i:Int)+st+if at'<=(i:Int) then 1 else 0)%2).toNat,by omega,by congr 1;omega⟩ hb5 (.refl _ _)⟩
   ·intro D2 us2 G5 hD2 hD5 hlen2 hus2 hb5 kp5
    obtain⟨ts2,rfl,h012⟩:=kU5 us2 hus2
    have hlt2:ts2.length=24:=by rw[jKq] at hlen2;simpa[jJk] using hlen2
    have hD2b:D2≠b:=(jJe hbo4 hD2).symm
    exact kQ0 (n:=n+27) (hb5.mono (by omega)) (by omega) hD5 hD2b hlt2 h012 fun p q G' wp wq bx kp=>kk p q G' wp wq (bx.mono (by omega)) ((kp14.trans kp5).trans kp)
  ·exact kQ0 hb4 (by omega) hD4 hDb hlt h01 fun p q G' wp wq bx kp=>kk p q G' wp wq (bx.mono (by omega)) (kp14.trans kp)
noncomputable abbrev W1 (U:Web):Prop:=AnyWeb U
theorem AnyWeb.w1 {W:Web} (h:AnyWeb W):W1 W:=h
def Two (b:Addr) (n k:Nat) (G:Gp) (Q:VK3):Prop:=∀p q G',WR p->WR q->BoxAt G' b (n+k)->Keep b G G'->Q (.tup [encW p.1,.int p.2,encW q.1,.int q.2]) G'
theorem Two.more {b:Addr} {n k n' k':Nat} {G G':Gp} {Q:VK3} (h:Two b n k G Q) (kp:Keep b G G') (hn:n'+k'<=n+k):Two b n' k' G' Q:=fun p q G2 wp wq bx k2=>h p q G2 wp wq (bx.mono (by omega)) (kp.trans k2)
noncomputable def jUg:Sp3:=fun xs G Q=>∃(b:Addr) (n:Nat),xs=[.ref b]/\BoxAt G b n/\n+5000<2^40/\∀p q G',WR p->WR q->BoxAt G' b (n+3000)->Keep b G G'->Q (.tup [encW p.1,.int p.2,encW q.1,.int q.2]) G'
noncomputable def N_l_two:List Str:=["_law_box_here","_law_way_here","_law_one","_law_other","_law_found"]
noncomputable def kJs:TS3:=
 (tSeq (tAsg (jJo jJh (jJa (tVar 0) (jJa (tC (.int 6)) tNil))) (jJj 1))
 (tSeq (tAsg (jJo jKa (jJa (tVar 0) tNil)) (jJj 2))
 (tSeq (tAsg (tVar 2) (jJj 3))
 (tSeq (tIfS (jKe (tOp rEqA (tVar 1) (tC (.int 0)))) (tAsg (jJo jKa (jJa (tVar 0) tNil)) (jJj 3)) jK5)
 (tSeq (tIfS (jKe (tOp rEqA (tVar 1) (tC (.int 1)))) (tAsg (tOp rIxF (jJo jKo (jJa (tVar 0) (jJa (tVar 2) tNil))) (tC (.int 0))) (jJj 3)) jK5)
 (tSeq (tIfS (tAnd (jKe (tOp rEqA (tVar 1) (tC (.int 2)))) (jKe (tOp rLt (tCB rLen (jJa (tVar 2) tNil)) (tC (.int 7))))) (tAsg (jJo jJ9 (jJa (tVar 0) (jJa (tVar 2) (jJa (tOp jKk (tC (.int 2)) (jJo jJh (jJa (tVar 0) (jJa (tC (.int 2)) tNil)))) tNil)))) (jJj 3)) jK5)
 (tSeq (tIfS (jKe (tOp rEqA (tVar 1) (tC (.int 4)))) (tSeq (tAsg (jJo jQa (jJa (tVar 0) tNil)) (jJj 4))
 (tSeq (tIfS (jKe (tOp rGt (jJo jJh (jJa (tVar 0) (jJa (tC (.int 4)) tNil))) (tC (.int 0)))) (tRet (tVar 4)) jK5)
 (tPar 2 3 (jJa (tOp rIxF (tVar 4) (tC (.int 0))) (jJa (tOp rIxF (tVar 4) (tC (.int 0))) tNil))))) jK5)
 (tRet (tTup (jJa (tVar 2) (jJa (jJo jJh (jJa (tVar 0) (jJa (tCB rLen (jJa (tVar 2) tNil)) tNil))) (jJa (tVar 3) (jJa (jJo jJh (jJa (tVar 0) (jJa (tCB rLen (jJa (tVar 3) tNil)) tNil))) tNil)))))))))))))
noncomputable def rd_two7:TS3:=(tRet (tTup (jJa (tVar 2) (jJa (jJo jJh (jJa (tVar 0) (jJa (tCB rLen (jJa (tVar 2) tNil)) tNil))) (jJa (tVar 3) (jJa (jJo jJh (jJa (tVar 0) (jJa (tCB rLen (jJa (tVar 3) tNil)) tNil))) tNil))))))
noncomputable def rd_two6:TS3:=tSeq (tIfS (jKe (tOp rEqA (tVar 1) (tC (.int 4)))) (tSeq (tAsg (jJo jQa (jJa (tVar 0) tNil)) (jJj 4))
 (tSeq (tIfS (jKe (tOp rGt (jJo jJh (jJa (tVar 0) (jJa (tC (.int 4)) tNil))) (tC (.int 0)))) (tRet (tVar 4)) jK5)
 (tPar 2 3 (jJa (tOp rIxF (tVar 4) (tC (.int 0))) (jJa (tOp rIxF (tVar 4) (tC (.int 0))) tNil))))) jK5) rd_two7
noncomputable def rd_two5:TS3:=tSeq (tIfS (tAnd (jKe (tOp rEqA (tVar 1) (tC (.int 2)))) (jKe (tOp rLt (tCB rLen (jJa (tVar 2) tNil)) (tC (.int 7))))) (tAsg (jJo jJ9 (jJa (tVar 0) (jJa (tVar 2) (jJa (tOp jKk (tC (.int 2)) (jJo jJh (jJa (tVar 0) (jJa (tC (.int 2)) tNil)))) tNil)))) (jJj 3)) jK5) rd_two6
noncomputable def rd_two4:TS3:=tSeq (tIfS (jKe (tOp rEqA (tVar 1) (tC (.int 1)))) (tAsg (tOp rIxF (jJo jKo (jJa (tVar 0) (jJa (tVar 2) tNil))) (tC (.int 0))) (jJj 3)) jK5) rd_two5
noncomputable def rd_two3:TS3:=tSeq (tIfS (jKe (tOp rEqA (tVar 1) (tC (.int 0)))) (tAsg (jJo jKa (jJa (tVar 0) tNil)) (jJj 3)) jK5) rd_two4
theorem two7 {b:Addr} {n:Nat} {U V:Web} {v1 v4:Option T} {G:Gp} {Q:VK3} (hb:BoxAt G b n) (hn:n+5<2^40) (wU:W1 U) (wV:W1 V) (kk:Two b n 2 G Q):
  rd_two7 {nx:=fun _ G'=>Q .non G',rt:=Q} [some (.ref b),v1,some (encW U),some (encW V),v4] G:=by
 have hs:=sz
 have u1:=wU.pos
 have u2:=wU.len
 have v1':=wV.pos
 have v2:=wV.len
 wp_walk using 1,rd_two7
 refine⟨U.map encR,rfl,b,U.length,n,by simp,hb,by omega,by omega,by omega,fun r G1 r0 r1 b1 k1=> ?_⟩
 refine⟨V.map encR,rfl,b,V.length,n+1,by simp,b1,by omega,by omega,by omega,fun q G2 q0 q1 b2 k2=>⟨by omega,?_⟩⟩
 obtain⟨r,rfl⟩:=lJm r0
 obtain⟨q,rfl⟩:=lJm q0
 exact kk (U,r) (V,q) G2 ⟨wU,by show r<U.length;omega⟩ ⟨wV,by show q<V.length;omega⟩ b2 (k1.trans k2)
theorem two6 {b:Addr} {n w:Nat} {U V:Web} {G:Gp} {Q:VK3} (hb:BoxAt G b n) (hn:n+500<2^40) (wU:W1 U) (wV:W1 V) (kk:Two b n 50 G Q):
  rd_two6 {nx:=fun _ G'=>Q .non G',rt:=Q} [some (.ref b),some (.int w),some (encW U),some (encW V),none] G:=by
 have hs:=sz
 wp_walk using 1,rd_two6,rEqA
 refine⟨_,jU6 (c:=4),?_⟩
 split
 ·refine⟨b,n,rfl,hb,by omega,fun p q G1 wp wq b1 k1=> ?_⟩
  refine⟨b,4,n+40,rfl,b1,by omega,by decide,by decide,fun c G2 c0 c1 b2 k2=> ?_⟩
  wp_walk using 1,tSeq
  split
  ·exact kk p q G2 wp wq (b2.mono (by omega)) (k1.trans k2)
  ·exact two7 b2 (by omega) wp.1 wp.1 (kk.more (k1.trans k2) (by omega))
 ·exact two7 hb (by omega) wU wV (kk.more (.refl _ _) (by omega))
theorem two5 {b:Addr} {n w:Nat} {U V:Web} {G:Gp} {Q:VK3} (hb:BoxAt G b n) (hn:n+1500<2^40) (aU:AnyWeb U) (wV:W1 V) (kk:Two b n 500 G Q):
  rd_two5 {nx:=fun _ G'=>Q .non G',rt:=Q} [some (.ref b),some (.int w),some (encW U),some (encW V),none] G:=by
 have hs:=sz
 have hp:=aU.pos
 wp_walk using 1,rd_two5,rEqA
 refine⟨_,jU6 (c:=2),?_⟩
 split
 ·refine⟨U.map encR,rfl,?_⟩
  split
  ·rename_i h7
   have h7:U.length<7:=by rw[lJb] at h7;omega
   refine⟨b,2,n,rfl,hb,by omega,by decide,by decide,fun r G1 r0 r1 b1 k1=>⟨_,rfl,?_⟩⟩
   obtain⟨r,rfl⟩:=lJm r0
   have hends:=ends_len aU.deg
   have h1:(jQ0 U).length*(2+r)<=36*3:=Nat.mul_le_mul (by omega) (by omega)
   have h2:(2+r)*U.length<=3*7:=Nat.mul_le_mul (by omega) (by omega)
   have h3:1*1<=(2+r)*U.length:=Nat.mul_le_mul (by omega) (by omega)
   refine⟨b,U,2+r,n+1,by simp,b1,by omega,aU.fine,aU.sym,hp,by omega,by omega,fun V' G2 cv b2 k2=> ?_⟩
   have wV':W1 V':=by
    rcases cv with rfl | ⟨sh,cn⟩
    ·exact aU.w1
    ·refine⟨by rw[sh.len];omega,by rw[sh.len];omega,sh.sym,fun y es hy=> ?_,cn⟩
     obtain⟨es',z1,z2⟩:=sh.row y es hy
     have:=aU.deg _ _ z1
     omega
   exact two6 b2 (by omega) aU.w1 wV' (kk.more (k1.trans k2) (by omega))
  ·exact two6 hb (by omega) aU.w1 wV (kk.more (.refl _ _) (by omega))
 ·exact two6 hb (by omega) aU.w1 wV (kk.more (.refl _ _) (by omega))
theorem two4 {b:Addr} {n w:Nat} {U V:Web} {G:Gp} {Q:VK3} (hb:BoxAt G b n) (hn:n+2000<2^40) (aU:AnyWeb U) (wV:W1 V) (kk:Two b n 600 G Q):
  rd_two4 {nx:=fun _ G'=>Q .non G',rt:=Q} [some (.ref b),some (.int w),some (encW U),some (encW V),none] G:=by
 have hs:=sz
 wp_walk using 1,rd_two4,rEqA
 refine⟨_,jU6 (c:=1),?_⟩
 split
 ·refine⟨b,U,n,rfl,hb,by omega,aU,fun nu V' G1 tn rn b1 k1=>⟨_,rfl,?_⟩⟩
  have:=aU.len
  exact two5 b1 (by omega) aU (ren_any tn rn aU).w1 (kk.more k1 (by omega))
 ·exact two5 hb (by omega) aU wV (kk.more (.refl _ _) (by omega))
theorem two3 {b:Addr} {n w:Nat} {U V:Web} {G:Gp} {Q:VK3} (hb:BoxAt G b n) (hn:n+3500<2^40) (aU:AnyWeb U) (wV:W1 V) (kk:Two b n 1700 G Q):
  rd_two3 {nx:=fun _ G'=>Q .non G',rt:=Q} [some (.ref b),some (.int w),some (encW U),some (encW V),none] G:=by
 have hs:=sz
 wp_walk using 1,rd_two3,rEqA
 refine⟨_,jU6 (c:=0),?_⟩
 split
 ·refine⟨b,n,rfl,hb,by omega,fun V' G1 aV b1 k1=> ?_⟩
  exact two4 b1 (by omega) aU aV.w1 (kk.more k1 (by omega))
 ·exact two4 hb (by omega) aU wV (kk.more (.refl _ _) (by omega))
theorem rdok_l_two:∀xs G Q,jUg xs G Q->kJs {nx:=fun _ G'=>Q .non G',rt:=Q} (jJm N_l_two xs) G:=by
 intro xs G Q h_;apply xe2 h_;clear h_;intro b n h_;apply ae3 h_;clear h_;intro hb hn kk
 replace kk:Two b n 3000 G Q:=kk
 rw[show jJm N_l_two [.ref b]=[some (.ref b),none,none,none,none] from rfl]
 rw[show kJs=(tSeq (tAsg (jJo jJh (jJa (tVar 0) (jJa (tC (.int 6)) tNil))) (jJj 1)) (tSeq (tAsg (jJo jKa (jJa (tVar 0) tNil)) (jJj 2)) (tSeq (tAsg (tVar 2) (jJj 3)) rd_two3))) from rfl]
 wp_walk using 1,tSeq
 refine⟨b,6,n,rfl,hb,by omega,by decide,by decide,fun w G1 w0 w1 b1 k1=> ?_⟩
 obtain⟨w,rfl⟩:=lJm w0
 refine⟨b,n+1,rfl,b1,by omega,fun U G2 aU b2 k2=> ?_⟩
 exact two3 b2 (by omega) aU aU.w1 (kk.more (k1.trans k2) (by omega))
noncomputable def jQw:Sp3:=fun xs G Q=>∃(b:Addr) (W:Web) (r m n:Nat),xs=[.ref b,encW W,.int r,.int m]/\BoxAt G b n/\n+2000<2^40/\Fine W/\r<W.length/\m<=1000/\∀ds es G',goW W r ds=some es->ds.length<=m->BoxAt G' b (n+2000)->Keep b G G'->Q (.tup (jJk ds)) G'
noncomputable def N_l_way:List Str:=["_law_box_here","_law_web_here","_law_room","_law_most","_law_way_here","_law_turn_here"]
noncomputable def kJr:TS3:=
 (tSeq (tAsg (tLst tNil) (jJj 4))
 (tSeq (tFor (jKv (jJa (jJo jJh (jJa (tVar 0) (jJa (tOp jKk (tVar 3) (tC (.int 1))) tNil))) tNil)) (jJj 5) (tIfS (jKe (tOp rGt (tCB rLen (jJa (tOp rIxF (tVar 1) (tVar 2)) tNil)) (tC (.int 0)))) (tSeq (jUk (tBM "list" jKr (tVar 4) (jJa (jJo jJh (jJa (tVar 0) (jJa (tCB rLen (jJa (tOp rIxF (tVar 1) (tVar 2)) tNil)) tNil))) tNil)))
 (tAsg (tOp rIxF (tOp rIxF (tOp rIxF (tVar 1) (tVar 2)) (tOp rIxF (tVar 4) (tUn rNeg (tC (.int 1))))) (tC (.int 0))) (jJj 2))) jK5))
 (tRet (tCB jKm (jJa (tVar 4) tNil)))))
theorem rdok_l_way:∀xs G Q,jQw xs G Q->kJr {nx:=fun _ G'=>Q .non G',rt:=Q} (jJm N_l_way xs) G:=by
 intro xs G Q h_;apply xe5 h_;clear h_;intro b W r m n h_;apply ae6 h_;clear h_;intro hb hn fine hr hm kk
 rw[show jJm N_l_way [.ref b,encW W,.int r,.int m]=[some (.ref b),some (.tup (W.map encR)),some (.int r),some (.int m),none,none] from rfl]
 have hs:=sz
 obtain⟨bo,hbo⟩:=hb.some
 wp_walk using 1,kJr,jJ5,jKv
 refine⟨lJn _,fun p hp=> ?_⟩
 have hbp:=jJe hbo hp
 refine⟨b,_,n,rfl,hb.gup hbp,by omega,by omega,by omega,fun c G1 c0 c1 b1 k1=> ?_⟩
 refine⟨c,rfl,by omega,by omega,?_⟩
 let J1:Nat->St3->Gp->Prop:=fun i τ G'=>∃(v5:Option T) (ds:List Nat) (es:List (Nat×Nat)),τ=[some (.ref b),some (.tup (W.map encR)),some (.int (jYv r es:Nat)),some (.int m),some (.ref p),v5]/\goW W r ds=some es/\ds.length<=i/\G' p=some (.lst (jJk ds))/\BoxAt G' b (n+1+i)/\Keep b G G'
 refine⟨J1,?_,?_,?_,?_⟩
 ·exact⟨none,[],[],rfl,rfl,lJd _,k1 _ _ hbp.symm jJg,b1,(Keep.new hp).trans k1⟩
 ·intros;trivial
 ·intro i x τ G2 hx h_;apply xe3 h_;clear h_;intro v5 ds es h_;apply ae5 h_;clear h_;intro h1 h2 h3 h4 h5
  have hi:i<c.toNat:=by have:=(lJa.mp hx).1;rw[jKq] at this;exact this
  have hl:=(goW_lt fine hr h1).1
  obtain⟨row,hrow,hen⟩:=kJ9 hl
  have hrl:=fine.row _ _ hrow
  have hatR:=jQe hrow
  wp_walk using 1,hatR,encR,lJb,jQg h3,h3
  split
  ·rename_i hpos
   refine⟨b,_,_,rfl,h4,by omega,by omega,by omega,fun y G3 d0 d1 b3 k3=> ?_⟩
   obtain⟨y,rfl⟩:=lJm d0
   have h3':=k3 _ _ hbp.symm h3
   have hdr:y<row.length:=by omega
   have hed:row[y]? =some row[y]:=lJc hdr
   generalize row[y]=e at hed
   have heR:=kVs hed
   have hg:goW W r (ds++[y])=some (es++[e]):=by rw[kVo,h1];show (en W (jYv r es) y).map _=_;rw[hen,hed];rfl
   wp_walk using 1,h3',at_last,heR,encE,hatR,encR
   refine⟨by simp[jJk];omega,_,ds++[y],es++[e],by rw[jYj],hg,by simp;omega,by rw[jJg];simp[jJk],b3.gup hbp,(h5.trans k3).over hp⟩
  ·exact⟨_,ds,es,rfl,h1,by omega,h3,h4.mono (by omega),h5⟩
 ·intro τ G2 h_;apply xe3 h_;clear h_;intro v5 ds es h_;apply ae5 h_;clear h_;intro h1 h2 h3 h4 h5
  rw[jKq] at h2 h4
  wp_walk using 1,jJp h3
  exact kk ds es G2 h1 (by omega) (h4.mono (by omega)) h5
theorem intsN_at {F:List Nat} {i:Nat} {x:T} (h:(jJk F)[i]? =some x):∃d,F[i]? =some d/\x= .int (d:Nat):=by
 unfold jJk at h
 rw[lJf] at h
 cases e:F[i]? with
 | none=>rw[e] at h;cases h
 | some d=>rw[e] at h;cases h;exact⟨d,rfl,rfl⟩
noncomputable def er (b:Addr) (G:Gp):Gp:=fun a=>if a=b then none else G a
theorem er_ne {b a:Addr} {G:Gp} (h:a≠b):er b G a=G a:=if_neg h
theorem er_sub {b:Addr} {G:Gp}:Sub (er b G) G:=fun a o h=>by
 unfold er at h
 split at h
 ·cases h
 ·exact h
theorem er_keep {b:Addr} {G G':Gp} (k:Keep b G G'):Sub (er b G) (er b G'):=fun a o h=>by
 unfold er at h ⊢
 split at h
 ·cases h
 ·rename_i hn
  rw[if_neg hn];exact k a o hn h
mutual
theorem jU4 {G G':Gp} (s:Sub G G'):∀ {x:T} {d:PyData},RdG G x d->RdG G' x d
 | _,_,.non=> .non
 | _,_,.bl b=> .bl b
 | _,_,.int i=> .int i
 | _,_,.str x=> .str x
 | _,_,.tup h=> .tup (kJv s h)
 | _,_,.lst hp h=> .lst (s _ _ hp) (kJv s h)
theorem kJv {G G':Gp} (s:Sub G G'):∀ {xs:List T} {ds:List PyData},RdGs G xs ds->RdGs G' xs ds
 | _,_,.nil=> .nil
 | _,_,.cons h hs=> .cons (jU4 s h) (kJv s hs)
end
structure OkP (k:Nat) (d:PyData):Prop where
 lay:d.canLay0=true
 dep:d.depth<=k
def RdT (b:Addr) (G:Gp) (k:Nat) (x:T):Prop:=∃d,RdG (er b G) x d/\OkP k d
theorem RdT.keep {b:Addr} {G G':Gp} {k:Nat} {x:T} (h:RdT b G k x) (q:Keep b G G'):RdT b G' k x:=by
 obtain⟨d,h1,h2⟩:=h
 exact⟨d,jU4 (er_keep q) h1,h2⟩
theorem RdT.mono {b:Addr} {G:Gp} {k k':Nat} {x:T} (h:RdT b G k x) (l:k<=k'):RdT b G k' x:=by
 obtain⟨d,h1,h2⟩:=h
 exact⟨d,h1,h2.lay,lJo h2.dep l⟩
theorem rdts {b:Addr} {G:Gp} {k:Nat}:∀xs:List T,(∀x,x∈xs->RdT b G k x)->∃ds,RdGs (er b G) xs ds/\PyData.canLayAll0 ds=true/\PyData.depthAll ds<=k
 | [],_=>⟨[],.nil,by simp[PyData.canLayAll0],by simp[PyData.depthAll]⟩
 | x::xs,h=>by
  obtain⟨ds,h1,h2,h3⟩:=rdts xs fun y hy=>h y (lKa _ hy)
  obtain⟨d,g1,g2⟩:=h x (lKb ..)
  exact⟨d::ds,.cons g1 h1,by rw[PyData.canLayAll0,g2.lay,h2];rfl,by rw[PyData.depthAll];have:=g2.dep;omega⟩
theorem kUw {b:Addr} {G:Gp} {k:Nat} {xs:List T} (h:∀x,x∈xs->RdT b G k x):RdT b G (k+1) (.tup xs):=by
 obtain⟨ds,h1,h2,h3⟩:=rdts xs h
 exact⟨_,.tup h1,by rw[PyData.canLay0];exact h2,by rw[PyData.depth];omega⟩
theorem rdt_lst {b:Addr} {G:Gp} {k:Nat} {p:Addr} {xs:List T} (hp:G p=some (.lst xs)) (hb:p≠b) (h:∀x,x∈xs->RdT b G k x):RdT b G (k+1) (.ref p):=by
 obtain⟨ds,h1,h2,h3⟩:=rdts xs h
 exact⟨_,.lst (by rw[er_ne hb];exact hp) h1,by rw[PyData.canLay0];exact h2,by rw[PyData.depth];omega⟩
theorem jXw {b:Addr} {G:Gp} {k:Nat} {i:Int}:RdT b G k (.int i):=⟨_,.int i,rfl,by simp[PyData.depth]⟩
theorem rdt_bl {b:Addr} {G:Gp} {k:Nat} {i:Bool}:RdT b G k (.bl i):=⟨_,.bl i,rfl,by simp[PyData.depth]⟩
theorem rdt_non {b:Addr} {G:Gp} {k:Nat}:RdT b G k .non:=⟨_,.non,rfl,by simp[PyData.depth]⟩
theorem rdt_str {b:Addr} {G:Gp} {k:Nat} {x:Str} (h:PyData.strOk x=true):RdT b G k (.str x):=⟨_,.str x,by rw[PyData.canLay0];exact h,by simp[PyData.depth]⟩
theorem rdt_ints {b:Addr} {G:Gp} {ds:List Nat}:RdT b G 1 (.tup (jJk ds)):=kUw fun x hx=>by
 obtain⟨i,_,rfl⟩:=lJ6.mp hx
 exact jXw
mutual
theorem eqv_self {G:Gp}:∀ {x:T} {d:PyData},RdG G x d->PyData.eqv d d=true
 | _,_,.non=>rfl
 | _,_,.bl b=>by simp[PyData.eqv]
 | _,_,.int i=>by simp[PyData.eqv]
 | _,_,.str x=>by simp[PyData.eqv]
 | _,_,.tup h=>kKq h
 | _,_,.lst _ h=>kKq h
theorem kKq {G:Gp}:∀ {xs:List T} {ds:List PyData},RdGs G xs ds->PyData.eqvAll ds ds=true
 | _,_,.nil=>rfl
 | _,_,.cons h hs=>by
  show (PyData.eqv _ _&&PyData.eqvAll _ _)=true
  rw[eqv_self h,kKq hs];rfl
end
noncomputable def numD:PyData->Bool
 | .int _=>true
 | _=>false
noncomputable def natD:PyData->Bool
 | .int i=>decide (0<=i)
 | _=>false
noncomputable def seqD:PyData->Option (List PyData)
 | .tuple ds=>some ds
 | .list ds=>some ds
 | _=>none
theorem isi_num {G:Gp} {x:T} {d:PyData} (h:RdG G x d):∃p q,isiT G x (.ty "int")=some p/\isiT G x (.ty "bool")=some q/\(p&& !q)=numD d:=by
 cases h with
 | non=>exact⟨_,_,rfl,rfl,rfl⟩
 | bl b=>exact⟨_,_,rfl,rfl,rfl⟩
 | int i=>exact⟨_,_,rfl,rfl,rfl⟩
 | str x=>exact⟨_,_,rfl,rfl,rfl⟩
 | tup h=>exact⟨_,_,rfl,rfl,rfl⟩
 | lst hp h=>exact⟨false,false,by simp only[isiT,kJe,hp];rfl,by simp only[isiT,kJe,hp];rfl,rfl⟩
theorem kVl {G:Gp} {x:T} {d:PyData} (h:RdG G x d):isiT G x (.tup [.ty "tuple",.ty "list"])=some (seqD d).isSome/\isiT G x (.tup [.ty "list",.ty "tuple"])=some (seqD d).isSome/\(∀ds,seqD d=some ds->∃xs,seqT G x=some xs/\RdGs G xs ds):=by
 cases h with
 | non=>exact⟨rfl,rfl,fun ds h=>(nomatch h)⟩
 | bl b=>exact⟨rfl,rfl,fun ds h=>(nomatch h)⟩
 | int i=>exact⟨rfl,rfl,fun ds h=>(nomatch h)⟩
 | str x=>exact⟨rfl,rfl,fun ds h=>(nomatch h)⟩
 | tup h=>exact⟨rfl,rfl,fun ds e=>by cases e;exact⟨_,rfl,h⟩⟩
 | lst hp h=>exact⟨by simp only[isiT,kJe,hp];rfl,by simp only[isiT,kJe,hp];rfl,fun ds e=>by cases e;exact⟨_,jJp hp,h⟩⟩
noncomputable def lT (l:List Nat):T:= .tup (jJk l)
noncomputable def seeT (n:Nat) (ls:List (List Nat)):T:= .tup (.int (n:Nat)::ls.map lT)
theorem eqT_l (x y:List Nat):eqT (lT x) (lT y)=decide (x=y):=jZm kVq x y
theorem okD_see {n:Nat} {ls:List (List Nat)}:OkD 2 (seeT n ls):=okD_tup fun x hx=>by
 rcases (lJk.mp hx) with rfl | hx
 ·exact okD_int.mono (by decide)
 ·obtain⟨l,_,rfl⟩:=lJ6.mp hx
  refine okD_tup fun x hx=> ?_
  obtain⟨i,_,rfl⟩:=lJ6.mp hx
  exact okD_int
theorem eqG_see {G:Gp} {n m:Nat} {ls ks:List (List Nat)}:eqG G (seeT n ls) (seeT m ks)=some (decide (n=m)&&decide (ls=ks)):=by
 have ok:∀n ls,eqOk (seeT n ls)=true:=fun n ls=>by
  unfold eqOk
  rw[okD_see.tr,okD_see.lay,decide_eq_true (show (td (seeT n ls)).depth<=50 from lJo okD_see.dep (by decide))];rfl
 show (if eqOk (seeT n ls)=true/\eqOk (seeT m ks)=true then some (eqTs (.int (n:Nat)::ls.map lT) (.int (m:Nat)::ks.map lT)) else none)=_
 rw[if_pos ⟨ok _ _,ok _ _⟩]
 show some (eqT (.int (n:Nat)) (.int (m:Nat))&&eqTs (ls.map lT) (ks.map lT))=_
 rw[kVq,jZm eqT_l]
theorem kU3 {G:Gp}:∀ {xs:List T} {ds:List PyData},RdGs G xs ds->∃ps:List (T×PyData),xs=ps.map (·.1)/\ds=ps.map (·.2)/\∀p,p∈ps->RdG G p.1 p.2
 | _,_,.nil=>⟨[],rfl,rfl,fun p h=>(nomatch h)⟩
 | _,_,.cons (x:=x) (d:=d) h hs=>by
  obtain⟨ps,h1,h2,h3⟩:=kU3 hs
  refine⟨(x,d)::ps,by rw[h1];rfl,by rw[h2];rfl,fun p hp=> ?_⟩
  rcases (lJk.mp hp) with rfl | hp
  ·exact h
  ·exact h3 p hp
theorem jVm {G G':Gp} {x:T} {xs:List T} (h:seqT G x=some xs) (s:Sub G G'):seqT G' x=some xs:=by
 cases x with
 | ref p=>
  simp only[seqT] at h ⊢
  cases e:G p with
  | none=>rw[e] at h;cases h
  | some o=>rw[e] at h;rw[s _ _ e];exact h
 | _=>exact h
noncomputable def wayD (d:PyData):Bool:=match seqD d with
 | some ds=>ds.all natD
 | none=>false
noncomputable def toN:PyData->Nat
 | .int i=>i.toNat
 | _=>0
theorem nats_rd {G:Gp}:∀ {xs:List T} {ds:List PyData},RdGs G xs ds->ds.all natD=true->xs=jJk (ds.map toN)
 | _,_,.nil,_=>rfl
 | _,_,.cons h hs,e=>by
  rw[lKp,lJ3] at e
  rw[nats_rd hs e.2]
  cases h with
  | int i=>
   have h0:0<=i:=of_decide_eq_true e.1
   show _=T.int ((i.toNat:Nat):Int)::_
   rw[Int.toNat_of_nonneg h0];rfl
  | _=>exact absurd (show false=true from e.1) lJe
theorem num_int {G:Gp} {x:T} {d:PyData} (h:RdG G x d) (e:numD d=true):∃i,x= .int i/\d= .int i:=by
 cases h with
 | int i=>exact⟨i,rfl,rfl⟩
 | _=>exact absurd (show false=true from e) lJe
theorem nat_num {d:PyData} (h:numD d=false):natD d=false:=by
 cases d<;>first | rfl | exact absurd (show true=false from h) (by decide)
noncomputable def jKp:Sp3:=fun xs G Q=>∃(x:T) (d:PyData),xs=[x]/\RdG G x d/\∀G',Sub G G'->Q (.bl (numD d)) G'
noncomputable def kK7:List Str:=["thing"]
noncomputable def jVu:TS3:=
 (tRet (kUn (tCB rIsi (jJa (tVar 0) (jJa (tC (.ty "int")) tNil))) (tNotV (tCB rIsi (jJa (tVar 0) (jJa (tC (.ty "bool")) tNil))))))
theorem kQg:∀xs G Q,jKp xs G Q->jVu {nx:=fun _ G'=>Q .non G',rt:=Q} (jJm kK7 xs) G:=by
 intro xs G Q h_;apply xe2 h_;clear h_;intro x d h_;apply ae2 h_;clear h_;intro h kk
 rw[show jJm kK7 [x]=[some x] from rfl]
 obtain⟨p,q,h1,h2,h3⟩:=isi_num h
 have:=kk G (.refl _)
 rw[<-h3] at this
 wp_walk using 1,jVu,rIsi,h1,h2
 cases p<;>exact this
noncomputable def jK7:Sp3:=jKp
noncomputable def kUg:List Str:=["_law_thing"]
noncomputable def jXk:TS3:=
 (tRet (kUn (tCB rIsi (jJa (tVar 0) (jJa (tC (.ty "int")) tNil))) (tNotV (tCB rIsi (jJa (tVar 0) (jJa (tC (.ty "bool")) tNil))))))
theorem kU0:∀xs G Q,jK7 xs G Q->jXk {nx:=fun _ G'=>Q .non G',rt:=Q} (jJm kUg xs) G:=by
 intro xs G Q h_;apply xe2 h_;clear h_;intro x d h_;apply ae2 h_;clear h_;intro h kk
 rw[show jJm kUg [x]=[some x] from rfl]
 obtain⟨p,q,h1,h2,h3⟩:=isi_num h
 have:=kk G (.refl _)
 rw[<-h3] at this
 wp_walk using 1,jXk,rIsi,h1,h2
 cases p<;>exact this
noncomputable def jQ5:Sp3:=fun xs G Q=>∃(x:T) (d:PyData),xs=[x]/\RdG G x d/\(∀ds,seqD d=some ds->ds.length<=5000)/\∀G',Sub G G'->Q (.bl (wayD d)) G'
noncomputable def N_is_way:List Str:=["thing","part"]
noncomputable def jY9:TS3:=
 (tRet (kUn (tCB rIsi (jJa (tVar 0) (jJa (tTup (jJa (tC (.ty "tuple")) (jJa (tC (.ty "list")) tNil))) tNil))) (tCB rAll (jJa (jQ3 [false,true] (iSeq (tVar 0)) (jJj 1) jUo (kUn (jJo jKp (jJa (tVar 1) tNil)) (tOp rGe (tVar 1) (tC (.int 0))))) tNil))))
theorem rdok_is_way:∀xs G Q,jQ5 xs G Q->jY9 {nx:=fun _ G'=>Q .non G',rt:=Q} (jJm N_is_way xs) G:=by
 intro xs G Q h_;apply xe2 h_;clear h_;intro x d h_;apply ae3 h_;clear h_;intro h hl kk
 rw[show jJm N_is_way [x]=[some x,none] from rfl]
 have hs:=sz
 obtain⟨h1,_,h2⟩:=kVl h
 wp_walk using 1,jY9,rIsi,iSeq,h1
 refine⟨by omega,?_⟩
 cases e:seqD d with
 | none=>
  rw[if_neg (by simp)]
  have:=kk G (.refl _)
  rw[wayD,e] at this
  exact this
 | some ds=>
  rw[if_pos (show (some ds).isSome=true from rfl)]
  obtain⟨xs,hx,hr⟩:=h2 ds e
  obtain⟨ps,rfl,rfl,hp⟩:=kU3 hr
  have hle:=hl _ e
  rw[lJb] at hle
  refine⟨_,hx,?_⟩
  refine jQh (es:=ps) (enc:=(·.1)) (fun p=>T.bl (natD p.2)) (by omega) (fun G' s=>jVm hx s) ?_ ?_
  ·intro i p hpi G' K K0 s hk
   wp_walk using 1,tSeq
   have hr:=jU4 s (hp p (lJg hpi))
   refine⟨p.1,p.2,rfl,hr,fun G2 s2=> ?_⟩
   cases en:numD p.2 with
   | false=>
    rw[nat_num en] at hk
    exact⟨false,rfl,hk G2 s2⟩
   | true=>
    obtain⟨i,e1,e2⟩:=num_int hr en
    rw[e2] at hk
    rw[e1]
    exact⟨true,rfl,i,rfl,hk G2 s2⟩
  ·intro D G' hD h1 h2'
   refine⟨D,_,_,rfl,h1,jZq (f:=fun p:T×PyData=>natD p.2),?_⟩
   have:=kk G' h2'
   rw[wayD,e] at this
   simp only[List.all_map] at this
   exact this
noncomputable def sS (W:Web) (r:Nat) (ns:List Nat):Option (Nat×List (List Nat)):=(goW W r ns).map fun es=>((row W r).length,es.map (jYo false W r))
noncomputable def encS:Option (Nat×List (List Nat))->T
 | none=> .non
 | some p=>seeT p.1 p.2
theorem eqG_encS {G:Gp} {a c:Option (Nat×List (List Nat))}:eqG G (encS a) (encS c)=some (decide (a=c)):=by
 have ok:∀n ls,eqOk (seeT n ls)=true:=fun n ls=>by
  unfold eqOk
  rw[okD_see.tr,okD_see.lay,decide_eq_true (show (td (seeT n ls)).depth<=50 from lJo okD_see.dep (by decide))];rfl
 cases a with
 | none=>
  cases c with
  | none=>rfl
  | some q=>
   rw[decide_eq_false (fun z=>nomatch z)]
   show (if eqOk .non=true/\eqOk (seeT q.1 q.2)=true then some (eqT .non (seeT q.1 q.2)) else none)=_
   rw[if_pos ⟨rfl,ok _ _⟩];rfl
 | some p=>
  cases c with
  | none=>
   rw[decide_eq_false (fun z=>nomatch z)]
   show (if eqOk (seeT p.1 p.2)=true/\eqOk .non=true then some (eqT (seeT p.1 p.2) .non) else none)=_
   rw[if_pos ⟨ok _ _,rfl⟩];rfl
  | some q=>
   show eqG G (seeT p.1 p.2) (seeT q.1 q.2)=_
   rw[eqG_see]
   obtain⟨p1,p2⟩:=p
   obtain⟨q1,q2⟩:=q
   by_cases h1:p1=q1
   ·subst h1
    by_cases h2:p2=q2
    ·subst h2;simp
    ·simp[h2]
   ·simp[h1]
noncomputable def jU2:Sp3:=fun xs G Q=>∃(W:Web) (r:Nat) (x:T) (ds:List Nat),xs=[encW W,.int r,x]/\Fine W/\r<W.length/\seqT G x=some (jJk ds)/\ds.length<=1000/\∀G',Sub G G'->Q (encS (sS W r ds)) G'
noncomputable def N_seen:List Str:=["web","room","way","ends","end"]
noncomputable def kU2:TS3:=
 (tSeq (tAsg (jJo jQn (jJa (tVar 0) (jJa (tVar 1) (jJa (tVar 2) tNil)))) (jJj 3))
 (tSeq (tIfS (jKe (tOp rIsN (tVar 3) (tC .non))) (tRet (tC .non)) jK5)
 (tRet (tCB jKm (jJa (tOp jKk (tLst (jJa (tCB rLen (jJa (tOp rIxF (tVar 0) (tVar 1)) tNil)) tNil)) (jQ3 [false,false,false,false,true] (iSeq (tVar 3)) (jJj 4) jUo (tTup (jJa (tOp rIxF (tVar 4) (tC (.int 1))) (jJa (tCB rLen (jJa (tOp rIxF (tVar 0) (tOp rIxF (tVar 4) (tC (.int 0)))) tNil)) tNil))))) tNil)))))
theorem rdok_seen:∀xs G Q,jU2 xs G Q->kU2 {nx:=fun _ G'=>Q .non G',rt:=Q} (jJm N_seen xs) G:=by
 intro xs G Q h_;apply xe4 h_;clear h_;intro W r x ds h_;apply ae5 h_;clear h_;intro fine hr hx hdl kk
 rw[show jJm N_seen [encW W,.int r,x]=[some (.tup (W.map encR)),some (.int r),some x,none,none] from rfl]
 have hs:=sz
 wp_walk using 1,kU2
 refine⟨W,r,x,ds,rfl,fine,hr,hx,hdl,fun G1 s1=>⟨fun hn=> ?_,fun es p he hp hp1=> ?_⟩⟩
 ·have:=kk G1 s1
  rw[sS,hn] at this
  wp_walk using 1,tSeq
  exact this
 ·obtain⟨b1,b2,b3⟩:=goW_lt fine hr he
  obtain⟨row',hrow,hen⟩:=kJ9 hr
  wp_walk using 1,iSeq,hp1,jQe hrow,encR,lJb
  refine⟨by omega,fun q hq=> ?_⟩
  have hpq:=jJe hp1 hq
  refine⟨es.map encE,jJp (by rw[jJt hpq];exact hp1),?_⟩
  refine jQh (fun e=>lT (jYo false W r e)) (by omega) (fun G' s=>jJp (s _ _ (by rw[jJt hpq];exact hp1))) ?_ ?_
  ·intro i e hei G2 K K0 s hk
   obtain⟨row2,hrow2,_⟩:=kJ9 (b3 e (lJg hei))
   wp_walk using 1,encE,jQe hrow2,encR,lJb
   have:=hk G2 (.refl _)
   unfold jYo lT at this
   rw[jUm hrow2] at this
   exact⟨by omega,by simpa[jJk] using this⟩
  ·intro D G2 hD h1 h2
   have hq2:=h2 _ _ (jJg (G:=G1) (a:=q) (o:= .lst [T.int (row'.length:Nat)]))
   refine⟨_,jZr hq2 h1 (by simp;omega),?_⟩
   rw[jYw]
   intro u hu
   refine⟨_,seqT_gup,?_⟩
   have:=kk (gup G2 u (.lst ([T.int (row'.length:Nat)]++es.map fun e=>lT (jYo false W r e)))) (((s1.trans (.new hq)).trans h2).trans (.new hu))
   rw[sS,he] at this
   simp only[lKx,encS,jUm hrow,seeT,lJw] at this
   exact this
noncomputable def jQs:Sp3:=jU2
noncomputable def N_l_seen:List Str:=["_law_web_here","_law_room","_law_way_here","_law_told","_law_door","_law_came"]
noncomputable def jY3:TS3:=
 (tSeq (tAsg (tLst (jJa (tCB rLen (jJa (tOp rIxF (tVar 0) (tVar 1)) tNil)) tNil)) (jJj 3))
 (tSeq (tFor (iSeq (tVar 2)) (jJj 4) (tSeq (tIfS (jKe (tOp rGe (tVar 4) (tCB rLen (jJa (tOp rIxF (tVar 0) (tVar 1)) tNil)))) (tRet (tC .non)) jK5)
 (tSeq (tAsg (tOp rIxF (tOp rIxF (tVar 0) (tVar 1)) (tVar 4)) (gTup 2 (jKb (jJj 1) (jKb (jJj 5) gNil))))
 (jUk (tBM "list" jKr (tVar 3) (jJa (tTup (jJa (tVar 5) (jJa (tCB rLen (jJa (tOp rIxF (tVar 0) (tVar 1)) tNil)) tNil))) tNil))))))
 (tRet (tCB jKm (jJa (tVar 3) tNil)))))
theorem rdok_l_seen:∀xs G Q,jQs xs G Q->jY3 {nx:=fun _ G'=>Q .non G',rt:=Q} (jJm N_l_seen xs) G:=by
 intro xs G Q h_;apply xe4 h_;clear h_;intro W r x ds h_;apply ae5 h_;clear h_;intro fine hr hx hdl kk
 rw[show jJm N_l_seen [encW W,.int r,x]=[some (.tup (W.map encR)),some (.int (r:Nat)),some x,none,none,none] from rfl]
 have hs:=sz
 obtain⟨row',hrow,hen⟩:=kJ9 hr
 wp_walk using 1,jY3,jJ5,iSeq,jQe hrow,encR,lJb
 refine⟨by omega,fun p hp=> ?_⟩
 refine⟨_,jVm hx (.new hp),?_⟩
 let J1:Nat->St3->Gp->Prop:=fun i τ G'=>∃(v4 v5:Option T) (es:List (Nat×Nat)),τ=[some (.tup (W.map encR)),some (.int (jYv r es:Nat)),some x,some (.ref p),v4,v5]/\goW W r (ds.take i)=some es/\G' p=some (.lst (.int ((row W r).length:Nat)::(es.map (jYo false W r)).map lT))/\Sub G G'
 refine⟨J1,?_,?_,?_,?_⟩
 ·exact⟨none,none,[],rfl,rfl,by rw[jJg,jUm hrow];rfl,.new hp⟩
 ·intro i τ G' hi h_;apply xe3 h_;clear h_;intro _ _ _ h_;apply ae3 h_;clear h_;intro _ _ h3
  exact jVm hx h3
 ·intro i y τ G1 hy h_;apply xe3 h_;clear h_;intro v4 v5 es h_;apply ae3 h_;clear h_;intro h1 h2 h3
  obtain⟨d,hd,rfl⟩:=intsN_at hy
  obtain⟨hl,hel,_⟩:=goW_lt fine hr h1
  obtain⟨rw_,hrw,hen2⟩:=kJ9 hl
  have hrl:=fine.row _ _ hrw
  wp_walk using 1,jQe hrw,encR,lJb
  split
  ·rename_i hge
   have:=kk G1 h3
   rw[sS,goW_cut hd h1 (by rw[hen2];exact lJh (by omega))] at this
   exact this
  ·rename_i hlt
   have hdl2:d<rw_.length:=by omega
   have hed:rw_[d]? =some rw_[d]:=lJc hdl2
   generalize rw_[d]=e at hed
   have hee:en W (jYv r es) d=some e:=by rw[hen2];exact hed
   have hel2:=fine.rng _ _ e.1 e.2 hee
   obtain⟨rw2,hrw2,_⟩:=kJ9 hel2
   have hrl2:=fine.row _ _ hrw2
   have htl:es.length<=1000:=by rw[hel,lKm];omega
   wp_walk using 1,kVs hed,encE,jQg h2,h2,jQe hrw2,encR,lJb
   refine⟨by omega,by omega,?_⟩
   refine⟨_,_,es++[e],by rw[jYj],?_,?_,h3.over hp⟩
   ·rw[kVn hd,h1];show (en W (jYv r es) d).map _=_;rw[hee];rfl
   ·rw[jJg,lKk,lKk]
    have:lT (jYo false W r e)=T.tup [T.int (e.2:Nat),T.int (rw2.length:Nat)]:=by
     unfold jYo lT
     rw[jUm hrw2]
     simp[jJk]
    rw[<-this]
    rfl
 ·intro τ G1 h_;apply xe3 h_;clear h_;intro v4 v5 es h_;apply ae3 h_;clear h_;intro h1 h2 h3
  rw[show (jJk ds).length=ds.length by simp[jJk],lKy] at h1
  wp_walk using 1,jJp h2
  have:=kk G1 h3
  rw[sS,h1] at this
  exact this
noncomputable def SPb (U V:Web) (a b:Nat) (o:Option (List Nat)) (d:PyData):Bool:=match o,seqD d with
 | some p,some ds=>ds.all natD&&(decide (ds.length=p.length)&& !decide (sS U a (ds.map toN)=sS V b (ds.map toN)))
 | _,_=>false
theorem SPb_none {U V:Web} {a b:Nat} {d:PyData}:SPb U V a b none d=false:=rfl
theorem SPb_nos {U V:Web} {a b:Nat} {o:Option (List Nat)} {d:PyData} (h:seqD d=none):SPb U V a b o d=false:=by unfold SPb;rw[h];cases o<;>rfl
theorem SPb_some {U V:Web} {a b:Nat} {p:List Nat} {d:PyData} {ds:List PyData} (h:seqD d=some ds):SPb U V a b (some p) d=(ds.all natD&&(decide (ds.length=p.length)&& !decide (sS U a (ds.map toN)=sS V b (ds.map toN)))):=by unfold SPb;rw[h]
noncomputable def jJz:Sp3:=fun xs G Q=>∃(U V:Web) (a b:Nat) (x:T) (d:PyData),xs=[encW U,.int (a:Nat),encW V,.int (b:Nat),x]/\AnyWeb U/\AnyWeb V/\a<U.length/\b<V.length/\RdG G x d/\(∀ds,seqD d=some ds->ds.length<=900)/\∀o G',Lst (XL U V) U V a b o->Sub G G'->Q (.bl (SPb U V a b o d)) G'
noncomputable def jX0:List Str:=["one","a","other","b","way","least"]
noncomputable def jQ8:TS3:=
 (tSeq (tAsg (jJo jQm (jJa (tVar 0) (jJa (tVar 1) (jJa (tVar 2) (jJa (tVar 3) tNil))))) (jJj 5))
 (tSeq (tIfS (tOr (jKe (tOp rIsN (tVar 5) (tC .non))) (tOr (tNot (jKe (jJo jQ5 (jJa (tVar 4) tNil)))) (jKe (tOp rNeA (tCB rLen (jJa (tVar 4) tNil)) (tCB rLen (jJa (tVar 5) tNil)))))) (tRet (tC (.bl false))) jK5)
 (tRet (tOp rNeA (jJo jU2 (jJa (tVar 0) (jJa (tVar 1) (jJa (tVar 4) tNil)))) (jJo jU2 (jJa (tVar 2) (jJa (tVar 3) (jJa (tVar 4) tNil))))))))
theorem jYz:∀xs G Q,jJz xs G Q->jQ8 {nx:=fun _ G'=>Q .non G',rt:=Q} (jJm jX0 xs) G:=by
 intro xs G Q h_;apply xe6 h_;clear h_;intro U V a b x d h_;apply ae7 h_;clear h_;intro u v ha hb h hl kk
 rw[show jJm jX0 [encW U,.int (a:Nat),encW V,.int (b:Nat),x]=[some (encW U),some (.int (a:Nat)),some (encW V),some (.int (b:Nat)),some x,none] from rfl]
 have hs:=sz
 have ul:=u.len
 have vl:=v.len
 have huv:U.length*V.length<=24*24:=Nat.mul_le_mul ul vl
 wp_walk using 1,jQ8,rNeA
 refine⟨U,V,a,b,rfl,u.fine,v.fine,ha,hb,by omega,fun o G1 ho hol s1=> ?_⟩
 have h1:=jU4 s1 h
 cases o with
 | none=>
  have:=kk none G1 ho s1
  rw[SPb_none] at this
  exact this
 | some p=>
  dsimp only
  rw[if_neg (by simp[oWay,wayT])]
  refine⟨x,d,rfl,h1,fun ds e=>by have:=hl ds e;omega,fun G2 s2=>⟨_,rfl,?_⟩⟩
  cases e:seqD d with
  | none=>
   have hw:wayD d=false:=by unfold wayD;rw[e]
   rw[hw,if_pos rfl]
   have:=kk (some p) G2 ho (s1.trans s2)
   rw[SPb_nos e] at this
   exact this
  | some ds=>
   have hw:wayD d=ds.all natD:=by unfold wayD;rw[e]
   rw[hw]
   have fin:∀G',Sub G G'->Q (.bl (ds.all natD&&(decide (ds.length=p.length)&& !decide (sS U a (ds.map toN)=sS V b (ds.map toN))))) G':=fun G' s=>by
    have:=kk (some p) G' ho s
    rw[SPb_some e] at this
    exact this
   cases ea:ds.all natD with
   | false=>
    rw[if_pos rfl]
    have:=fin G2 (s1.trans s2)
    rw[ea] at this
    exact this
   | true=>
    rw[if_neg (by decide)]
    obtain⟨xs,hx,hr⟩:=(kVl (jU4 s2 h1)).2.2 ds e
    have hn:=nats_rd hr ea
    have hlen:xs.length=ds.length:=by rw[hn];simp[jJk]
    have hdl:=hl ds e
    refine⟨xs,hx,jJk p,rfl,_,jU6,?_⟩
    rw[hlen,show (jJk p).length=p.length by simp[jJk]]
    by_cases el:ds.length=p.length
    ·rw[decide_eq_true el,if_neg (by decide)]
     rw[hn] at hx
     refine⟨U,a,x,ds.map toN,rfl,u.fine,ha,hx,by rw[lJb];omega,fun G3 s3=>⟨V,b,x,ds.map toN,rfl,v.fine,hb,jVm hx s3,by rw[lJb];omega,fun G4 s4=>⟨_,eqG_encS,?_⟩⟩⟩
     have:=fin G4 (((s1.trans s2).trans s3).trans s4)
     rw[ea,decide_eq_true el] at this
     exact this
    ·rw[decide_eq_false el,if_pos rfl]
     have:=fin G2 (s1.trans s2)
     rw[ea,decide_eq_false el] at this
     exact this
noncomputable def jQj:Sp3:=fun xs G Q=>∃(x:Bool),xs=[.bl x,.bl x]/\∀G',Sub G G'->Q (.bl true) G'
noncomputable def N_l_says:List Str:=["_law_found","_law_due"]
noncomputable def jY4:TS3:=
 (tRet (kUn (tCB rIsi (jJa (tVar 0) (jJa (tC (.ty "bool")) tNil))) (tOp rEqA (tVar 0) (tVar 1))))
theorem rdok_l_says:∀xs G Q,jQj xs G Q->jY4 {nx:=fun _ G'=>Q .non G',rt:=Q} (jJm N_l_says xs) G:=by
 intro xs G Q h_;apply xe1 h_;clear h_;intro x kk
 rw[show jJm N_l_says [.bl x,.bl x]=[some (.bl x),some (.bl x)] from rfl]
 have e1:isiT G (.bl x) (.ty "bool")=some true:=rfl
 have e2:eqG G (.bl x) (.bl x)=some true:=by cases x<;>rfl
 wp_walk using 1,jY4,rIsi,rEqA,e1,e2
 exact kk G (.refl _)
noncomputable def jK3:Sp3:=fun xs G Q=>∃(U V:Web) (a b:Nat) (x:T) (d:PyData) (o:Option (List Nat)),xs=[encW U,.int (a:Nat),encW V,.int (b:Nat),x,oWay o]/\AnyWeb U/\AnyWeb V/\a<U.length/\b<V.length/\RdG G x d/\(∀ds,seqD d=some ds->ds.length<=900)/\∀G',Sub G G'->Q (.bl (SPb U V a b o d)) G'
noncomputable def N_l_parts:List Str:=["_law_one","_law_a","_law_other","_law_b","_law_thing","_law_due","_law_door"]
noncomputable def jYd:TS3:=
 (tSeq (tIfS (tOr (jKe (tOp rIsN (tVar 5) (tC .non))) (tOr (tNot (jKe (tCB rIsi (jJa (tVar 4) (jJa (tTup (jJa (tC (.ty "list")) (jJa (tC (.ty "tuple")) tNil))) tNil))))) (jKe (tOp rNeA (tCB rLen (jJa (tVar 4) tNil)) (tCB rLen (jJa (tVar 5) tNil)))))) (tRet (tC (.bl false))) jK5)
 (tSeq (tIfS (tNot (jKe (tCB rAll (jJa (jQ3 [false,false,false,false,false,false,true] (iSeq (tVar 4)) (jJj 6) jUo (kUn (jJo jK7 (jJa (tVar 6) tNil)) (tOp rGe (tVar 6) (tC (.int 0))))) tNil)))) (tRet (tC (.bl false))) jK5)
 (tRet (tOp rNeA (jJo jQs (jJa (tVar 0) (jJa (tVar 1) (jJa (tVar 4) tNil)))) (jJo jQs (jJa (tVar 2) (jJa (tVar 3) (jJa (tVar 4) tNil))))))))
theorem rdok_l_parts:∀xs G Q,jK3 xs G Q->jYd {nx:=fun _ G'=>Q .non G',rt:=Q} (jJm N_l_parts xs) G:=by
 intro xs G Q h_;apply xe7 h_;clear h_;intro U V a b x d o h_;apply ae7 h_;clear h_;intro u v ha hb h hl kk
 rw[show jJm N_l_parts [encW U,.int (a:Nat),encW V,.int (b:Nat),x,oWay o]=[some (encW U),some (.int (a:Nat)),some (encW V),some (.int (b:Nat)),some x,some (oWay o),none] from rfl]
 have hs:=sz
 obtain⟨_,i1,i2⟩:=kVl h
 wp_walk using 1,jYd,rNeA,rIsi,iSeq
 cases o with
 | none=>
  have:=kk G (.refl _)
  rw[SPb_none] at this
  exact this
 | some p=>
  rw[if_neg (by simp[oWay,wayT])]
  refine⟨by omega,_,i1,?_⟩
  cases e:seqD d with
  | none=>
   rw[if_pos (show (none:Option (List PyData)).isSome=false from rfl)]
   have:=kk G (.refl _)
   rw[SPb_nos e] at this
   exact this
  | some ds=>
   rw[if_neg (by simp)]
   have fin:∀G',Sub G G'->Q (.bl (ds.all natD&&(decide (ds.length=p.length)&& !decide (sS U a (ds.map toN)=sS V b (ds.map toN))))) G':=fun G' s=>by
    have:=kk G' s
    rw[SPb_some e] at this
    exact this
   obtain⟨xs,hx,hr⟩:=i2 ds e
   have hdl:=hl ds e
   obtain⟨ps,hps1,hps2,hp⟩:=kU3 hr
   have hlen:xs.length=ds.length:=by rw[hps1,hps2];simp
   have hpl:ps.length=ds.length:=by rw[hps2];simp
   refine⟨xs,hx,jJk p,rfl,_,jU6,?_⟩
   rw[hlen,show (jJk p).length=p.length by simp[jJk]]
   by_cases el:ds.length=p.length
   ·rw[decide_eq_true el,if_neg (by decide)]
    refine⟨xs,hx,?_⟩
    have hx':=hx
    rw[hps1] at hx' ⊢
    refine jQh (es:=ps) (enc:=(·.1)) (fun p=>T.bl (natD p.2)) (by omega) (fun G' s=>jVm hx' s) ?_ ?_
    ·intro i q hpi G' K K0 s hk
     wp_walk using 1,tSeq
     have hr:=jU4 s (hp q (lJg hpi))
     refine⟨q.1,q.2,rfl,hr,fun G2 s2=> ?_⟩
     cases en:numD q.2 with
     | false=>
      rw[nat_num en] at hk
      exact⟨false,rfl,hk G2 s2⟩
     | true=>
      obtain⟨i,e1,e2⟩:=num_int hr en
      rw[e2] at hk
      rw[e1]
      exact⟨true,rfl,i,rfl,hk G2 s2⟩
    ·intro D G2 hD h2 s2
     refine⟨D,_,_,rfl,h2,jZq (f:=fun p:T×PyData=>natD p.2),_,rfl,?_⟩
     have eall:ps.all (fun p:T×PyData=>natD p.2)=ds.all natD:=by rw[hps2,List.all_map];rfl
     rw[eall]
     cases ea:ds.all natD with
     | false=>
      rw[if_pos rfl]
      have:=fin G2 s2
      rw[ea] at this
      exact this
     | true=>
      rw[if_neg (by decide)]
      have hn:=nats_rd hr ea
      rw[hn] at hx
      refine⟨U,a,x,ds.map toN,rfl,u.fine,ha,jVm hx s2,by rw[lJb];omega,fun G3 s3=>⟨V,b,x,ds.map toN,rfl,v.fine,hb,jVm hx (s2.trans s3),by rw[lJb];omega,fun G4 s4=>⟨_,eqG_encS,?_⟩⟩⟩
      have:=fin G4 ((s2.trans s3).trans s4)
      rw[ea,decide_eq_true el] at this
      exact this
   ·rw[decide_eq_false el,if_pos rfl]
    have:=fin G (.refl _)
    rw[decide_eq_false el,Bool.false_and,Bool.and_false] at this
    exact this
theorem jXp {xs ys:List T} {G:Gp} {Q:VK3} (hz:xs.length+ys.length<=sizeLine) (q:Q (.tup (xs++ys)) G):jJ3 (.tup xs) (.tup ys) G Q:=by
 cases xs with
 | nil=>exact .inr ⟨ys,rfl,rfl,q⟩
 | cons x xs=>exact .inl ⟨.val (.tup (x::xs++ys)),by simp only[addR];rw[if_pos ⟨by simp,hz⟩],q⟩
theorem jU0 {ds:List Nat} {lo hi:Option Int}:∃ds',cutT (jJk ds) lo hi=jJk ds'/\ds'.length<=ds.length:=by
 refine⟨_,by unfold cutT jJk;rw[<-List.map_drop,<-List.map_take],?_⟩
 rw[lKm,List.length_drop]
 omega
noncomputable def jJ7:Sp3:=fun xs G Q=>∃(b:Addr) (W:Web) (r n:Nat),xs=[.ref b,encW W,.int r]/\BoxAt G b n/\n+3000<2^40/\Fine W/\r<W.length/\∀ds G',ds.length<=200->BoxAt G' b (n+3000)->Keep b G G'->Q (lT ds) G'
noncomputable def kK6:List Str:=["_law_box_here","_law_web_here","_law_room","_law_way_here","_law_at"]
noncomputable def jVt:TS3:=
 (tSeq (tAsg (jJo jQw (jJa (tVar 0) (jJa (tVar 1) (jJa (tVar 2) (jJa (tOp rIxF (tLst (jJa (tC (.int 4)) (jJa (tC (.int 12)) (jJa (tC (.int 60)) tNil)))) (jJo jJh (jJa (tVar 0) (jJa (tC (.int 3)) tNil)))) tNil))))) (jJj 3))
 (tSeq (tIfS (jKe (tOp rGt (jJo jJh (jJa (tVar 0) (jJa (tC (.int 3)) tNil))) (tC (.int 0)))) (tRet (tVar 3)) jK5)
 (tSeq (tAsg (jJo jJh (jJa (tVar 0) (jJa (tOp jJ3 (tCB rMin2 (jJa (tCB rLen (jJa (tVar 3) tNil)) (jJa (tC (.int 59)) tNil))) (tC (.int 1))) tNil))) (jJj 4))
 (tRet (tOp jJ3 (tOp jJ3 (tSl rSlF (tVar 3) jJs (jKf (tVar 4))) (tTup (jJa (jJo jJh (jJa (tVar 0) (jJa (tC (.int 7)) tNil))) tNil))) (tSl rSlF (tVar 3) (jKf (tVar 4)) (jKf (tC (.int 59)))))))))
theorem kQf:∀xs G Q,jJ7 xs G Q->jVt {nx:=fun _ G'=>Q .non G',rt:=Q} (jJm kK6 xs) G:=by
 intro xs G Q h_;apply xe4 h_;clear h_;intro b W r n h_;apply ae5 h_;clear h_;intro hb hn fine hr kk
 rw[show jJm kK6 [.ref b,encW W,.int r]=[some (.ref b),some (encW W),some (.int r),none,none] from rfl]
 have hs:=sz
 obtain⟨bo,hbo⟩:=hb.some
 wp_walk using 1,jVt,rMin2
 refine⟨by omega,fun p hp=> ?_⟩
 have hbp:=jJe hbo hp
 refine⟨b,_,n,rfl,hb.gup hbp,by omega,by omega,by omega,fun c G1 c0 c1 b1 k1=> ?_⟩
 have hp1:=k1 _ _ hbp.symm (jJg (G:=G) (a:=p) (o:= .lst [T.int 4,T.int 12,T.int 60]))
 obtain⟨c,rfl⟩:=lJm c0
 obtain⟨m,hm,hm2⟩:∃m:Nat,L2.atI [T.int 4,T.int 12,T.int 60] (c:Int)=some (.int (m:Nat))/\m<=60:=by
  have:c=0\/c=1\/c=2:=by omega
  rcases this with rfl | rfl | rfl
  ·exact⟨4,rfl,by decide⟩
  ·exact⟨12,rfl,by decide⟩
  ·exact⟨60,rfl,by decide⟩
 refine⟨_,by rw[jJ2 hp1];exact hm,?_⟩
 refine⟨b,W,r,m,_,rfl,b1,by omega,fine,hr,by omega,fun ds es G2 hg hdl b2 k2=> ?_⟩
 have k02:=((Keep.new hp).trans k1).trans k2
 refine⟨b,_,_,rfl,b2,by omega,by omega,by omega,fun e G3 e0 e1 b3 k3=>⟨e,rfl,?_⟩⟩
 split
 ·exact kk ds G3 (by omega) (b3.mono (by omega)) (k02.trans k3)
 ·have hmn:∃y:Nat,(if (59:Int)<((jJk ds).length:Nat) then (59:Int) else ((jJk ds).length:Nat))=(y:Nat)/\y<=59:=by
   split
   ·exact⟨59,rfl,by decide⟩
   ·exact⟨(jJk ds).length,rfl,by omega⟩
  obtain⟨y,hy,hy2⟩:=hmn
  refine⟨_,rfl,.inl ⟨.val (.int ((y+1:Nat):Int)),by rw[hy];simp[addR],?_⟩⟩
  refine⟨b,_,_,rfl,b3,by omega,by omega,by omega,fun f G4 f0 f1 b4 k4=> ?_⟩
  wp_walk using 1,tSl,jJs,jKf,rSlF
  obtain⟨d1,h1,l1⟩:=jU0 (ds:=ds) (lo:=none) (hi:=some f)
  obtain⟨d2,h2,l2⟩:=jU0 (ds:=ds) (lo:=some f) (hi:=some 59)
  refine⟨_,rfl,?_⟩
  rw[h1]
  refine⟨b,_,_,rfl,b4,by omega,by omega,by omega,fun g G5 g0 g1 b5 k5=>⟨by omega,?_⟩⟩
  obtain⟨g,rfl⟩:=lJm g0
  refine jXp (by simp[jJk];omega) ⟨_,rfl,?_⟩
  rw[h2]
  refine jXp (by simp[jJk];omega) ?_
  have:=kk (d1++[g]++d2) G5 (by simp;omega) (b5.mono (by omega)) (((k02.trans k3).trans k4).trans k5)
  rw[lT] at this
  simpa[jJk] using this
def Tg (b:Addr) (G:Gp) (x:T):Prop:=∃d,RdG (er b G) x d/\OkP 20 d/\∀ds,seqD d=some ds->ds.length<=900
theorem Tg.keep {b:Addr} {G G':Gp} {x:T} (h:Tg b G x) (q:Keep b G G'):Tg b G' x:=by
 obtain⟨d,h1,h2⟩:=h
 exact⟨d,jU4 (er_keep q) h1,h2⟩
theorem rdGs_len {G:Gp}:∀ {xs:List T} {ds:List PyData},RdGs G xs ds->ds.length=xs.length
 | _,_,.nil=>rfl
 | _,_,.cons _ hs=>by rw[lJz,lJz,rdGs_len hs]
theorem tg_of {b:Addr} {G:Gp} {k:Nat} {x:T} (h:RdT b G k x) (hk:k<=20) (hl:∀xs,seqT G x=some xs->xs.length<=900):Tg b G x:=by
 obtain⟨d,h1,h2⟩:=h
 refine⟨d,h1,⟨h2.lay,lJo h2.dep hk⟩,fun ds e=> ?_⟩
 obtain⟨xs,hx,hr⟩:=(kVl h1).2.2 ds e
 rw[rdGs_len hr]
 exact hl xs (jVm hx er_sub)
structure Od (b:Addr) (G:Gp) (t:T):Prop where
 rd:RdT b G 3 t
 tg:Tg b G t
theorem od_of {b:Addr} {G:Gp} {x:T} (h:RdT b G 3 x) (hl:∀xs,seqT G x=some xs->xs.length<=900):Od b G x:=⟨h,tg_of h (by decide) hl⟩
theorem kKd {b:Addr} {G:Gp} {xs:List T} (h:∀x,x∈xs->RdT b G 2 x) (hl:xs.length<=900):Od b G (.tup xs):=od_of (kUw h) fun ys e=>by cases e;exact hl
theorem od_lst {b:Addr} {G:Gp} {p:Addr} {xs:List T} (hp:G p=some (.lst xs)) (hb:p≠b) (h:∀x,x∈xs->RdT b G 2 x) (hl:xs.length<=900):Od b G (.ref p):=od_of (rdt_lst hp hb h) fun ys e=>by rw[jJp hp] at e;cases e;exact hl
theorem od_non {b:Addr} {G:Gp}:Od b G .non:=od_of rdt_non fun ys e=>by simp[seqT] at e
theorem od_bl {b:Addr} {G:Gp} {i:Bool}:Od b G (.bl i):=od_of rdt_bl fun ys e=>by simp[seqT] at e
theorem od_int {b:Addr} {G:Gp} {i:Int}:Od b G (.int i):=od_of jXw fun ys e=>by simp[seqT] at e
theorem od_str {b:Addr} {G:Gp} {x:Str} (h:PyData.strOk x=true):Od b G (.str x):=od_of (rdt_str h) fun ys e=>by simp[seqT] at e
theorem mem1 {P:T->Prop} {x:T} (h:P x):∀y,y∈[x]->P y:=fun y hy=>by cases lJp.mp hy;exact h
theorem mem2 {P:T->Prop} {x:T} {xs:List T} (h:P x) (hs:∀y,y∈xs->P y):∀y,y∈x::xs->P y:=fun y hy=>by
 rcases (lJk.mp hy) with rfl | hy
 ·exact h
 ·exact hs y hy
theorem mem0 {P:T->Prop}:∀y:T,y∈[]->P y:=fun y hy=>nomatch hy
noncomputable def jKc:Sp3:=fun xs G Q=>∃(b:Addr) (n:Nat),xs=[.ref b]/\BoxAt G b n/\n+10<2^40/\∀t G',Od b G' t->BoxAt G' b (n+1)->Keep b G G'->Q t G'
noncomputable def N_l_odd:List Str:=["_law_box_here","_law_some"]
noncomputable def kJt:TS3:=
 (tSeq (tAsg (tLst (jJa (tC .non) (jJa (tC (.bl true)) (jJa (tC (.bl false)) (jJa (tC (.int 0)) (jJa (tC (.int 3)) (jJa (tUn rNeg (tC (.int 1))) (jJa (tC (.str (PySem.Str.ofString ""))) (jJa (tC (.str (PySem.Str.ofString "0"))) (jJa (tC (.str (PySem.Str.ofString "way"))) (jJa (tTup tNil) (jJa (tLst tNil) (jJa (tTup (jJa (tC (.bl true)) tNil)) (jJa (tLst (jJa (tC (.bl false)) tNil)) (jJa (tTup (jJa (tUn rNeg (tC (.int 1))) tNil)) (jJa (tTup (jJa (tC .non) tNil)) (jJa (tTup (jJa (tC (.str (PySem.Str.ofString "0"))) tNil)) (jJa (tTup (jJa (tTup (jJa (tC (.int 0)) tNil)) tNil)) tNil)))))))))))))))))) (jJj 1))
 (tRet (tOp rIxF (tOp jKk (tVar 1) (tLst (jJa (tLst (jJa (tLst tNil) tNil)) (jJa (tTup (jJa (tC (.int 0)) (jJa (tC (.bl true)) tNil))) (jJa (tLst (jJa (tC (.int 0)) (jJa (tC .non) tNil))) (jJa (tOp rPow (tC (.int 10)) (tC (.int 12))) tNil)))))) (jJo jJh (jJa (tVar 0) (jJa (tC (.int 21)) tNil))))))
theorem rdok_l_odd:∀xs G Q,jKc xs G Q->kJt {nx:=fun _ G'=>Q .non G',rt:=Q} (jJm N_l_odd xs) G:=by
 intro xs G Q h_;apply xe2 h_;clear h_;intro b n h_;apply ae3 h_;clear h_;intro hb hn kk
 rw[show jJm N_l_odd [.ref b]=[some (.ref b),none] from rfl]
 have hs:=sz
 obtain⟨bo,hbo⟩:=hb.some
 wp_walk using 1,kJt,tUn,rNeg
 refine⟨by omega,by omega,fun p0 h0=> ?_⟩
 have b0:=jJe hbo h0
 have g0:(gup G p0 (GO.lst [])) p0=some (.lst []):=jJg
 have k0:Keep b G (gup G p0 (GO.lst [])):= .new h0
 have x0:=hb.gup (o:=GO.lst []) b0
 generalize gup G p0 (GO.lst [])=G0 at g0 k0 x0 ⊢
 refine⟨by omega,by omega,fun p1 h1=> ?_⟩
 obtain⟨bo0,hbo0⟩:=x0.some
 have b1:=jJe hbo0 h1
 have g1:(gup G0 p1 (GO.lst [T.bl false])) p1=some (.lst [T.bl false]):=jJg
 have k1:Keep b G0 (gup G0 p1 (GO.lst [T.bl false])):= .new h1
 have x1:=x0.gup (o:=GO.lst [T.bl false]) b1
 generalize gup G0 p1 (GO.lst [T.bl false])=G1 at g1 k1 x1 ⊢
 refine⟨by omega,by omega,by omega,by omega,by omega,by omega,fun p2 h2=> ?_⟩
 obtain⟨bo1,hbo1⟩:=x1.some
 have b2:=jJe hbo1 h2
 obtain⟨L,hL⟩:∃L,L=[T.non,T.bl true,T.bl false,T.int 0,T.int 3,T.int (-1),T.str (Str.ofString ""),T.str (Str.ofString "0"),T.str (Str.ofString "way"),T.tup [],T.ref p0,T.tup [T.bl true],T.ref p1,T.tup [T.int (-1)],T.tup [T.non],T.tup [T.str (Str.ofString "0")],T.tup [T.tup [T.int 0]]]:=⟨_,rfl⟩
 rw[<-hL]
 have g2:(gup G1 p2 (GO.lst L)) p2=some (.lst L):=jJg
 have k2:Keep b G1 (gup G1 p2 (GO.lst L)):= .new h2
 have x2:=x1.gup (o:=GO.lst L) b2
 generalize gup G1 p2 (GO.lst L)=G2 at g2 k2 x2 ⊢
 refine⟨by omega,fun p3 h3=> ?_⟩
 obtain⟨bo2,hbo2⟩:=x2.some
 have b3:=jJe hbo2 h3
 have g3:(gup G2 p3 (GO.lst [])) p3=some (.lst []):=jJg
 have k3:Keep b G2 (gup G2 p3 (GO.lst [])):= .new h3
 have x3:=x2.gup (o:=GO.lst []) b3
 generalize gup G2 p3 (GO.lst [])=G3 at g3 k3 x3 ⊢
 refine⟨by omega,fun p4 h4=> ?_⟩
 obtain⟨bo3,hbo3⟩:=x3.some
 have b4:=jJe hbo3 h4
 have g4:(gup G3 p4 (GO.lst [T.ref p3])) p4=some (.lst [T.ref p3]):=jJg
 have k4:Keep b G3 (gup G3 p4 (GO.lst [T.ref p3])):= .new h4
 have x4:=x3.gup (o:=GO.lst [T.ref p3]) b4
 generalize gup G3 p4 (GO.lst [T.ref p3])=G4 at g4 k4 x4 ⊢
 refine⟨by omega,by omega,fun p5 h5=> ?_⟩
 obtain⟨bo4,hbo4⟩:=x4.some
 have b5:=jJe hbo4 h5
 have g5:(gup G4 p5 (GO.lst [T.int 0,T.non])) p5=some (.lst [T.int 0,T.non]):=jJg
 have k5:Keep b G4 (gup G4 p5 (GO.lst [T.int 0,T.non])):= .new h5
 have x5:=x4.gup (o:=GO.lst [T.int 0,T.non]) b5
 generalize gup G4 p5 (GO.lst [T.int 0,T.non])=G5 at g5 k5 x5 ⊢
 refine⟨⟨by decide,by decide,by decide⟩,by omega,fun p6 h6=> ?_⟩
 obtain⟨bo5,hbo5⟩:=x5.some
 have b6:=jJe hbo5 h6
 obtain⟨M,hM⟩:∃M,M=[T.ref p4,T.tup [T.int 0,T.bl true],T.ref p5,T.int (10^Int.toNat 12)]:=⟨_,rfl⟩
 rw[<-hM]
 have g6:(gup G5 p6 (GO.lst M)) p6=some (.lst M):=jJg
 have k6:Keep b G5 (gup G5 p6 (GO.lst M)):= .new h6
 have x6:=x5.gup (o:=GO.lst M) b6
 generalize gup G5 p6 (GO.lst M)=G6 at g6 k6 x6 ⊢
 clear hb
 have k36:=(k3.trans k4).trans (k5.trans k6)
 have k46:=k4.trans (k5.trans k6)
 refine⟨_,jZr (k36 _ _ b2.symm g2) g6 (by rw[hL,hM];simp;omega),?_⟩
 rw[jYw]
 intro u hu
 obtain⟨bo6,hbo6⟩:=x6.some
 have bu:=jJe hbo6 hu
 have gu:(gup G6 u (GO.lst (L++M))) u=some (.lst (L++M)):=jJg
 have ku:Keep b G6 (gup G6 u (GO.lst (L++M))):= .new hu
 have xu:=x6.gup (o:=GO.lst (L++M)) bu
 generalize gup G6 u (GO.lst (L++M))=G7 at gu ku xu ⊢
 refine⟨b,21,n,rfl,xu,by omega,by omega,by omega,fun c G8 c0 c1 b8 k8=> ?_⟩
 obtain⟨c,rfl⟩:=lJm c0
 have hl:(L++M).length=21:=by rw[hL,hM];rfl
 have hc:c<(L++M).length:=by omega
 refine⟨(L++M)[c],by rw[jJ2 (k8 _ _ bu.symm gu),atN];exact lJc hc,?_⟩
 have k68:=ku.trans k8
 refine kk _ G8 ?_ b8 ((((k0.trans k1).trans k2).trans k36).trans k68)
 have hm:=List.getElem_mem hc
 generalize (L++M)[c]=t at hm
 have q0:=k68 _ _ b0.symm (k36 _ _ b0.symm (k2 _ _ b0.symm (k1 _ _ b0.symm g0)))
 have q1:=k68 _ _ b1.symm (k36 _ _ b1.symm (k2 _ _ b1.symm g1))
 have q3:=k68 _ _ b3.symm (k46 _ _ b3.symm g3)
 have q4:=k68 _ _ b4.symm (k6 _ _ b4.symm (k5 _ _ b4.symm g4))
 have q5:=k68 _ _ b5.symm (k6 _ _ b5.symm g5)
 revert t
 rw[hL,hM]
 refine mem2 od_non (mem2 od_bl (mem2 od_bl (mem2 od_int (mem2 od_int (mem2 od_int (mem2 (od_str ?_) (mem2 (od_str ?_) (mem2 (od_str ?_) (mem2 (kKd mem0 ?_) (mem2 (od_lst q0 b0.symm mem0 ?_) (mem2 (kKd (mem1 rdt_bl) ?_) (mem2 (od_lst q1 b1.symm (mem1 rdt_bl) ?_) (mem2 (kKd (mem1 jXw) ?_) (mem2 (kKd (mem1 rdt_non) ?_) (mem2 (kKd (mem1 (rdt_str ?_)) ?_) (mem2 (kKd (mem1 (kUw (mem1 jXw))) ?_) (mem2 (od_lst q4 b4.symm (mem1 (rdt_lst q3 b3.symm mem0)) ?_) (mem2 (kKd (mem2 jXw (mem1 rdt_bl)) ?_) (mem2 (od_lst q5 b5.symm (mem2 jXw (mem1 rdt_non)) ?_) (mem1 od_int))))))))))))))))))))<;>first | decide +kernel | simp
theorem mema {P:T->Prop} {xs ys:List T} (h1:∀x,x∈xs->P x) (h2:∀x,x∈ys->P x):∀x,x∈xs++ys->P x:=fun x hx=>by
 rcases (lJu.mp hx) with h | h
 ·exact h1 x h
 ·exact h2 x h
theorem kQy {b:Addr} {G:Gp} {k:Nat} {ds:List Nat}:∀x,x∈jJk ds->RdT b G k x:=fun x hx=>by
 obtain⟨i,_,rfl⟩:=lJ6.mp hx
 exact jXw
theorem tg_tup {b:Addr} {G:Gp} {xs:List T} (h:∀x,x∈xs->RdT b G 3 x) (hl:xs.length<=900):Tg b G (.tup xs):=tg_of (kUw h) (by decide) fun ys e=>by cases e;exact hl
theorem tg_lst {b:Addr} {G:Gp} {p:Addr} {xs:List T} (hp:G p=some (.lst xs)) (hb:p≠b) (h:∀x,x∈xs->RdT b G 3 x) (hl:xs.length<=900):Tg b G (.ref p):=tg_of (rdt_lst hp hb h) (by decide) fun ys e=>by rw[jJp hp] at e;cases e;exact hl
theorem jZj {ds:List Nat}:(jJk ds).length=ds.length:=by simp[jJk]
noncomputable def jKy:Sp3:=fun xs G Q=>∃(b:Addr) (U:Web) (a:Nat) (o:Option (List Nat)) (n:Nat),xs=[.ref b,encW U,.int (a:Nat),oWay o]/\BoxAt G b n/\n+11000<2^40/\Fine U/\a<U.length/\(∀p,o=some p->p.length<=400)/\∀q ts G',q≠b->G' q=some (.lst ts)->ts.length<=100->(∀t,t∈ts->Tg b G' t)->BoxAt G' b (n+9000)->Keep b G G'->Q (.ref q) G'
noncomputable def kUd:List Str:=["_law_box_here","_law_one","_law_a","_law_due","_law_way_here","_law_at","_law_some"]
noncomputable def jXh:TS3:=
 (tSeq (tAsg (tVar 3) (jJj 4))
 (tSeq (tIfS (jKe (tOp rIsN (tVar 3) (tC .non))) (tAsg (jJo jQw (jJa (tVar 0) (jJa (tVar 1) (jJa (tVar 2) (jJa (tC (.int 5)) tNil))))) (jJj 4)) jK5)
 (tSeq (tAsg (jJo jJh (jJa (tVar 0) (jJa (tOp jJ3 (tCB rLen (jJa (tVar 4) tNil)) (tC (.int 1))) tNil))) (jJj 5))
 (tSeq (tAsg (tLst (jJa (tVar 4) (jJa (tCB jUd (jJa (tVar 4) tNil)) (jJa (tOp jJ3 (tSl rSlF (tVar 4) jJs (jKf (tVar 5))) (tSl rSlF (tVar 4) (jKf (tOp jJ3 (tVar 5) (tC (.int 1)))) jJs)) (jJa (tOp jJ3 (tVar 4) (tTup (jJa (jJo jJh (jJa (tVar 0) (jJa (tC (.int 3)) tNil))) tNil))) tNil))))) (jJj 6))
 (tSeq (jUk (tBM "list" jKr (tVar 6) (jJa (tOp jJ3 (tOp jJ3 (tSl rSlF (tVar 4) jJs (jKf (tVar 5))) (tTup (jJa (jJo jJh (jJa (tVar 0) (jJa (tC (.int 4)) tNil))) tNil))) (tSl rSlF (tVar 4) (jKf (tOp jJ3 (tVar 5) (tC (.int 1)))) jJs)) tNil)))
 (tSeq (tAsg (tOp jJ3 (tVar 6) (tLst (jJa (jJo jJ7 (jJa (tVar 0) (jJa (tVar 1) (jJa (tVar 2) tNil)))) (jJa (tTup tNil) (jJa (tLst tNil) (jJa (jJo jKc (jJa (tVar 0) tNil)) (jJa (jJo jKc (jJa (tVar 0) tNil)) (jJa (kJ6 (jJa (tVar 4) tNil)) (jJa (tSl rSlF (tVar 4) jJs (jKf (tVar 5))) tNil))))))))) (jJj 6))
 (tRet (tOp jJ3 (tVar 6) (tLst (jJa (tOp jJ3 (tOp jJ3 (tSl rSlF (tVar 4) jJs (jKf (tVar 5))) (tTup (jJa (jJo jKc (jJa (tVar 0) tNil)) tNil))) (tSl rSlF (tVar 4) (jKf (tOp jJ3 (tVar 5) (tC (.int 1)))) jJs)) (jJa (tOp jJ3 (tSl rSlF (tVar 4) jJs (jKf (tUn rNeg (tC (.int 1))))) (tTup (jJa (tC (.bl true)) tNil))) (jJa (tOp jJ3 (tCB jUd (jJa (tSl rSlF (tVar 4) jJs (jKf (tUn rNeg (tC (.int 1))))) tNil)) (tLst (jJa (tUn rNeg (tC (.int 1))) tNil))) (jJa (tTup (jJa (tVar 4) tNil)) tNil)))))))))))))
noncomputable def rd_th:TS3:=(tSeq (tAsg (jJo jJh (jJa (tVar 0) (jJa (tOp jJ3 (tCB rLen (jJa (tVar 4) tNil)) (tC (.int 1))) tNil))) (jJj 5))
 (tSeq (tAsg (tLst (jJa (tVar 4) (jJa (tCB jUd (jJa (tVar 4) tNil)) (jJa (tOp jJ3 (tSl rSlF (tVar 4) jJs (jKf (tVar 5))) (tSl rSlF (tVar 4) (jKf (tOp jJ3 (tVar 5) (tC (.int 1)))) jJs)) (jJa (tOp jJ3 (tVar 4) (tTup (jJa (jJo jJh (jJa (tVar 0) (jJa (tC (.int 3)) tNil))) tNil))) tNil))))) (jJj 6))
 (tSeq (jUk (tBM "list" jKr (tVar 6) (jJa (tOp jJ3 (tOp jJ3 (tSl rSlF (tVar 4) jJs (jKf (tVar 5))) (tTup (jJa (jJo jJh (jJa (tVar 0) (jJa (tC (.int 4)) tNil))) tNil))) (tSl rSlF (tVar 4) (jKf (tOp jJ3 (tVar 5) (tC (.int 1)))) jJs)) tNil)))
 (tSeq (tAsg (tOp jJ3 (tVar 6) (tLst (jJa (jJo jJ7 (jJa (tVar 0) (jJa (tVar 1) (jJa (tVar 2) tNil)))) (jJa (tTup tNil) (jJa (tLst tNil) (jJa (jJo jKc (jJa (tVar 0) tNil)) (jJa (jJo jKc (jJa (tVar 0) tNil)) (jJa (kJ6 (jJa (tVar 4) tNil)) (jJa (tSl rSlF (tVar 4) jJs (jKf (tVar 5))) tNil))))))))) (jJj 6))
 (tRet (tOp jJ3 (tVar 6) (tLst (jJa (tOp jJ3 (tOp jJ3 (tSl rSlF (tVar 4) jJs (jKf (tVar 5))) (tTup (jJa (jJo jKc (jJa (tVar 0) tNil)) tNil))) (tSl rSlF (tVar 4) (jKf (tOp jJ3 (tVar 5) (tC (.int 1)))) jJs)) (jJa (tOp jJ3 (tSl rSlF (tVar 4) jJs (jKf (tUn rNeg (tC (.int 1))))) (tTup (jJa (tC (.bl true)) tNil))) (jJa (tOp jJ3 (tCB jUd (jJa (tSl rSlF (tVar 4) jJs (jKf (tUn rNeg (tC (.int 1))))) tNil)) (tLst (jJa (tUn rNeg (tC (.int 1))) tNil))) (jJa (tTup (jJa (tVar 4) tNil)) tNil)))))))))))
theorem rd_th_eq:jXh=tSeq (tAsg (tVar 3) (jJj 4)) (tSeq (tIfS (jKe (tOp rIsN (tVar 3) (tC .non))) (tAsg (jJo jQw (jJa (tVar 0) (jJa (tVar 1) (jJa (tVar 2) (jJa (tC (.int 5)) tNil))))) (jJj 4)) jK5) rd_th):=rfl
noncomputable def rd_th2:TS3:=(tSeq (jUk (tBM "list" jKr (tVar 6) (jJa (tOp jJ3 (tOp jJ3 (tSl rSlF (tVar 4) jJs (jKf (tVar 5))) (tTup (jJa (jJo jJh (jJa (tVar 0) (jJa (tC (.int 4)) tNil))) tNil))) (tSl rSlF (tVar 4) (jKf (tOp jJ3 (tVar 5) (tC (.int 1)))) jJs)) tNil)))
 (tSeq (tAsg (tOp jJ3 (tVar 6) (tLst (jJa (jJo jJ7 (jJa (tVar 0) (jJa (tVar 1) (jJa (tVar 2) tNil)))) (jJa (tTup tNil) (jJa (tLst tNil) (jJa (jJo jKc (jJa (tVar 0) tNil)) (jJa (jJo jKc (jJa (tVar 0) tNil)) (jJa (kJ6 (jJa (tVar 4) tNil)) (jJa (tSl rSlF (tVar 4) jJs (jKf (tVar 5))) tNil))))))))) (jJj 6))
 (tRet (tOp jJ3 (tVar 6) (tLst (jJa (tOp jJ3 (tOp jJ3 (tSl rSlF (tVar 4) jJs (jKf (tVar 5))) (tTup (jJa (jJo jKc (jJa (tVar 0) tNil)) tNil))) (tSl rSlF (tVar 4) (jKf (tOp jJ3 (tVar 5) (tC (.int 1)))) jJs)) (jJa (tOp jJ3 (tSl rSlF (tVar 4) jJs (jKf (tUn rNeg (tC (.int 1))))) (tTup (jJa (tC (.bl true)) tNil))) (jJa (tOp jJ3 (tCB jUd (jJa (tSl rSlF (tVar 4) jJs (jKf (tUn rNeg (tC (.int 1))))) tNil)) (tLst (jJa (tUn rNeg (tC (.int 1))) tNil))) (jJa (tTup (jJa (tVar 4) tNil)) tNil)))))))))
theorem rd_th2_eq:rd_th=tSeq (tAsg (jJo jJh (jJa (tVar 0) (jJa (tOp jJ3 (tCB rLen (jJa (tVar 4) tNil)) (tC (.int 1))) tNil))) (jJj 5)) (tSeq (tAsg (tLst (jJa (tVar 4) (jJa (tCB jUd (jJa (tVar 4) tNil)) (jJa (tOp jJ3 (tSl rSlF (tVar 4) jJs (jKf (tVar 5))) (tSl rSlF (tVar 4) (jKf (tOp jJ3 (tVar 5) (tC (.int 1)))) jJs)) (jJa (tOp jJ3 (tVar 4) (tTup (jJa (jJo jJh (jJa (tVar 0) (jJa (tC (.int 3)) tNil))) tNil))) tNil))))) (jJj 6)) rd_th2):=rfl
noncomputable def rd_th3:TS3:=(tSeq (tAsg (tOp jJ3 (tVar 6) (tLst (jJa (jJo jJ7 (jJa (tVar 0) (jJa (tVar 1) (jJa (tVar 2) tNil)))) (jJa (tTup tNil) (jJa (tLst tNil) (jJa (jJo jKc (jJa (tVar 0) tNil)) (jJa (jJo jKc (jJa (tVar 0) tNil)) (jJa (kJ6 (jJa (tVar 4) tNil)) (jJa (tSl rSlF (tVar 4) jJs (jKf (tVar 5))) tNil))))))))) (jJj 6))
 (tRet (tOp jJ3 (tVar 6) (tLst (jJa (tOp jJ3 (tOp jJ3 (tSl rSlF (tVar 4) jJs (jKf (tVar 5))) (tTup (jJa (jJo jKc (jJa (tVar 0) tNil)) tNil))) (tSl rSlF (tVar 4) (jKf (tOp jJ3 (tVar 5) (tC (.int 1)))) jJs)) (jJa (tOp jJ3 (tSl rSlF (tVar 4) jJs (jKf (tUn rNeg (tC (.int 1))))) (tTup (jJa (tC (.bl true)) tNil))) (jJa (tOp jJ3 (tCB jUd (jJa (tSl rSlF (tVar 4) jJs (jKf (tUn rNeg (tC (.int 1))))) tNil)) (tLst (jJa (tUn rNeg (tC (.int 1))) tNil))) (jJa (tTup (jJa (tVar 4) tNil)) tNil))))))))
theorem rd_th3_eq:rd_th2=tSeq (jUk (tBM "list" jKr (tVar 6) (jJa (tOp jJ3 (tOp jJ3 (tSl rSlF (tVar 4) jJs (jKf (tVar 5))) (tTup (jJa (jJo jJh (jJa (tVar 0) (jJa (tC (.int 4)) tNil))) tNil))) (tSl rSlF (tVar 4) (jKf (tOp jJ3 (tVar 5) (tC (.int 1)))) jJs)) tNil))) rd_th3:=rfl
noncomputable def rd_th4:TS3:=(tRet (tOp jJ3 (tVar 6) (tLst (jJa (tOp jJ3 (tOp jJ3 (tSl rSlF (tVar 4) jJs (jKf (tVar 5))) (tTup (jJa (jJo jKc (jJa (tVar 0) tNil)) tNil))) (tSl rSlF (tVar 4) (jKf (tOp jJ3 (tVar 5) (tC (.int 1)))) jJs)) (jJa (tOp jJ3 (tSl rSlF (tVar 4) jJs (jKf (tUn rNeg (tC (.int 1))))) (tTup (jJa (tC (.bl true)) tNil))) (jJa (tOp jJ3 (tCB jUd (jJa (tSl rSlF (tVar 4) jJs (jKf (tUn rNeg (tC (.int 1))))) tNil)) (tLst (jJa (tUn rNeg (tC (.int 1))) tNil))) (jJa (tTup (jJa (tVar 4) tNil)) tNil)))))))
theorem rd_th4_eq:rd_th3=tSeq (tAsg (tOp jJ3 (tVar 6) (tLst (jJa (jJo jJ7 (jJa (tVar 0) (jJa (tVar 1) (jJa (tVar 2) tNil)))) (jJa (tTup tNil) (jJa (tLst tNil) (jJa (jJo jKc (jJa (tVar 0) tNil)) (jJa (jJo jKc (jJa (tVar 0) tNil)) (jJa (kJ6 (jJa (tVar 4) tNil)) (jJa (tSl rSlF (tVar 4) jJs (jKf (tVar 5))) tNil))))))))) (jJj 6)) rd_th4:=rfl
theorem addN {G:Gp} {Q:VK3} {m:Nat} (q:Q (.int ((m+1:Nat):Int)) G):jJ3 (.int (m:Nat)) (.int 1) G Q:= .inl ⟨.val (.int ((m+1:Nat):Int)),by simp[addR],q⟩
theorem tg_is {b:Addr} {G:Gp} {ds:List Nat} (h:ds.length<=900):Tg b G (.tup (jJk ds)):=tg_tup kQy (by rw[jZj];exact h)
theorem kQ4 {ds:List Nat} {k:Nat}:jJk ds++[T.int (k:Nat)]=jJk (ds++[k]):=by simp[jJk]
theorem intsN_app {d1 d2:List Nat}:jJk d1++jJk d2=jJk (d1++d2):=by simp[jJk]
theorem addL {G:Gp} {Q:VK3} {p q:Addr} {xs ys:List T} (hp:G p=some (.lst xs)) (hq:G q=some (.lst ys)) (hl:xs.length+ys.length<=sizeLine) (k:∀u,G u=none->Q (.ref u) (gup G u (.lst (xs++ys)))):jJ3 (.ref p) (.ref q) G Q:= .inl ⟨_,jZr hp hq hl,by rw[jYw];exact k⟩
theorem th4_ok {G:Gp} {Q:VK3} {b p:Addr} {n c:Nat} {ds:List Nat} {ts:List T} {v1 v2 v3:Option T} (hb:BoxAt G b n) (hn:n+1000<2^40) (hl:ds.length<=400) (hp:G p=some (.lst ts)) (pb:p≠b) (htl:ts.length<=50) (ht:∀t,t∈ts->Tg b G t)
  (kk:∀q ts G',q≠b->G' q=some (.lst ts)->ts.length<=100->(∀t,t∈ts->Tg b G' t)->BoxAt G' b (n+1000)->Keep b G G'->Q (.ref q) G'):
  rd_th4 {nx:=fun _ G'=>Q .non G',rt:=Q} [some (.ref b),v1,v2,v3,some (.tup (jJk ds)),some (.int (c:Nat)),some (.ref p)] G:=by
 have hs:=sz
 wp_walk using 1,rd_th4,jUd,jVw,tSl,jJs,jKf,rSlF,tUn,rNeg
 obtain⟨d1,h1,l1⟩:=jU0 (ds:=ds) (lo:=none) (hi:=some (c:Nat))
 obtain⟨d2,h2,l2⟩:=jU0 (ds:=ds) (lo:=some ((c+1:Nat):Int)) (hi:=none)
 obtain⟨d3,h3,l3⟩:=jU0 (ds:=ds) (lo:=none) (hi:=some (-1))
 refine⟨_,rfl,?_⟩
 rw[h1]
 refine⟨b,n,rfl,hb,by omega,fun t G1 ot b1 k1=>⟨by omega,?_⟩⟩
 refine jXp (by simp[jJk];omega) (addN ⟨_,rfl,_,rfl,?_⟩)
 rw[h2]
 refine jXp (by simp[jJk];omega) ⟨_,rfl,?_⟩
 rw[h3]
 refine⟨by omega,jXp (by simp[jJk];omega) ⟨_,rfl,?_⟩⟩
 rw[h3]
 refine⟨_,rfl,fun q hq=>⟨by omega,fun q2 hq2=> ?_⟩⟩
 obtain⟨bo1,hbo1⟩:=b1.some
 have bq:=jJe hbo1 hq
 have gq:(gup G1 q (GO.lst (jJk d3))) q=some (.lst (jJk d3)):=jJg
 have kq:Keep b G1 (gup G1 q (GO.lst (jJk d3))):= .new hq
 have xq:=b1.gup (o:=GO.lst (jJk d3)) bq
 generalize gup G1 q (GO.lst (jJk d3))=G2 at gq kq xq hq2 ⊢
 obtain⟨bo2,hbo2⟩:=xq.some
 have bq2:=jJe hbo2 hq2
 have g2:(gup G2 q2 (GO.lst [T.int (-1)])) q2=some (.lst [T.int (-1)]):=jJg
 have k2:Keep b G2 (gup G2 q2 (GO.lst [T.int (-1)])):= .new hq2
 have x2:=xq.gup (o:=GO.lst [T.int (-1)]) bq2
 generalize gup G2 q2 (GO.lst [T.int (-1)])=G3 at g2 k2 x2 ⊢
 refine addL (k2 _ _ bq.symm gq) g2 (by rw[jZj];simp;omega) fun q3 hq3=>⟨by omega,by omega,fun q4 hq4=> ?_⟩
 obtain⟨bo3,hbo3⟩:=x2.some
 have bq3:=jJe hbo3 hq3
 have g3:(gup G3 q3 (GO.lst (jJk d3++[T.int (-1)]))) q3=some (.lst (jJk d3++[T.int (-1)])):=jJg
 have k3:Keep b G3 (gup G3 q3 (GO.lst (jJk d3++[T.int (-1)]))):= .new hq3
 have x3:=x2.gup (o:=GO.lst (jJk d3++[T.int (-1)])) bq3
 generalize gup G3 q3 (GO.lst (jJk d3++[T.int (-1)]))=G4 at g3 k3 x3 hq4 ⊢
 obtain⟨bo4,hbo4⟩:=x3.some
 have bq4:=jJe hbo4 hq4
 obtain⟨L,hL⟩:∃L,L=[T.tup (jJk d1++[t]++jJk d2),T.tup (jJk d3++[T.bl true]),T.ref q3,T.tup [T.tup (jJk ds)]]:=⟨_,rfl⟩
 rw[<-hL]
 have g4:(gup G4 q4 (GO.lst L)) q4=some (.lst L):=jJg
 have k4:Keep b G4 (gup G4 q4 (GO.lst L)):= .new hq4
 have x4:=x3.gup (o:=GO.lst L) bq4
 generalize gup G4 q4 (GO.lst L)=G5 at g4 k4 x4 ⊢
 have k15:=(kq.trans k2).trans (k3.trans k4)
 have k05:=k1.trans k15
 have hLl:L.length=4:=by rw[hL];rfl
 refine addL (k05 _ _ pb hp) g4 (by omega) fun u hu=> ?_
 obtain⟨bo5,hbo5⟩:=x4.some
 have bu:=jJe hbo5 hu
 have ku:Keep b G5 (gup G5 u (GO.lst (ts++L))):= .new hu
 refine kk u (ts++L) _ bu.symm jJg (by rw[lJl];omega) ?_ ((x4.gup bu).mono (by omega)) (k05.trans ku)
 refine mema (fun t h=>(ht t h).keep (k05.trans ku)) fun t h=>Tg.keep ?_ ku
 revert t
 rw[hL]
 refine mem2 (tg_tup (mema (mema kQy (mem1 (ot.rd.keep k15))) kQy) (by simp[jJk];omega)) (mem2 (tg_tup (mema kQy (mem1 rdt_bl)) (by simp[jJk];omega)) (mem2 (tg_lst (k4 _ _ bq3.symm g3) bq3.symm (mema kQy (mem1 jXw)) (by simp[jJk];omega)) (mem1 (tg_tup (mem1 (rdt_ints.mono (by decide))) (by simp)))))
theorem th3_ok {G:Gp} {Q:VK3} {b p:Addr} {U:Web} {a n c:Nat} {ds:List Nat} {ts:List T} {v3:Option T} (hb:BoxAt G b n) (hn:n+7000<2^40) (fine:Fine U) (ha:a<U.length) (hl:ds.length<=400) (hp:G p=some (.lst ts)) (pb:p≠b) (htl:ts.length<=5) (ht:∀t,t∈ts->Tg b G t)
  (kk:∀q ts G',q≠b->G' q=some (.lst ts)->ts.length<=100->(∀t,t∈ts->Tg b G' t)->BoxAt G' b (n+5000)->Keep b G G'->Q (.ref q) G'):
  rd_th3 {nx:=fun _ G'=>Q .non G',rt:=Q} [some (.ref b),some (encW U),some (.int (a:Nat)),v3,some (.tup (jJk ds)),some (.int (c:Nat)),some (.ref p)] G:=by
 have hs:=sz
 rw[rd_th4_eq]
 wp_walk using 1,jUd,jVw,tSl,jJs,jKf,rSlF,tUn,rNeg,kJ6
 refine⟨b,U,a,n,rfl,hb,by omega,fine,ha,fun d1 G1 hd1 b1 k1=>⟨by omega,by omega,fun q hq=> ?_⟩⟩
 obtain⟨bo1,hbo1⟩:=b1.some
 have bq:=jJe hbo1 hq
 have gq:(gup G1 q (GO.lst [])) q=some (.lst []):=jJg
 have kq:Keep b G1 (gup G1 q (GO.lst [])):= .new hq
 have xq:=b1.gup (o:=GO.lst []) bq
 generalize gup G1 q (GO.lst [])=G2 at gq kq xq ⊢
 refine⟨b,_,rfl,xq,by omega,fun t1 G3 o1 b3 k3=>⟨b,_,rfl,b3,by omega,fun t2 G4 o2 b4 k4=> ?_⟩⟩
 obtain⟨d2,h2,l2⟩:=jU0 (ds:=ds) (lo:=none) (hi:=some (c:Nat))
 refine⟨_,rfl,?_⟩
 rw[h2,show (jJk ds).reverse=jJk ds.reverse by simp[jJk]]
 refine⟨by omega,fun q2 hq2=> ?_⟩
 obtain⟨bo4,hbo4⟩:=b4.some
 have bq2:=jJe hbo4 hq2
 obtain⟨L,hL⟩:∃L,L=[lT d1,T.tup [],T.ref q,t1,t2,T.tup (jJk ds.reverse),T.tup (jJk d2)]:=⟨_,rfl⟩
 rw[<-hL]
 have g5:(gup G4 q2 (GO.lst L)) q2=some (.lst L):=jJg
 have k5:Keep b G4 (gup G4 q2 (GO.lst L)):= .new hq2
 have x5:=b4.gup (o:=GO.lst L) bq2
 generalize gup G4 q2 (GO.lst L)=G5 at g5 k5 x5 ⊢
 have k25:=(k3.trans k4).trans k5
 have k05:=(k1.trans kq).trans k25
 have hLl:L.length=7:=by rw[hL];rfl
 refine addL (k05 _ _ pb hp) g5 (by omega) fun u hu=> ?_
 obtain⟨bo5,hbo5⟩:=x5.some
 have bu:=jJe hbo5 hu
 have ku:Keep b G5 (gup G5 u (GO.lst (ts++L))):= .new hu
 refine th4_ok (x5.gup bu) (by omega) hl jJg bu.symm (by rw[lJl];omega) ?_ fun q ts G' h1 h2 h3 h4 h5 h6=>kk q ts G' h1 h2 h3 h4 (h5.mono (by omega)) ((k05.trans ku).trans h6)
 refine mema (fun t h=>(ht t h).keep (k05.trans ku)) fun t h=>Tg.keep ?_ ku
 revert t
 rw[hL]
 exact mem2 (tg_is (by omega)) (mem2 (tg_tup mem0 (by simp)) (mem2 (tg_lst (k25 _ _ bq.symm gq) bq.symm mem0 (by simp)) (mem2 (o1.tg.keep (k4.trans k5)) (mem2 (o2.tg.keep k5) (mem2 (tg_is (by rw[List.length_reverse];omega)) (mem1 (tg_is (by omega))))))))
theorem th2_ok {G:Gp} {Q:VK3} {b p:Addr} {U:Web} {a n c:Nat} {ds:List Nat} {ts:List T} {v3:Option T} (hb:BoxAt G b n) (hn:n+8000<2^40) (fine:Fine U) (ha:a<U.length) (hl:ds.length<=400) (hp:G p=none) (pb:p≠b) (htl:ts.length=4) (ht:∀t,t∈ts->Tg b G t)
  (kk:∀q ts G',q≠b->G' q=some (.lst ts)->ts.length<=100->(∀t,t∈ts->Tg b G' t)->BoxAt G' b (n+6000)->Keep b G G'->Q (.ref q) G'):
  rd_th2 {nx:=fun _ G'=>Q .non G',rt:=Q} [some (.ref b),some (encW U),some (.int (a:Nat)),v3,some (.tup (jJk ds)),some (.int (c:Nat)),some (.ref p)] (gup G p (.lst ts)):=by
 have hs:=sz
 rw[rd_th3_eq]
 wp_walk using 1,jUd,jVw,tSl,jJs,jKf,rSlF,tUn,rNeg,jQg (jJg (G:=G) (a:=p) (o:= .lst ts))
 have gp:(gup G p (GO.lst ts)) p=some (.lst ts):=jJg
 have kp:Keep b G (gup G p (GO.lst ts)):= .new hp
 have xp:=hb.gup (o:=GO.lst ts) pb.symm
 generalize gup G p (GO.lst ts)=G1 at gp kp xp ⊢
 obtain⟨d1,h1,l1⟩:=jU0 (ds:=ds) (lo:=none) (hi:=some (c:Nat))
 obtain⟨d2,h2,l2⟩:=jU0 (ds:=ds) (lo:=some ((c+1:Nat):Int)) (hi:=none)
 refine⟨_,rfl,?_⟩
 rw[h1]
 refine⟨b,_,_,rfl,xp,by omega,by omega,by omega,fun e G3 e0 e1 b3 k3=>⟨by omega,?_⟩⟩
 obtain⟨e,rfl⟩:=lJm e0
 refine jXp (by simp[jJk];omega) (addN ⟨_,rfl,_,rfl,?_⟩)
 rw[h2,kQ4]
 refine jXp (by simp[jJk];omega) ?_
 rw[intsN_app]
 have k03:=(kp.trans k3).over (o:= .lst (ts++[T.tup (jJk (d1++[e]++d2))])) hp
 refine⟨ts,k3 _ _ pb gp,by omega,th3_ok (b3.gup pb.symm) (by omega) fine ha hl jJg pb (by simp;omega) (mema (fun t h=>(ht t h).keep k03) (mem1 (tg_is (by simp;omega)))) ?_⟩
 exact fun q ts G' h1 h2 h3 h4 h5 h6=>kk q ts G' h1 h2 h3 h4 (h5.mono (by omega)) (k03.trans h6)
theorem th_ok {G:Gp} {Q:VK3} {b:Addr} {U:Web} {a n:Nat} {ds:List Nat} {v3 v5 v6:Option T} (hb:BoxAt G b n) (hn:n+8500<2^40) (fine:Fine U) (ha:a<U.length) (hl:ds.length<=400)
  (kk:∀q ts G',q≠b->G' q=some (.lst ts)->ts.length<=100->(∀t,t∈ts->Tg b G' t)->BoxAt G' b (n+7000)->Keep b G G'->Q (.ref q) G'):
  rd_th {nx:=fun _ G'=>Q .non G',rt:=Q} [some (.ref b),some (encW U),some (.int (a:Nat)),v3,some (lT ds),v5,v6] G:=by
 have hs:=sz
 rw[rd_th2_eq]
 wp_walk using 1,jUd,jVw,tSl,jJs,jKf,rSlF,lT
 refine addN (m:=(jJk ds).length) ?_
 rw[jZj]
 refine⟨b,_,n,rfl,hb,by omega,by omega,by omega,fun c G1 c0 c1 b1 k1=> ?_⟩
 obtain⟨c,rfl⟩:=lJm c0
 intro p hp
 obtain⟨bo1,hbo1⟩:=b1.some
 have bp:=jJe hbo1 hp
 have gp:(gup G1 p (GO.lst (jJk ds))) p=some (.lst (jJk ds)):=jJg
 have kp:Keep b G1 (gup G1 p (GO.lst (jJk ds))):= .new hp
 have xp:=b1.gup (o:=GO.lst (jJk ds)) bp
 generalize gup G1 p (GO.lst (jJk ds))=G2 at gp kp xp ⊢
 obtain⟨d1,h1,l1⟩:=jU0 (ds:=ds) (lo:=none) (hi:=some (c:Nat))
 obtain⟨d2,h2,l2⟩:=jU0 (ds:=ds) (lo:=some ((c+1:Nat):Int)) (hi:=none)
 refine⟨_,rfl,_,rfl,addN ⟨_,rfl,_,rfl,?_⟩⟩
 rw[h1,h2]
 refine jXp (by simp[jJk];omega) ?_
 rw[intsN_app]
 refine⟨b,_,_,rfl,xp,by omega,by omega,by omega,fun e G3 e0 e1 b3 k3=>⟨by omega,?_⟩⟩
 obtain⟨e,rfl⟩:=lJm e0
 refine jXp (by simp[jJk];omega) ?_
 rw[kQ4]
 refine⟨by omega,fun q hq=> ?_⟩
 obtain⟨bo3,hbo3⟩:=b3.some
 have bq:=jJe hbo3 hq
 have kG:=(k1.trans kp).trans k3
 refine th2_ok b3 (by omega) fine ha hl hq bq.symm rfl (mem2 (tg_is (by omega)) (mem2 (tg_lst (k3 _ _ bp.symm gp) bp.symm kQy (by rw[jZj];omega)) (mem2 (tg_is (by rw[lJl];omega)) (mem1 (tg_is (by simp;omega)))))) ?_
 exact fun q ts G' h1 h2 h3 h4 h5 h6=>kk q ts G' h1 h2 h3 h4 (h5.mono (by omega)) (kG.trans h6)
theorem kUx:∀xs G Q,jKy xs G Q->jXh {nx:=fun _ G'=>Q .non G',rt:=Q} (jJm kUd xs) G:=by
 intro xs G Q h_;apply xe5 h_;clear h_;intro b U a o n h_;apply ae6 h_;clear h_;intro hb hn fine ha hol kk
 rw[show jJm kUd [.ref b,encW U,.int (a:Nat),oWay o]=[some (.ref b),some (encW U),some (.int (a:Nat)),some (oWay o),none,none,none] from rfl]
 have hs:=sz
 rw[rd_th_eq]
 wp_walk using 1,tSeq
 cases o with
 | none=>
  refine⟨b,U,a,5,n,rfl,hb,by omega,fine,ha,by omega,fun ds es G1 hg hdl b1 k1=> ?_⟩
  exact th_ok b1 (by omega) fine ha (by omega) fun q ts G' h1 h2 h3 h4 h5 h6=>kk q ts G' h1 h2 h3 h4 (h5.mono (by omega)) (k1.trans h6)
 | some p=>
  have:=hol p rfl
  exact th_ok hb (by omega) fine ha (by omega) fun q ts G' h1 h2 h3 h4 h5 h6=>kk q ts G' h1 h2 h3 h4 (h5.mono (by omega)) h6
noncomputable def LstW (mq:Nat->Bool) (W:Web) (r s:Nat):Option (List Nat)->Prop
 | none=>∀p,¬ PW mq W p r s
 | some p=>PW mq W p r s/\∀q,PW mq W q r s->sle p q
theorem LstW.unique {mq:Nat->Bool} {W:Web} {r s:Nat} {o o':Option (List Nat)} (h:LstW mq W r s o) (h':LstW mq W r s o'):o=o':=by
 cases o with
 | none=>
  cases o' with
  | none=>rfl
  | some p=>exact absurd h'.1 (h p)
 | some p=>
  cases o' with
  | none=>exact absurd h.1 (h' p)
  | some q=>rw[sle_anti (h.2 q h'.1) (h'.2 p h.1)]
theorem gr_lstW {mq:Nat->Bool} {W:Web} (f:Fine W) {r s:Nat} {o:Option (List Nat)} (hr:r<W.length) (hs:s<W.length) (h:Gr mq W W.length r s o):LstW mq W r s o/\∀p,o=some p->p.length<=W.length:=by
 cases o with
 | none=>exact⟨fun p=>no_PW f hr hs h p,fun p hp=>by cases hp⟩
 | some p=>
  obtain⟨k,hk,ha,hn,hg⟩:=h
  obtain⟨g1,g2,g3⟩:=grd_least f k r s p hr hs ha hn hg
  refine⟨⟨g2,fun q hq=> ?_⟩,fun p' hp'=>by cases hp';omega⟩
  rcases lKz q.length k with z | z | z
  ·exact absurd hq ((jXo f q.length r s hr hs).mp (ha _ z) q (lJd _))
  ·rcases g3 q z hq with y | y
   ·exact .inl y.symm
   ·exact .inr (.inr ⟨by omega,y⟩)
  ·exact .inr (.inl (by omega))
theorem bothL {U V:Web} {r d:Nat} (h:r<U.length):en (both U V) r d=en U r d:=by unfold en;rw[jZp h]
theorem bothR {U V:Web} {r d:Nat}:en (both U V) (U.length+r) d=(en V r d).map fun e=>(e.1+U.length,e.2):=by
 unfold en;rw[jYm]
 cases V[r]? with
 | none=>rfl
 | some es=>simp
theorem lenL {U V:Web} {r:Nat} (h:r<U.length):(row (both U V) r).length=(row U r).length:=by rw[row,row,jZp h]
theorem lenR {U V:Web} {r:Nat}:(row (both U V) (U.length+r)).length=(row V r).length:=by
 rw[row,row,jYm]
 cases V[r]? with
 | none=>rfl
 | some es=>simp
noncomputable def mq0 (_:Nat):Bool:=false
theorem xl_mq {U V:Web} {r s:Nat} (hr:r<U.length):¬ XL U V r s↔(row (both U V) r).length=(row (both U V) (U.length+s)).length/\mq0 r=mq0 (U.length+s):=by
 rw[lenL hr,lenR]
 unfold XL
 exact⟨fun h=>⟨lJ7 h,rfl⟩,fun h z=>z h.1⟩
theorem PX_both {U V:Web} (fU:Fine U) (fV:Fine V):∀(p:List Nat) (r s:Nat),r<U.length->s<V.length->(PX (XL U V) U V p r s↔PW mq0 (both U V) p r (U.length+s))
 | [],r,s,hr,hs=>by
  rw[PX,PW,<-xl_mq hr]
  exact lQe.symm
 | d::p,r,s,hr,hs=>by
  rw[PX,PW,bothL hr,bothR,<-xl_mq hr]
  constructor
  ·rintro⟨h1,e,g,he,hg,z⟩
   refine⟨h1,e,(g.1+U.length,g.2),he,by rw[hg];rfl,?_⟩
   rcases z with z | ⟨z1,z2⟩
   ·exact .inl z
   ·refine .inr ⟨z1,?_⟩
    have:=(PX_both fU fV p e.1 g.1 (fU.rng r d e.1 e.2 he) (fV.rng s d g.1 g.2 hg)).mp z2
    rw[Nat.add_comm] at this;exact this
  ·rintro⟨h1,e,g',he,hg',z⟩
   obtain⟨g,hg,rfl⟩:=lKf.mp hg'
   refine⟨h1,e,g,he,hg,?_⟩
   rcases z with z | ⟨z1,z2⟩
   ·exact .inl z
   ·refine .inr ⟨z1,(PX_both fU fV p e.1 g.1 (fU.rng r d e.1 e.2 he) (fV.rng s d g.1 g.2 hg)).mpr ?_⟩
    rw[Nat.add_comm];exact z2
theorem lst_lstW {U V:Web} (fU:Fine U) (fV:Fine V) {a b:Nat} {o:Option (List Nat)} (ha:a<U.length) (hb:b<V.length) (h:Lst (XL U V) U V a b o):LstW mq0 (both U V) a (U.length+b) o:=by
 have e:∀p,PX (XL U V) U V p a b↔PW mq0 (both U V) p a (U.length+b):=fun p=>PX_both fU fV p a b ha hb
 cases o with
 | none=>exact fun p hp=>h p ((e p).mpr hp)
 | some p=>exact⟨(e p).mp h.1,fun q hq=>h.2 q ((e q).mpr hq)⟩
noncomputable def isL:PyData->Bool
 | .list _=>true
 | _=>false
theorem isi_lst {G:Gp} {x:T} {d:PyData} (h:RdG G x d):isiT G x (.ty "list")=some (isL d)/\(isL d=true->∃xs ds,seqT G x=some xs/\d= .list ds/\RdGs G xs ds):=by
 cases h with
 | non=>exact⟨rfl,fun z=>(nomatch z)⟩
 | bl b=>exact⟨rfl,fun z=>(nomatch z)⟩
 | int i=>exact⟨rfl,fun z=>(nomatch z)⟩
 | str x=>exact⟨rfl,fun z=>(nomatch z)⟩
 | tup h=>exact⟨rfl,fun z=>(nomatch z)⟩
 | lst hp h=>exact⟨by simp only[isiT,kJe,hp];rfl,fun _=>⟨_,_,jJp hp,rfl,h⟩⟩
noncomputable def sp_law:Sp3:=fun xs G Q=>∃ns:List Int,xs=[.scr (jUl ns)]/\ns.length<=63/\∀G',Q (.bl true) G'
noncomputable def N_law:List Str:=["_law_script","_law_cells","_law_k","_law_box_here","_law_one","_law_a","_law_other","_law_b","_law_both_here","_law_due","_law_thing","_law_handed"]
noncomputable def rd_law:TS3:=
 (tSeq (tAsg (jJo jK0 (jJa (tVar 0) (jJa (tC (.int 24)) tNil))) (jJj 1))
 (tSeq (tFor (jKv (jJa (tCB rMax (jJa (tC (.int 1)) (jJa (tCB rLen (jJa (tVar 1) tNil)) tNil))) tNil)) (jJj 2) (tSeq (tAsg (jJo jUh (jJa (tVar 1) (jJa (tVar 2) tNil))) (jJj 3))
 (tSeq (tAsg (jJo jUg (jJa (tVar 3) tNil)) (gTup 4 (jKb (jJj 4) (jKb (jJj 5) (jKb (jJj 6) (jKb (jJj 7) gNil))))))
 (tSeq (tAsg (jJo jQu (jJa (tVar 4) (jJa (tVar 6) tNil))) (jJj 8))
 (tSeq (tAsg (jJo jQb (jJa (tVar 8) (jJa (jJo jKz (jJa (tVar 8) (jJa (tLst tNil) (jJa (tCB rLen (jJa (tVar 8) tNil)) tNil)))) (jJa (tVar 5) (jJa (tOp jKk (tCB rLen (jJa (tVar 4) tNil)) (tVar 7)) tNil))))) (jJj 9))
 (tFor (iSeq (jJo jKy (jJa (tVar 3) (jJa (tVar 4) (jJa (tVar 5) (jJa (tVar 9) tNil)))))) (jJj 10) (tSeq (tAsg (tIf (jKe (tCB rIsi (jJa (tVar 10) (jJa (tC (.ty "list")) tNil)))) (tCB jUd (jJa (tVar 10) tNil)) (tVar 10)) (jJj 11))
 (tSeq (tIfS (tNot (jKe (jJo jQj (jJa (jJo jJz (jJa (tVar 4) (jJa (tVar 5) (jJa (tVar 6) (jJa (tVar 7) (jJa (tVar 11) tNil)))))) (jJa (jJo jK3 (jJa (tVar 4) (jJa (tVar 5) (jJa (tVar 6) (jJa (tVar 7) (jJa (tVar 10) (jJa (tVar 9) tNil))))))) tNil))))) (tRet (tC (.bl false))) jK5)
 (tIfS (jKe (tOp rNeD (tVar 11) (tVar 10))) (tRet (tC (.bl false))) jK5)))))))))
 (tRet (tC (.bl true)))))
noncomputable def rd_w3:TS3:=(tSeq (tAsg (jJo jQb (jJa (tVar 8) (jJa (jJo jKz (jJa (tVar 8) (jJa (tLst tNil) (jJa (tCB rLen (jJa (tVar 8) tNil)) tNil)))) (jJa (tVar 5) (jJa (tOp jKk (tCB rLen (jJa (tVar 4) tNil)) (tVar 7)) tNil))))) (jJj 9))
 (tFor (iSeq (jJo jKy (jJa (tVar 3) (jJa (tVar 4) (jJa (tVar 5) (jJa (tVar 9) tNil)))))) (jJj 10) (tSeq (tAsg (tIf (jKe (tCB rIsi (jJa (tVar 10) (jJa (tC (.ty "list")) tNil)))) (tCB jUd (jJa (tVar 10) tNil)) (tVar 10)) (jJj 11))
 (tSeq (tIfS (tNot (jKe (jJo jQj (jJa (jJo jJz (jJa (tVar 4) (jJa (tVar 5) (jJa (tVar 6) (jJa (tVar 7) (jJa (tVar 11) tNil)))))) (jJa (jJo jK3 (jJa (tVar 4) (jJa (tVar 5) (jJa (tVar 6) (jJa (tVar 7) (jJa (tVar 10) (jJa (tVar 9) tNil))))))) tNil))))) (tRet (tC (.bl false))) jK5)
 (tIfS (jKe (tOp rNeD (tVar 11) (tVar 10))) (tRet (tC (.bl false))) jK5)))))
theorem rd_w_eq:rd_law=tSeq (tAsg (jJo jK0 (jJa (tVar 0) (jJa (tC (.int 24)) tNil))) (jJj 1)) (tSeq (tFor (jKv (jJa (tCB rMax (jJa (tC (.int 1)) (jJa (tCB rLen (jJa (tVar 1) tNil)) tNil))) tNil)) (jJj 2) (tSeq (tAsg (jJo jUh (jJa (tVar 1) (jJa (tVar 2) tNil))) (jJj 3)) (tSeq (tAsg (jJo jUg (jJa (tVar 3) tNil)) (gTup 4 (jKb (jJj 4) (jKb (jJj 5) (jKb (jJj 6) (jKb (jJj 7) gNil)))))) (tSeq (tAsg (jJo jQu (jJa (tVar 4) (jJa (tVar 6) tNil))) (jJj 8)) rd_w3)))) (tRet (tC (.bl true)))):=rfl
theorem w3_ok {D':Ends3} {G:Gp} {pc b lb:Addr} {ms:List Int} {U V:Web} {a c:Nat} {v0 v2 v9 v10 v11:Option T} (hp:G pc=some (.lst (jUl ms))) (pb:pc≠b) (hlbb:lb≠b) (hb:BoxAt G b 3000) (hlb:G lb=some (.lst ((both U V).map encR))) (u:AnyWeb U) (v:AnyWeb V) (ha:a<U.length) (hc:c<V.length)
  (kk:∀v9 v10 v11 G',G' pc=some (.lst (jUl ms))->D'.nx [v0,some (.ref pc),v2,some (.ref b),some (encW U),some (.int (a:Nat)),some (encW V),some (.int (c:Nat)),some (.ref lb),v9,v10,v11] G'):
  rd_w3 D' [v0,some (.ref pc),v2,some (.ref b),some (encW U),some (.int (a:Nat)),some (encW V),some (.int (c:Nat)),some (.ref lb),v9,v10,v11] G:=by
 have hs:=sz
 have u1:=u.pos
 have u2:=u.len
 have w1:=v.pos
 have w2:=v.len
 have fB:Fine (both U V):=fine_both u.fine v.fine (by omega)
 have hBl:(both U V).length=U.length+V.length:=kVy
 wp_walk using 1,rd_w3,jJ5,iSeq,jUd,jVw,rIsi,rNeD
 have hul:(U.map encR).length=U.length:=lJb ..
 refine⟨by omega,fun le hle=> ?_⟩
 have hlbe:lb≠le:=jJe hlb hle
 have lbG:(gup G le (GO.lst [])) lb=some (.lst ((both U V).map encR)):=by rw[jJt hlbe];exact hlb
 have leG:(gup G le (GO.lst [])) le=some (.lst (jJk [])):=jJg
 have s12:Sub G (gup G le (GO.lst [])):= .new hle
 generalize gup G le (GO.lst [])=G2 at lbG leG s12 ⊢
 refine⟨_,jJp lbG,both U V,lb,le,(both U V).length,[],mq0,by rw[lJb],lbG,leG,fun _=>rfl,fB,by omega,fun q rs G3 hq hrs R s3=> ?_⟩
 refine⟨_,rfl,mq0,both U V,lb,q,rs,(both U V).length,a,U.length+c,by rw[hul];simp,s3 _ _ lbG,R,fB,by omega,by omega,by omega,fun o G4 hgr s4=> ?_⟩
 obtain⟨hW,hol⟩:=gr_lstW fB (by omega) (by omega) hgr
 have s04:=(s12.trans s3).trans s4
 refine⟨b,U,a,o,3000,rfl,hb.sub s04,by omega,u.fine,ha,fun p hp=>by have:=hol p hp;omega,fun q2 ts G5 q2b hq2 htl ht b5 k5=>⟨ts,jJp hq2,?_⟩⟩
 let J3:Nat->St3->Gp->Prop:=fun m τ G'=>∃v10 v11:Option T,τ=[v0,some (.ref pc),v2,some (.ref b),some (encW U),some (.int (a:Nat)),some (encW V),some (.int (c:Nat)),some (.ref lb),some (oWay o),v10,v11]/\Sub G5 G'
 refine⟨J3,⟨_,_,rfl,.refl _⟩,?_,?_,?_⟩
 ·intro m τ G' hm h_;apply xe2 h_;clear h_;intro v10 v11 h
  exact jJp (h _ _ hq2)
 ·intro m z τ G6 hz h_;apply xe2 h_;clear h_;intro v10 v11 h6
  obtain⟨d,hd,okd,hdl⟩:=ht z (lJg hz)
  have hd6:=jU4 h6 (jU4 er_sub hd)
  have fin:∀(hx:T) (G7:Gp),RdG G7 hx d->Sub G6 G7->jJz [encW U,.int (a:Nat),encW V,.int (c:Nat),hx] G7 fun x G1=>jK3 [encW U,.int (a:Nat),encW V,.int (c:Nat),z,oWay o] G1 fun y G2=>jQj [x,y] G2 fun w G3=>∃bb,w= .bl bb/\if bb=false then D'.rt (.bl false) G3 else ∃dx,RdG G3 hx dx/\∃dy,RdG G3 z dy/\dx.canLay0=true/\dy.canLay0=true/\dx.depth<=50/\if PyData.eqv dx dy=false then D'.rt (.bl false) G3 else J3 (m+1) [v0,some (.ref pc),v2,some (.ref b),some (encW U),some (.int (a:Nat)),some (encW V),some (.int (c:Nat)),some (.ref lb),some (oWay o),some z,some hx] G3:=by
   intro hx G7 h7 s7
   refine⟨U,V,a,c,hx,d,rfl,u,v,ha,hc,h7,hdl,fun o1 G8 ho1 s8=> ?_⟩
   obtain rfl:=hW.unique (lst_lstW u.fine v.fine ha hc ho1)
   refine⟨U,V,a,c,z,d,o,rfl,u,v,ha,hc,jU4 (s7.trans s8) hd6,hdl,fun G9 s9=>⟨_,rfl,fun G10 s10=>⟨true,rfl,?_⟩⟩⟩
   rw[if_neg (by decide)]
   have s710:=(s8.trans s9).trans s10
   refine⟨d,jU4 s710 h7,d,jU4 (s7.trans s710) hd6,okd.lay,okd.lay,lJo okd.dep (by decide),?_⟩
   rw[eqv_self hd,if_neg (by decide)]
   exact⟨_,_,rfl,h6.trans (s7.trans s710)⟩
  obtain⟨i1,i2⟩:=isi_lst hd6
  wp_walk using 1,jVw,rIsi,rNeD,i1
  by_cases e:isL d=true
  ·obtain⟨xs,ds,h1,rfl,h2⟩:=i2 e
   rw[if_pos e]
   exact⟨xs,h1,fun p hp=>fin (.ref p) _ (.lst jJg (kJv (.new hp) h2)) (.new hp)⟩
  ·rw[if_neg e]
   exact fin z G6 hd6 (.refl _)
 ·intro τ G6 h_;apply xe2 h_;clear h_;intro v10 v11 h6
  exact kk _ _ _ G6 (h6 _ _ (k5 _ _ pb (s04 _ _ hp)))
theorem rdok_law:∀xs G Q,sp_law xs G Q->rd_law {nx:=fun _ G'=>Q .non G',rt:=Q} (jJm N_law xs) G:=by
 intro xs G Q h_;apply xe1 h_;clear h_;intro ns h_;apply ae2 h_;clear h_;intro hns kk
 rw[show jJm N_law [.scr (jUl ns)]=[some (.scr (jUl ns)),none,none,none,none,none,none,none,none,none,none,none] from rfl,rd_w_eq]
 have hs:=sz
 wp_walk using 1,jJ5,jKv,iSeq,rMax
 refine⟨ns,24,rfl,hns,by decide,by decide,fun pc G1 ms hpc hpc1 hm1 hm2 s1=> ?_⟩
 refine⟨_,jJp hpc1,by split<;>omega,by simp only[lJb];split<;>omega,?_⟩
 let J1:Nat->St3->Gp->Prop:=fun k τ G'=>∃(v2 v3 v4 v5 v6 v7 v8 v9 v10 v11:Option T),τ=[some (.scr (jUl ns)),some (.ref pc),v2,v3,v4,v5,v6,v7,v8,v9,v10,v11]/\G' pc=some (.lst (jUl ms))
 refine⟨J1,?_,?_,?_,?_⟩
 ·exact⟨_,_,_,_,_,_,_,_,_,_,rfl,hpc1⟩
 ·intros;trivial
 ·intro k x τ G2 hx h_;apply xe10 h_;clear h_;intro v2 v3 v4 v5 v6 v7 v8 v9 v10 v11 hp2
  have hk:k<63/\x= .int (k:Nat):=by
   obtain⟨z1,z2⟩:=jU8 hx
   refine⟨?_,z2⟩
   rw[lJb] at z1
   split at z1<;>omega
  obtain⟨hk,rfl⟩:=hk
  wp_walk using 1,tSeq
  refine⟨pc,ms,k,rfl,hp2,hm2,by omega,by omega,fun b G3 hb3 bx3 s3=> ?_⟩
  have hpb:=jJe hp2 hb3
  refine⟨b,0,rfl,bx3,by decide,fun p q G4 wp wq bx4 k4=> ?_⟩
  obtain⟨U,a⟩:=p
  obtain⟨V,c⟩:=q
  obtain⟨u,ha⟩:=wp
  obtain⟨v,hc⟩:=wq
  have u:AnyWeb U:=u
  have v:AnyWeb V:=v
  have hp4:=k4 _ _ hpb (s3 _ _ hp2)
  wp_walk using 1,tSeq
  refine⟨U,V,rfl,u.fine.len,v.fine.len,v.fine.row,fun lb G5 hlb5 hlb s5=> ?_⟩
  obtain⟨bo4,hbo4⟩:=bx4.some
  have hlbb:lb≠b:=(jJe hbo4 hlb5).symm
  exact w3_ok (s5 _ _ hp4) hpb hlbb ((bx4.sub s5).mono (by omega)) hlb u v ha hc fun _ _ _ G' e=>⟨_,_,_,_,_,_,_,_,_,_,rfl,e⟩
 ·intro τ G2 h_;apply xe10 h_;clear h_;intro v2 v3 v4 v5 v6 v7 v8 v9 v10 v11 h2
  wp_walk using 1,tSeq
  exact kk _
end W
namespace W
open PySem PySem.Spec PyProof.Rows L2 L3
noncomputable def top (i:Nat):Stmt:=PySem.Challenge.pw_stonewalker_k12_partings_shown.main.body.getD i (.Pass ⟨0,0,0,0⟩)
structure Txt (mg:Str->Option Value):Prop where
 n_abs:mg "abs"=none
 n_all:mg "all"=none
 n_bool:mg "bool"=none
 n_divmod:mg "divmod"=none
 n_enumerate:mg "enumerate"=none
 n_int:mg "int"=none
 n_isinstance:mg "isinstance"=none
 n_len:mg "len"=none
 n_list:mg "list"=none
 n_max:mg "max"=none
 n_min:mg "min"=none
 n_range:mg "range"=none
 n_reversed:mg "reversed"=none
 n_tuple:mg "tuple"=none
noncomputable abbrev jUv:Stmt:=top 1
theorem sc_is_number:FnScope ["thing"] ["thing"] (jJi jUv):=⟨rfl,rfl,rfl,by decide +kernel,rfl,by decide +kernel,by decide +kernel⟩
variable {P:Program} {w:World} {K:PySem.W.Frag} {mg:Str->Option Value} {base:Heap} {f:Addr} {fd:FuncData}
theorem ok_is_number (T:Txt mg) (F:Fun K "is_number" "is_number" jUv f fd) 
  (h:∀xs G Q,jKp xs G Q->jVu {nx:=fun _ G'=>Q .non G',rt:=Q} (jJm ["thing"] xs) G):Fn3 P w K mg base 1 f fd ["thing"] jKp:=by
 refine fn3 F sc_is_number fun cdv A outer s H E hr=>⟨jVu,?_,h⟩
 have hu:=jQl hr
 have nd:=sc_is_number.nd
 exact (jJn (jKi (e_and (jJr c_isi (by rfl) T.n_isinstance rfl (jJb (jJc 0) (jJb (e_ty rfl T.n_int rfl) jJd))) (e_one (e_not (jJr c_isi (by rfl) T.n_isinstance rfl (jJb (jJc 0) (jJb (e_ty rfl T.n_bool rfl) jJd))))))))
noncomputable abbrev jV4:Stmt:=top 2
theorem sc_ends_on:FnScope ["web","room","way","ends","here","door","end"] ["web","room","way"] (jJi jV4):=⟨rfl,rfl,rfl,by decide +kernel,rfl,by decide +kernel,by decide +kernel⟩
theorem ok_ends_on (T:Txt mg) (F:Fun K "ends_on" "ends_on" jV4 f fd) 
  (h:∀xs G Q,jQn xs G Q->jYg {nx:=fun _ G'=>Q .non G',rt:=Q} (jJm ["web","room","way","ends","here","door","end"] xs) G):Fn3 P w K mg base 1 f fd ["web","room","way"] jQn:=by
 refine fn3 F sc_ends_on fun cdv A outer s H E hr=>⟨jYg,?_,h⟩
 have hu:=jQl hr
 have nd:=sc_ends_on.nd
 exact (jJf (jJ1 (i:=3) nd (jQf jJd))
   (jJf (jJ1 (i:=4) nd (jJc 1))
   (jJf (jQ2 PassesOwn.never rfl (jUw (jJc 2)) (jJq (i:=5) nd) (jJf (s_if (t_not (t_chain (o_leF hu) o_lt jJl (jJc 5) (jJr jK2 (by rfl) T.n_len PySem.boot_len (jJb (e_ix (ix_F hu) (jJc 0) (jJc 4) (fun _ _=>rfl)) jJd)))) (jJn (jKi kJl)) jKx)
   (jJf (jJ1 (i:=6) nd (e_ix (ix_F hu) (e_ix (ix_F hu) (jJc 0) (jJc 4) (fun _ _=>rfl)) (jJc 5) (fun _ _=>rfl)))
   (jJf (jUi (e_bm PySem.F.plainAttrs_list PySem.F.slot_list_append PySem.F.type_list_append jK4 (jJc 3) (jJb (jJc 6) jJd)))
   (jJn (jJ1 (i:=4) nd (e_ix (ix_F hu) (jJc 6) jJl (fun _ _=>rfl))))))))
   (jJn (jKi (jJc 3))))))
noncomputable abbrev kQw:Stmt:=top 3
theorem sc_seen:FnScope ["web","room","way","ends","end"] ["web","room","way"] (jJi kQw):=⟨rfl,rfl,rfl,by decide +kernel,rfl,by decide +kernel,by decide +kernel⟩
theorem ok_seen (T:Txt mg) (F:Fun K "seen" "seen" kQw f fd) (C_ends_on:Cal P w K mg base 1 "ends_on" ["web","room","way"] jQn)
  (h:∀xs G Q,jU2 xs G Q->kU2 {nx:=fun _ G'=>Q .non G',rt:=Q} (jJm ["web","room","way","ends","end"] xs) G):Fn3 P w K mg base 2 f fd ["web","room","way"] jU2:=by
 refine fn3 F sc_seen fun cdv A outer s H E hr=>⟨kU2,?_,h⟩
 have hu:=jQl hr
 have nd:=sc_seen.nd
 exact (jJf (jJ1 (i:=3) nd (jJx C_ends_on (hr.mono (by decide)) (jJb (jJc 0) (jJb (jJc 1) (jJb (jJc 2) jJd)))))
   (jJf (s_if (jQo o_isN (jJc 3) kJl (jJu _)) (jJn (jKi kJl)) jKx)
   (jJn (jKi (jJ4 jQr (by rfl) T.n_tuple rfl (jJb (e_op o_addF (jQf (jJb (jJr jK2 (by rfl) T.n_len PySem.boot_len (jJb (e_ix (ix_F hu) (jJc 0) (jJc 1) (fun _ _=>rfl)) jJd)) jJd)) (jU7 (mask:=[false,false,false,false,true]) rfl ⟨rfl,rfl,rfl,rfl,rfl,rfl,rfl⟩ (jUw (jJc 3)) jJ8 (fun C fp s H=>(jJq (i:=4) nd)) (fun C fp s H=>jQ1) (fun C fp s H=>(jKd (jJb (e_ix (ix_F hu) (jJc 4) jJl (fun _ _=>rfl)) (jJb (jJr jK2 (by rfl) T.n_len PySem.boot_len (jJb (e_ix (ix_F hu) (jJc 0) (e_ix (ix_F hu) (jJc 4) jJl (fun _ _=>rfl)) (fun _ _=>rfl)) jJd)) jJd)))))) jJd))))))
noncomputable abbrev jYb:Stmt:=top 5
theorem sc_is_way:FnScope ["thing","part"] ["thing"] (jJi jYb):=⟨rfl,rfl,rfl,by decide +kernel,rfl,by decide +kernel,by decide +kernel⟩
theorem ok_is_way (T:Txt mg) (F:Fun K "is_way" "is_way" jYb f fd) (C_is_number:Cal P w K mg base 1 "is_number" ["thing"] jKp)
  (h:∀xs G Q,jQ5 xs G Q->jY9 {nx:=fun _ G'=>Q .non G',rt:=Q} (jJm ["thing","part"] xs) G):Fn3 P w K mg base 2 f fd ["thing"] jQ5:=by
 refine fn3 F sc_is_way fun cdv A outer s H E hr=>⟨jY9,?_,h⟩
 have hu:=jQl hr
 have nd:=sc_is_way.nd
 exact (jJn (jKi (e_and (jJr c_isi (by rfl) T.n_isinstance rfl (jJb (jJc 0) (jJb (jKd (jJb (e_ty rfl T.n_tuple rfl) (jJb (e_ty rfl T.n_list rfl) jJd))) jJd))) (e_one (jJr (c_all rfl) (by rfl) T.n_all rfl (jJb (jU7 (mask:=[false,true]) rfl ⟨rfl,rfl,rfl,rfl,rfl,rfl,rfl⟩ (jUw (jJc 0)) jJ8 (fun C fp s H=>(jJq (i:=1) nd)) (fun C fp s H=>jQ1) (fun C fp s H=>(e_and (jJx C_is_number (hr.mono (by decide)) (jJb (jJc 1) jJd)) (e_one (kKt o_ge (jJc 1) jJl (jJu _)))))) jJd))))))
noncomputable abbrev kQx:Stmt:=top 6
theorem sc_look:FnScope ["web","first","end","stone"] ["web","first","end","stone"] (jJi kQx):=⟨rfl,rfl,rfl,by decide +kernel,rfl,by decide +kernel,by decide +kernel⟩
theorem ok_look (T:Txt mg) (F:Fun K "look" "look" kQx f fd) 
  (h:∀xs G Q,jU3 xs G Q->kKa {nx:=fun _ G'=>Q .non G',rt:=Q} (jJm ["web","first","end","stone"] xs) G):Fn3 P w K mg base 1 f fd ["web","first","end","stone"] jU3:=by
 refine fn3 F sc_look fun cdv A outer s H E hr=>⟨kKa,?_,h⟩
 have hu:=jQl hr
 have nd:=sc_look.nd
 exact (jJf (s_if (t_tru tru_any (jJc 3)) (jJn (jKi (jKd (jJb (e_ix (ix_F hu) (jJc 2) jJl (fun _ _=>rfl)) (jJb (jJr jK2 (by rfl) T.n_len PySem.boot_len (jJb (e_ix (ix_F hu) (jJc 0) (e_ix (ix_F hu) (jJc 2) jJl (fun _ _=>rfl)) (fun _ _=>rfl)) jJd)) (jJb (kKs (jQo (jZd hr.units) (e_ix (ix_F hu) (jJc 2) jJl (fun _ _=>rfl)) (jJc 1) (jJu _)) jJl jJl) jJd)))))) jKx)
   (jJn (jKi (jKd (jJb (e_ix (ix_F hu) (jJc 2) jJl (fun _ _=>rfl)) (jJb (jJr jK2 (by rfl) T.n_len PySem.boot_len (jJb (e_ix (ix_F hu) (jJc 0) (e_ix (ix_F hu) (jJc 2) jJl (fun _ _=>rfl)) (fun _ _=>rfl)) jJd)) jJd))))))
noncomputable abbrev jQx:Stmt:=top 7
theorem sc_walked_both:FnScope ["one","a","other","b","stone","pairs","level","further","pair","way","door","left","right","come_to"] ["one","a","other","b","stone"] (jJi jQx):=⟨rfl,rfl,rfl,by decide +kernel,rfl,by decide +kernel,by decide +kernel⟩
theorem kQh (T:Txt mg) (F:Fun K "walked_both" "walked_both" jQx f fd) (C_look:Cal P w K mg base 1 "look" ["web","first","end","stone"] jU3)
  (h:∀xs G Q,jKg xs G Q->jUy {nx:=fun _ G'=>Q .non G',rt:=Q} (jJm ["one","a","other","b","stone","pairs","level","further","pair","way","door","left","right","come_to"] xs) G):Fn3 P w K mg base 2 f fd ["one","a","other","b","stone"] jKg:=by
 refine fn3 F sc_walked_both fun cdv A outer s H E hr=>⟨jUy,?_,h⟩
 have hu:=jQl hr
 have nd:=sc_walked_both.nd
 exact (jJf (jJ1 (i:=5) nd (e_disp1T hu (jKd (jJb (jJc 1) (jJb (jJc 3) jJd))) e_bl))
   (jJf (s_if (jQo (o_neA hr.units) (jJr jK2 (by rfl) T.n_len PySem.boot_len (jJb (e_ix (ix_F hu) (jJc 0) (jJc 1) (fun _ _=>rfl)) jJd)) (jJr jK2 (by rfl) T.n_len PySem.boot_len (jJb (e_ix (ix_F hu) (jJc 2) (jJc 3) (fun _ _=>rfl)) jJd)) (jJu _)) (jJn (jKi (jKd (jJb (jKd jJd) (jJb (jJc 5) jJd))))) jKx)
   (jJf (jJ1 (i:=6) nd (jQf (jJb (jKd (jJb (jKd (jJb (jJc 1) (jJb (jJc 3) jJd))) (jJb (jKd jJd) jJd))) jJd)))
   (jJf (s_while PassesOwn.never (t_tru tru_any (jJc 6)) (jJf (jJ1 (i:=7) nd (jQf jJd))
   (jJf (jQ2 PassesOwn.never rfl (jUw (jJc 6)) (jVj rfl (jJv (jJq (i:=8) nd) (jJv (jJq (i:=9) nd) jQv))) (jJn (jQ2 PassesOwn.never rfl (i_enT rfl T.n_enumerate rfl (jJb (e_ix (ix_F hu) (jJc 0) (e_ix (ix_F hu) (jJc 8) jJl (fun _ _=>rfl)) (fun _ _=>rfl)) jJd)) (jVj rfl (jJv (jJq (i:=10) nd) (jJv (jJq (i:=11) nd) jQv))) (jJf (jJ1 (i:=12) nd (e_ix (ix_F hu) (e_ix (ix_F hu) (jJc 2) (e_ix (ix_F hu) (jJc 8) jJl (fun _ _=>rfl)) (fun _ _=>rfl)) (jJc 10) (fun _ _=>rfl)))
   (jJf (s_if (jQo (o_neA hr.units) (jJx C_look (hr.mono (by decide)) (jJb (jJc 0) (jJb (jJc 1) (jJb (jJc 11) (jJb (jJc 4) jJd))))) (jJx C_look (hr.mono (by decide)) (jJb (jJc 2) (jJb (jJc 3) (jJb (jJc 12) (jJb (jJc 4) jJd))))) (jJu _)) (jJn (jKi (jKd (jJb (e_op jUe (jJc 9) (jKd (jJb (jJc 10) jJd))) (jJb (jJc 5) jJd))))) jKx)
   (jJf (jJ1 (i:=13) nd (jKd (jJb (e_ix (ix_F hu) (jJc 11) jJl (fun _ _=>rfl)) (jJb (e_ix (ix_F hu) (jJc 12) jJl (fun _ _=>rfl)) jJd))))
   (jJn (s_if (jQo (o_notInFu hu) (jJc 13) (jJc 5) (jJu _)) (jJf (jXv e_bl (jZ6 (jJc 5) (jJc 13) (s_F hu)))
   (jJn (jUi (e_bm PySem.F.plainAttrs_list PySem.F.slot_list_append PySem.F.type_list_append jK4 (jJc 7) (jJb (jKd (jJb (jJc 13) (jJb (e_op jUe (jJc 9) (jKd (jJb (jJc 10) jJd))) jJd))) jJd))))) jKx))))))))
   (jJn (jJ1 (i:=6) nd (jJc 7))))))
   (jJn (jKi (jKd (jJb kJl (jJb (jJc 5) jJd)))))))))
noncomputable abbrev jV0:Stmt:=top 8
theorem sc_parting:FnScope ["one","a","other","b"] ["one","a","other","b"] (jJi jV0):=⟨rfl,rfl,rfl,by decide +kernel,rfl,by decide +kernel,by decide +kernel⟩
theorem ok_parting (T:Txt mg) (F:Fun K "parting" "parting" jV0 f fd) (C_walked_both:Cal P w K mg base 2 "walked_both" ["one","a","other","b","stone"] jKg)
  (h:∀xs G Q,jQm xs G Q->jYc {nx:=fun _ G'=>Q .non G',rt:=Q} (jJm ["one","a","other","b"] xs) G):Fn3 P w K mg base 3 f fd ["one","a","other","b"] jQm:=by
 refine fn3 F sc_parting fun cdv A outer s H E hr=>⟨jYc,?_,h⟩
 have hu:=jQl hr
 have nd:=sc_parting.nd
 exact (jJn (jKi (e_ix (ix_F hu) (jJx C_walked_both (hr.mono (by decide)) (jJb (jJc 0) (jJb (jJc 1) (jJb (jJc 2) (jJb (jJc 3) (jJb e_bl jJd)))))) jJl (fun _ _=>rfl))))
noncomputable abbrev jQc:Stmt:=top 9
theorem sc_shows_parting:FnScope ["one","a","other","b","way","least"] ["one","a","other","b","way"] (jJi jQc):=⟨rfl,rfl,rfl,by decide +kernel,rfl,by decide +kernel,by decide +kernel⟩
theorem kJh (T:Txt mg) (F:Fun K "shows_parting" "shows_parting" jQc f fd) (C_parting:Cal P w K mg base 3 "parting" ["one","a","other","b"] jQm) (C_is_way:Cal P w K mg base 2 "is_way" ["thing"] jQ5) (C_seen:Cal P w K mg base 2 "seen" ["web","room","way"] jU2)
  (h:∀xs G Q,jJz xs G Q->jQ8 {nx:=fun _ G'=>Q .non G',rt:=Q} (jJm ["one","a","other","b","way","least"] xs) G):Fn3 P w K mg base 4 f fd ["one","a","other","b","way"] jJz:=by
 refine fn3 F sc_shows_parting fun cdv A outer s H E hr=>⟨jQ8,?_,h⟩
 have hu:=jQl hr
 have nd:=sc_shows_parting.nd
 exact (jJf (jJ1 (i:=5) nd (jJx C_parting (hr.mono (by decide)) (jJb (jJc 0) (jJb (jJc 1) (jJb (jJc 2) (jJb (jJc 3) jJd))))))
   (jJf (s_if (PW3.pt (w_or (jQo o_isN (jJc 5) kJl (jJu _)) (w_or (t_not (t_val (jJx C_is_way (hr.mono (by decide)) (jJb (jJc 4) jJd)))) (w_or1 (jQo (o_neA hr.units) (jJr jK2 (by rfl) T.n_len PySem.boot_len (jJb (jJc 4) jJd)) (jJr jK2 (by rfl) T.n_len PySem.boot_len (jJb (jJc 5) jJd)) (jJu _)))))) (jJn (jKi e_bl)) jKx)
   (jJn (jKi (kKt (o_neA hr.units) (jJx C_seen (hr.mono (by decide)) (jJb (jJc 0) (jJb (jJc 1) (jJb (jJc 4) jJd)))) (jJx C_seen (hr.mono (by decide)) (jJb (jJc 2) (jJb (jJc 3) (jJb (jJc 4) jJd)))) (jJu _))))))
noncomputable abbrev jZy:Stmt:=top 11
theorem sc_l_box:FnScope ["_law_script","_law_k","_law_cell"] ["_law_script","_law_k"] (jJi jZy):=⟨rfl,rfl,rfl,by decide +kernel,rfl,by decide +kernel,by decide +kernel⟩
theorem ok_l_box (T:Txt mg) (F:Fun K "_law_box" "_law_box" jZy f fd) 
  (h:∀xs G Q,jUh xs G Q->kJu {nx:=fun _ G'=>Q .non G',rt:=Q} (jJm ["_law_script","_law_k","_law_cell"] xs) G):Fn3 P w K mg base 1 f fd ["_law_script","_law_k"] jUh:=by
 refine fn3 F sc_l_box fun cdv A outer s H E hr=>⟨kJu,?_,h⟩
 have hu:=jQl hr
 have nd:=sc_l_box.nd
 exact (jJf (jJ1 (i:=2) nd (e_ix (ix_F hu) (e_op o_addF (jJc 0) (e_op jVi (jQf (jJb jJl jJd)) (e_op o_addF (jJc 1) jJl))) (jJc 1) (fun _ _=>rfl)))
   (jJn (jKi (jQf (jJb (e_op jVi (jJr c_abs (by rfl) T.n_abs rfl (jJb (jJc 2) jJd)) (jJ4 c_int (by rfl) T.n_int rfl (jJb (kKt o_ge (jJr c_abs (by rfl) T.n_abs rfl (jJb (jJc 2) jJd)) (e_op o_pow jJl jJl) (jJu _)) jJd))) (jJb (e_op jZc (e_op jVi (e_op o_addF (e_op o_addF (e_op jZc (jJc 2) jJl) (e_op jVi jJl (jJc 1))) jJl) jJl) jJl) (jJb jJl jJd)))))))
noncomputable abbrev jX4:Stmt:=top 12
theorem sc_l_take:FnScope ["_law_box_here","_law_many","_law_found","_law_once"] ["_law_box_here","_law_many"] (jJi jX4):=⟨rfl,rfl,rfl,by decide +kernel,rfl,by decide +kernel,by decide +kernel⟩
theorem ok_l_take (T:Txt mg) (F:Fun K "_law_take" "_law_take" jX4 f fd) 
  (h:∀xs G Q,jJh xs G Q->jY2 {nx:=fun _ G'=>Q .non G',rt:=Q} (jJm ["_law_box_here","_law_many","_law_found","_law_once"] xs) G):Fn3 P w K mg base 1 f fd ["_law_box_here","_law_many"] jJh:=by
 refine fn3 F sc_l_take fun cdv A outer s H E hr=>⟨jY2,?_,h⟩
 have hu:=jQl hr
 have nd:=sc_l_take.nd
 exact (jJf (s_if (jQo o_gt (e_ix (ix_F hu) (jJc 0) jJl (fun _ _=>rfl)) jJl (jJu _)) (jJf (jXv (jJr c_divmod (by rfl) T.n_divmod rfl (jJb (e_ix (ix_F hu) (jJc 0) jJl (fun _ _=>rfl)) (jJb (jJc 1) jJd))) (jVj rfl (jJv (jZ6 (jJc 0) jJl (s_F hu)) (jJv (jJq (i:=2) nd) jQv))))
   (jJn (jKi (jJc 2)))) jKx)
   (jJf (jXv (e_op o_addF (e_ix (ix_F hu) (jJc 0) jJl (fun _ _=>rfl)) jJl) (jZ6 (jJc 0) jJl (s_F hu)))
   (jJf (jJ1 (i:=3) nd (e_op jZc (e_op jVi (e_op o_addF (e_ix (ix_F hu) (jJc 0) jJl (fun _ _=>rfl)) (e_op jVi jJl (e_ix (ix_F hu) (jJc 0) jJl (fun _ _=>rfl)))) (e_op o_addF jJl (e_ix (ix_F hu) (jJc 0) jJl (fun _ _=>rfl)))) jJl))
   (jJf (jXv (e_op jZc (e_op o_addF (e_op jVi (jJc 3) (e_op o_addF (e_op jZc (jJc 3) jJl) jJl)) (e_ix (ix_F hu) (jJc 0) jJl (fun _ _=>rfl))) jJl) (jZ6 (jJc 0) jJl (s_F hu)))
   (jJn (jKi (e_op jZc (e_op o_fdiv (e_op jZc (e_op jVi (e_ix (ix_F hu) (jJc 0) jJl (fun _ _=>rfl)) (e_op o_addF (e_op jZc (e_ix (ix_F hu) (jJc 0) jJl (fun _ _=>rfl)) jJl) jJl)) jJl) jJl) (jJc 1))))))))
noncomputable abbrev jVe:Stmt:=top 13
theorem sc_l_folded:FnScope ["_law_script","_law_many","_law_cells","_law_k","_law_cell"] ["_law_script","_law_many"] (jJi jVe):=⟨rfl,rfl,rfl,by decide +kernel,rfl,by decide +kernel,by decide +kernel⟩
theorem ok_l_folded (T:Txt mg) (F:Fun K "_law_folded" "_law_folded" jVe f fd) 
  (h:∀xs G Q,jK0 xs G Q->jXl {nx:=fun _ G'=>Q .non G',rt:=Q} (jJm ["_law_script","_law_many","_law_cells","_law_k","_law_cell"] xs) G):Fn3 P w K mg base 1 f fd ["_law_script","_law_many"] jK0:=by
 refine fn3 F sc_l_folded fun cdv A outer s H E hr=>⟨jXl,?_,h⟩
 have hu:=jQl hr
 have nd:=sc_l_folded.nd
 exact (jJf (jJ1 (i:=2) nd (jJ4 kKz (by rfl) T.n_list rfl (jJb (jUb sl_F (jJc 0) jV5 (jUn (jJc 1))) jJd)))
   (jJf (jQ2 PassesOwn.never rfl (kQ6 rfl T.n_enumerate rfl (jJb (jUb sl_F (jJc 0) (jUn (jJc 1)) (jUn jJl)) jJd)) (jVj rfl (jJv (jJq (i:=3) nd) (jJv (jJq (i:=4) nd) jQv))) (jJn (jXv (e_op o_addF (e_ix (ix_F hu) (jJc 2) (e_op jZc (jJc 3) (jJc 1)) (fun _ _=>rfl)) (e_op jVi (jJc 4) (e_op o_addF (jJc 3) jJl))) (jZ6 (jJc 2) (e_op jZc (jJc 3) (jJc 1)) (s_F hu)))))
   (jJn (jKi (jJc 2)))))
noncomputable abbrev jVc:Stmt:=top 14
theorem sc_l_joined:FnScope ["_law_halves","_law_at","_law_room","_law_door","_law_half","_law_web_here","_law_doors","_law_tie","_law_side"] ["_law_halves"] (jJi jVc):=⟨rfl,rfl,rfl,by decide +kernel,rfl,by decide +kernel,by decide +kernel⟩
theorem ok_l_joined (T:Txt mg) (F:Fun K "_law_joined" "_law_joined" jVc f fd) 
  (h:∀xs G Q,jK6 xs G Q->jXj {nx:=fun _ G'=>Q .non G',rt:=Q} (jJm ["_law_halves","_law_at","_law_room","_law_door","_law_half","_law_web_here","_law_doors","_law_tie","_law_side"] xs) G):Fn3 P w K mg base 1 f fd ["_law_halves"] jK6:=by
 refine fn3 F sc_l_joined fun cdv A outer s H E hr=>⟨jXj,?_,h⟩
 have hu:=jQl hr
 have nd:=sc_l_joined.nd
 exact (jJf (jJ1 (i:=1) nd e_dct)
   (jJf (jQ2 PassesOwn.never rfl (jKn rfl T.n_range (jJb (jJr jK2 (by rfl) T.n_len PySem.boot_len (jJb (jJc 0) jJd)) jJd)) (jJq (i:=2) nd) (jJn (jQ2 PassesOwn.never rfl (kQ6 rfl T.n_enumerate rfl (jJb (e_ix (ix_F hu) (jJc 0) (jJc 2) (fun _ _=>rfl)) jJd)) (jVj rfl (jJv (jJq (i:=3) nd) (jJv (jJq (i:=4) nd) jQv))) (jJn (jXv (jKd (jJb (jJc 2) (jJb (jJc 3) jJd))) (jZ6 (jJc 1) (jJc 4) (s_F hu)))))))
   (jJf (jJ1 (i:=5) nd (jQf jJd))
   (jJf (jQ2 PassesOwn.never rfl (jUw (jJc 0)) (jJq (i:=6) nd) (jJn (jUi (e_bm PySem.F.plainAttrs_list PySem.F.slot_list_append PySem.F.type_list_append jK4 (jJc 5) (jJb (jJ4 jQr (by rfl) T.n_tuple rfl (jJb (jU7 (mask:=[false,false,false,false,false,false,false,true,true]) rfl ⟨rfl,rfl,rfl,rfl,rfl,rfl,rfl⟩ (jUw (jJc 6)) (kQ8 (jU5 jJ8 jQp (jU5 jJ8 jQp kQ9 jXs) (jZ5 jQp jXs))) (fun C fp s H=>(jVj rfl (jJv (jJq (i:=7) nd) (jJv (jJq (i:=8) nd) jQv)))) (fun C fp s H=>jQ1) (fun C fp s H=>(e_ix (ix_F hu) (jJc 1) (jKd (jJb (jJc 7) (jJb (e_ix (ix_F hu) (jQf (jJb jJl (jJb jJl (jJb jJl jJd)))) (jJc 8) (fun _ _=>rfl)) jJd))) (fun _ _=>rfl)))) jJd)) jJd)))))
   (jJn (jKi (jJ4 jQr (by rfl) T.n_tuple rfl (jJb (jJc 5) jJd))))))))
noncomputable abbrev jQy:Stmt:=top 15
theorem sc_l_doors_put:FnScope ["_law_box_here","_law_pairs","_law_many","_law_halves","_law_tie","_law_one","_law_other","_law_sides","_law_room","_law_side"] ["_law_box_here","_law_pairs","_law_many"] (jJi jQy):=⟨rfl,rfl,rfl,by decide +kernel,rfl,by decide +kernel,by decide +kernel⟩
theorem kQi (T:Txt mg) (F:Fun K "_law_doors_put" "_law_doors_put" jQy f fd) (C_l_take:Cal P w K mg base 1 "_law_take" ["_law_box_here","_law_many"] jJh) (C_l_joined:Cal P w K mg base 1 "_law_joined" ["_law_halves"] jK6)
  (h:∀xs G Q,jKh xs G Q->jUz {nx:=fun _ G'=>Q .non G',rt:=Q} (jJm ["_law_box_here","_law_pairs","_law_many","_law_halves","_law_tie","_law_one","_law_other","_law_sides","_law_room","_law_side"] xs) G):Fn3 P w K mg base 2 f fd ["_law_box_here","_law_pairs","_law_many"] jKh:=by
 refine fn3 F sc_l_doors_put fun cdv A outer s H E hr=>⟨jUz,?_,h⟩
 have hu:=jQl hr
 have nd:=sc_l_doors_put.nd
 exact (jJf (jYp (i:=3) (mask:=[false,false,false,false,false,false,false,false,true,false]) rfl nd ⟨rfl,rfl,rfl,rfl,rfl,rfl,rfl⟩ (jKn rfl T.n_range (jJb (jJc 2) jJd)) jJ8 (fun C fp s H=>(jJq (i:=8) nd)) (fun C fp s H=>jQ1) (fun C fp s H=>(jQf jJd)))
   (jJf (jQ2 PassesOwn.never rfl (kQ6 rfl T.n_enumerate rfl (jJb (jJc 1) jJd)) (jVj rfl (jJv (jJq (i:=4) nd) (jJv (jVj rfl (jJv (jJq (i:=5) nd) (jJv (jJq (i:=6) nd) jQv))) jQv))) (jJf (jJ1 (i:=7) nd (kKs (jQo (jZd hr.units) (jJc 6) (jJc 2) (jJu _)) (jQf (jJb (jKd (jJb (jJc 5) (jJb jJl jJd))) jJd)) (jQf (jJb (jKd (jJb (jJc 5) (jJb jJl jJd))) (jJb (jKd (jJb (jJc 6) (jJb jJl jJd))) jJd)))))
   (jJn (jQ2 PassesOwn.never rfl (jUw (jJc 7)) (jVj rfl (jJv (jJq (i:=8) nd) (jJv (jJq (i:=9) nd) jQv))) (jJn (jUi (e_bm PySem.F.plainAttrs_list PySem.F.slot_list_insert PySem.F.type_list_insert m_insert (e_ix (ix_F hu) (jJc 3) (jJc 8) (fun _ _=>rfl)) (jJb (jJx C_l_take (hr.mono (by decide)) (jJb (jJc 0) (jJb (e_op o_addF (jJr jK2 (by rfl) T.n_len PySem.boot_len (jJb (e_ix (ix_F hu) (jJc 3) (jJc 8) (fun _ _=>rfl)) jJd)) jJl) jJd))) (jJb (jKd (jJb (jJc 4) (jJb (jJc 9) jJd))) jJd)))))))))
   (jJn (jKi (jJx C_l_joined (hr.mono (by decide)) (jJb (jJc 3) jJd))))))
noncomputable abbrev jZu:Stmt:=top 16
theorem sc_l_web:FnScope ["_law_box_here","_law_many","_law_most","_law_used","_law_pairs","_law_room","_law_free","_law_end","_law_turn_here","_law_pair","_law_ends_here","_law_one"] ["_law_box_here","_law_many","_law_most"] (jJi jZu):=⟨rfl,rfl,rfl,by decide +kernel,rfl,by decide +kernel,by decide +kernel⟩
theorem ok_l_web (T:Txt mg) (F:Fun K "_law_web" "_law_web" jZu f fd) (C_l_take:Cal P w K mg base 1 "_law_take" ["_law_box_here","_law_many"] jJh) (C_l_doors_put:Cal P w K mg base 2 "_law_doors_put" ["_law_box_here","_law_pairs","_law_many"] jKh)
  (h:∀xs G Q,jQ7 xs G Q->kJq {nx:=fun _ G'=>Q .non G',rt:=Q} (jJm ["_law_box_here","_law_many","_law_most","_law_used","_law_pairs","_law_room","_law_free","_law_end","_law_turn_here","_law_pair","_law_ends_here","_law_one"] xs) G):Fn3 P w K mg base 3 f fd ["_law_box_here","_law_many","_law_most"] jQ7:=by
 refine fn3 F sc_l_web fun cdv A outer s H E hr=>⟨kJq,?_,h⟩
 have hu:=jQl hr
 have nd:=sc_l_web.nd
 exact (jJf (jJ1 (i:=3) nd (e_op jVi (jQf (jJb jJl jJd)) (jJc 1)))
   (jJf (jJ1 (i:=4) nd (jQf jJd))
   (jJf (jQ2 PassesOwn.never rfl (i_range2 rfl T.n_range (jJb jJl (jJb (jJc 1) jJd))) (jJq (i:=5) nd) (jJf (jYp (i:=6) (mask:=[false,false,false,false,false,false,false,false,false,false,false,true]) rfl nd ⟨rfl,rfl,rfl,rfl,rfl,rfl,rfl⟩ (jKn rfl T.n_range (jJb (jJc 5) jJd)) jJ8 (fun C fp s H=>(jJq (i:=11) nd)) (fun C fp s H=>(if_one (jQo o_lt (e_ix (ix_F hu) (jJc 3) (jJc 11) (fun _ _=>rfl)) (jJc 2) (jJu _)))) (fun C fp s H=>(jJc 11)))
   (jJf (jUi (e_bm PySem.F.plainAttrs_list PySem.F.slot_list_append PySem.F.type_list_append jK4 (jJc 4) (jJb (jKd (jJb (e_ix (ix_F hu) (jJc 6) (jJx C_l_take (hr.mono (by decide)) (jJb (jJc 0) (jJb (jJr jK2 (by rfl) T.n_len PySem.boot_len (jJb (jJc 6) jJd)) jJd))) (fun _ _=>rfl)) (jJb (jJc 5) jJd))) jJd)))
   (jJn (jQ2 PassesOwn.never rfl (jUw (e_ix (ix_F hu) (jJc 4) (e_un u_neg jJl) (fun _ _=>rfl))) (jJq (i:=7) nd) (jJn (jXv (e_op o_addF (e_ix (ix_F hu) (jJc 3) (jJc 7) (fun _ _=>rfl)) jJl) (jZ6 (jJc 3) (jJc 7) (s_F hu)))))))))
   (jJf (jQ2 PassesOwn.never rfl (jKn rfl T.n_range (jJb (jJx C_l_take (hr.mono (by decide)) (jJb (jJc 0) (jJb (e_op o_addF (jJc 1) jJl) jJd))) jJd)) (jJq (i:=8) nd) (jJf (jJ1 (i:=9) nd (jKd (jJb (jJx C_l_take (hr.mono (by decide)) (jJb (jJc 0) (jJb (jJc 1) jJd))) (jJb (jJx C_l_take (hr.mono (by decide)) (jJb (jJc 0) (jJb (e_op o_addF (jJc 1) jJl) jJd))) jJd))))
   (jJf (jJ1 (i:=10) nd (jU7 (mask:=[false,false,false,false,false,false,false,true,false,false,false,false]) rfl ⟨rfl,rfl,rfl,rfl,rfl,rfl,rfl⟩ (jUw (jJc 9)) jJ8 (fun C fp s H=>(jJq (i:=7) nd)) (fun C fp s H=>(if_one (jQo o_lt (jJc 7) (jJc 1) (jJu _)))) (fun C fp s H=>(jJc 7))))
   (jJn (s_if (t_val (jJr (c_all rfl) (by rfl) T.n_all rfl (jJb (jU7 (mask:=[false,false,false,false,false,false,false,true,false,false,false,false]) rfl ⟨rfl,rfl,rfl,rfl,rfl,rfl,rfl⟩ (jUw (jJc 10)) jJ8 (fun C fp s H=>(jJq (i:=7) nd)) (fun C fp s H=>jQ1) (fun C fp s H=>(kKt (o_leF hu) (e_op o_addF (e_ix (ix_F hu) (jJc 3) (jJc 7) (fun _ _=>rfl)) (e_bm PySem.F.plainAttrs_list PySem.F.slot_list_count PySem.F.type_list_count m_count (jJc 10) (jJb (jJc 7) jJd))) (jJc 2) (jJu _)))) jJd))) (jJf (jUi (e_bm PySem.F.plainAttrs_list PySem.F.slot_list_append PySem.F.type_list_append jK4 (jJc 4) (jJb (jJc 9) jJd)))
   (jJn (jQ2 PassesOwn.never rfl (jUw (jJc 10)) (jJq (i:=7) nd) (jJn (jXv (e_op o_addF (e_ix (ix_F hu) (jJc 3) (jJc 7) (fun _ _=>rfl)) jJl) (jZ6 (jJc 3) (jJc 7) (s_F hu))))))) jKx)))))
   (jJn (jKi (jJx C_l_doors_put (hr.mono (by decide)) (jJb (jJc 0) (jJb (jJc 4) (jJb (jJc 1) jJd))))))))))
noncomputable abbrev jX7:Stmt:=top 17
theorem sc_l_ring:FnScope ["_law_many","_law_room"] ["_law_many"] (jJi jX7):=⟨rfl,rfl,rfl,by decide +kernel,rfl,by decide +kernel,by decide +kernel⟩
theorem ok_l_ring (T:Txt mg) (F:Fun K "_law_ring" "_law_ring" jX7 f fd) 
  (h:∀xs G Q,jQ4 xs G Q->jY5 {nx:=fun _ G'=>Q .non G',rt:=Q} (jJm ["_law_many","_law_room"] xs) G):Fn3 P w K mg base 1 f fd ["_law_many"] jQ4:=by
 refine fn3 F sc_l_ring fun cdv A outer s H E hr=>⟨jY5,?_,h⟩
 have hu:=jQl hr
 have nd:=sc_l_ring.nd
 exact (jJn (jKi (jJ4 jQr (by rfl) T.n_tuple rfl (jJb (jU7 (mask:=[false,true]) rfl ⟨rfl,rfl,rfl,rfl,rfl,rfl,rfl⟩ (jKn rfl T.n_range (jJb (jJc 0) jJd)) jJ8 (fun C fp s H=>(jJq (i:=1) nd)) (fun C fp s H=>jQ1) (fun C fp s H=>(jKd (jJb (jKd (jJb (e_op jZc (e_op o_addF (jJc 1) jJl) (jJc 0)) (jJb jJl jJd))) (jJb (jKd (jJb (e_op jZc (e_op kQj (jJc 1) jJl) (jJc 0)) (jJb jJl jJd))) jJd))))) jJd))))
noncomputable abbrev jX9:Stmt:=top 18
theorem sc_l_ends:FnScope ["_law_web_here","_law_found","_law_room","_law_door"] ["_law_web_here"] (jJi jX9):=⟨rfl,rfl,rfl,by decide +kernel,rfl,by decide +kernel,by decide +kernel⟩
theorem ok_l_ends (T:Txt mg) (F:Fun K "_law_ends" "_law_ends" jX9 f fd) 
  (h:∀xs G Q,jQk xs G Q->jY7 {nx:=fun _ G'=>Q .non G',rt:=Q} (jJm ["_law_web_here","_law_found","_law_room","_law_door"] xs) G):Fn3 P w K mg base 1 f fd ["_law_web_here"] jQk:=by
 refine fn3 F sc_l_ends fun cdv A outer s H E hr=>⟨jY7,?_,h⟩
 have hu:=jQl hr
 have nd:=sc_l_ends.nd
 exact (jJf (jJ1 (i:=1) nd (jQf jJd))
   (jJf (jQ2 PassesOwn.never rfl (jKn rfl T.n_range (jJb (jJr jK2 (by rfl) T.n_len PySem.boot_len (jJb (jJc 0) jJd)) jJd)) (jJq (i:=2) nd) (jJn (jQ2 PassesOwn.never rfl (jKn rfl T.n_range (jJb (jJr jK2 (by rfl) T.n_len PySem.boot_len (jJb (e_ix (ix_F hu) (jJc 0) (jJc 2) (fun _ _=>rfl)) jJd)) jJd)) (jJq (i:=3) nd) (jJn (s_if (jQo (o_leF hu) (jKd (jJb (jJc 2) (jJb (jJc 3) jJd))) (e_ix (ix_F hu) (e_ix (ix_F hu) (jJc 0) (jJc 2) (fun _ _=>rfl)) (jJc 3) (fun _ _=>rfl)) (jJu _)) (jJn (jUi (e_bm PySem.F.plainAttrs_list PySem.F.slot_list_append PySem.F.type_list_append jK4 (jJc 1) (jJb (jKd (jJb (jKd (jJb (jJc 2) (jJb (jJc 3) jJd))) (jJb (e_ix (ix_F hu) (e_ix (ix_F hu) (jJc 0) (jJc 2) (fun _ _=>rfl)) (jJc 3) (fun _ _=>rfl)) jJd))) jJd)))) jKx)))))
   (jJn (jKi (jJc 1)))))
noncomputable abbrev jUr:Stmt:=top 19
theorem sc_l_reached:FnScope ["_law_web_here","_law_room","_law_found","_law_at","_law_other","_law_door"] ["_law_web_here","_law_room"] (jJi jUr):=⟨rfl,rfl,rfl,by decide +kernel,rfl,by decide +kernel,by decide +kernel⟩
theorem ok_l_reached (T:Txt mg) (F:Fun K "_law_reached" "_law_reached" jUr f fd) 
  (h:∀xs G Q,jKu xs G Q->jVq {nx:=fun _ G'=>Q .non G',rt:=Q} (jJm ["_law_web_here","_law_room","_law_found","_law_at","_law_other","_law_door"] xs) G):Fn3 P w K mg base 1 f fd ["_law_web_here","_law_room"] jKu:=by
 refine fn3 F sc_l_reached fun cdv A outer s H E hr=>⟨jVq,?_,h⟩
 have hu:=jQl hr
 have nd:=sc_l_reached.nd
 exact (jJf (jJ1 (i:=2) nd (jQf (jJb (jJc 1) jJd)))
   (jJf (jJ1 (i:=3) nd jJl)
   (jJf (s_while PassesOwn.never (jQo o_lt (jJc 3) (jJr jK2 (by rfl) T.n_len PySem.boot_len (jJb (jJc 2) jJd)) (jJu _)) (jJf (jQ2 PassesOwn.never rfl (jUw (e_ix (ix_F hu) (jJc 0) (e_ix (ix_F hu) (jJc 2) (jJc 3) (fun _ _=>rfl)) (fun _ _=>rfl))) (jVj rfl (jJv (jJq (i:=4) nd) (jJv (jJq (i:=5) nd) jQv))) (jJn (s_if (jQo (o_notInFu hu) (jJc 4) (jJc 2) (jJu _)) (jJn (jUi (e_bm PySem.F.plainAttrs_list PySem.F.slot_list_append PySem.F.type_list_append jK4 (jJc 2) (jJb (jJc 4) jJd)))) jKx)))
   (jJn (jJ1 (i:=3) nd (e_op o_addF (jJc 3) jJl)))))
   (jJn (jKi (jJc 2))))))
noncomputable abbrev jUp:Stmt:=top 20
theorem sc_l_sheeted:FnScope ["_law_web_here","_law_turns","_law_many","_law_made","_law_t","_law_one","_law_other","_law_k","_law_spot","_law_there","_law_n","_law_room"] ["_law_web_here","_law_turns","_law_many"] (jJi jUp):=⟨rfl,rfl,rfl,by decide +kernel,rfl,by decide +kernel,by decide +kernel⟩
theorem ok_l_sheeted (T:Txt mg) (F:Fun K "_law_sheeted" "_law_sheeted" jUp f fd) (C_l_ends:Cal P w K mg base 1 "_law_ends" ["_law_web_here"] jQk)
  (h:∀xs G Q,jKt xs G Q->jVo {nx:=fun _ G'=>Q .non G',rt:=Q} (jJm ["_law_web_here","_law_turns","_law_many","_law_made","_law_t","_law_one","_law_other","_law_k","_law_spot","_law_there","_law_n","_law_room"] xs) G):Fn3 P w K mg base 2 f fd ["_law_web_here","_law_turns","_law_many"] jKt:=by
 refine fn3 F sc_l_sheeted fun cdv A outer s H E hr=>⟨jVo,?_,h⟩
 have hu:=jQl hr
 have nd:=sc_l_sheeted.nd
 exact (jJf (jYp (i:=3) (mask:=[false,false,false,false,false,false,false,false,false,false,true,false]) rfl nd ⟨rfl,rfl,rfl,rfl,rfl,rfl,rfl⟩ (jKn rfl T.n_range (jJb (e_op jVi (jJc 2) (jJr jK2 (by rfl) T.n_len PySem.boot_len (jJb (jJc 0) jJd))) jJd)) jJ8 (fun C fp s H=>(jJq (i:=10) nd)) (fun C fp s H=>jQ1) (fun C fp s H=>(e_op jVi (jQf (jJb kJl jJd)) (jJr jK2 (by rfl) T.n_len PySem.boot_len (jJb (e_ix (ix_F hu) (jJc 0) (e_op jZc (jJc 10) (jJr jK2 (by rfl) T.n_len PySem.boot_len (jJb (jJc 0) jJd))) (fun _ _=>rfl)) jJd)))))
   (jJf (jQ2 PassesOwn.never rfl (kQ6 rfl T.n_enumerate rfl (jJb (jJx C_l_ends (hr.mono (by decide)) (jJb (jJc 0) jJd)) jJd)) (jVj rfl (jJv (jJq (i:=4) nd) (jJv (jVj rfl (jJv (jJq (i:=5) nd) (jJv (jJq (i:=6) nd) jQv))) jQv))) (jJn (jQ2 PassesOwn.never rfl (jKn rfl T.n_range (jJb (jJc 2) jJd)) (jJq (i:=7) nd) (jJf (jJ1 (i:=8) nd (e_op o_addF (e_ix (ix_F hu) (jJc 5) jJl (fun _ _=>rfl)) (e_op jVi (jJc 7) (jJr jK2 (by rfl) T.n_len PySem.boot_len (jJb (jJc 0) jJd)))))
   (jJf (jJ1 (i:=9) nd (e_op o_addF (e_ix (ix_F hu) (jJc 6) jJl (fun _ _=>rfl)) (e_op jVi (e_ix (ix_F hu) (e_ix (ix_F hu) (jJc 1) (jJc 4) (fun _ _=>rfl)) (jJc 7) (fun _ _=>rfl)) (jJr jK2 (by rfl) T.n_len PySem.boot_len (jJb (jJc 0) jJd)))))
   (jJf (jXv (jKd (jJb (jJc 9) (jJb (e_ix (ix_F hu) (jJc 6) jJl (fun _ _=>rfl)) jJd))) (jZ6 (e_ix (ix_F hu) (jJc 3) (jJc 8) (fun _ _=>rfl)) (e_ix (ix_F hu) (jJc 5) jJl (fun _ _=>rfl)) (s_F hu)))
   (jJn (jXv (jKd (jJb (jJc 8) (jJb (e_ix (ix_F hu) (jJc 5) jJl (fun _ _=>rfl)) jJd))) (jZ6 (e_ix (ix_F hu) (jJc 3) (jJc 9) (fun _ _=>rfl)) (e_ix (ix_F hu) (jJc 6) jJl (fun _ _=>rfl)) (s_F hu))))))))))
   (jJn (jKi (jJ4 jQr (by rfl) T.n_tuple rfl (jJb (jU7 (mask:=[false,false,false,false,false,false,false,false,false,false,false,true]) rfl ⟨rfl,rfl,rfl,rfl,rfl,rfl,rfl⟩ (jUw (jJc 3)) jJ8 (fun C fp s H=>(jJq (i:=11) nd)) (fun C fp s H=>jQ1) (fun C fp s H=>(jJ4 jQr (by rfl) T.n_tuple rfl (jJb (jJc 11) jJd)))) jJd))))))
noncomputable abbrev jX3:Stmt:=top 21
theorem sc_l_turn:FnScope ["_law_box_here","_law_many","_law_own","_law_order","_law_k","_law_turn_here","_law_one","_law_other"] ["_law_box_here","_law_many","_law_own"] (jJi jX3):=⟨rfl,rfl,rfl,by decide +kernel,rfl,by decide +kernel,by decide +kernel⟩
theorem ok_l_turn (T:Txt mg) (F:Fun K "_law_turn" "_law_turn" jX3 f fd) (C_l_take:Cal P w K mg base 1 "_law_take" ["_law_box_here","_law_many"] jJh)
  (h:∀xs G Q,jQi xs G Q->jY1 {nx:=fun _ G'=>Q .non G',rt:=Q} (jJm ["_law_box_here","_law_many","_law_own","_law_order","_law_k","_law_turn_here","_law_one","_law_other"] xs) G):Fn3 P w K mg base 2 f fd ["_law_box_here","_law_many","_law_own"] jQi:=by
 refine fn3 F sc_l_turn fun cdv A outer s H E hr=>⟨jY1,?_,h⟩
 have hu:=jQl hr
 have nd:=sc_l_turn.nd
 exact (jJf (jJ1 (i:=3) nd (jQf jJd))
   (jJf (jQ2 PassesOwn.never rfl (jKn rfl T.n_range (jJb (jJc 1) jJd)) (jJq (i:=4) nd) (jJn (jUi (e_bm PySem.F.plainAttrs_list PySem.F.slot_list_insert PySem.F.type_list_insert m_insert (jJc 3) (jJb (jJx C_l_take (hr.mono (by decide)) (jJb (jJc 0) (jJb (e_op o_addF (jJc 4) jJl) jJd))) (jJb (jJc 4) jJd))))))
   (jJf (s_if (t_not (t_tru tru_any (jJc 2))) (jJn (jKi (jJ4 jQr (by rfl) T.n_tuple rfl (jJb (jJc 3) jJd)))) jKx)
   (jJf (jJ1 (i:=5) nd (e_listRange rfl T.n_list rfl T.n_range rfl (jJb (jJc 1) jJd)))
   (jJf (jQ2 PassesOwn.never rfl (i_range3 rfl T.n_range (jJb jJl (jJb (e_op kQj (jJc 1) jJl) (jJb jJl jJd)))) (jJq (i:=4) nd) (jJf (s_par (i:=6) (j:=7) rfl nd (by decide) (jJb (e_ix (ix_F hu) (jJc 3) (jJc 4) (fun _ _=>rfl)) (jJb (e_ix (ix_F hu) (jJc 3) (e_op o_addF (jJc 4) jJl) (fun _ _=>rfl)) jJd)))
   (jJf (jXv (jJc 7) (jZ6 (jJc 5) (jJc 6) (s_F hu)))
   (jJn (jXv (jJc 6) (jZ6 (jJc 5) (jJc 7) (s_F hu)))))))
   (jJn (jKi (jJ4 jQr (by rfl) T.n_tuple rfl (jJb (jJc 5) jJd)))))))))
noncomputable abbrev jUs:Stmt:=top 22
theorem sc_l_covered:FnScope ["_law_box_here","_law_web_here","_law_many","_law_turn_here","_law_turns","_law_made","_law_pair"] ["_law_box_here","_law_web_here","_law_many"] (jJi jUs):=⟨rfl,rfl,rfl,by decide +kernel,rfl,by decide +kernel,by decide +kernel⟩
theorem ok_l_covered (T:Txt mg) (F:Fun K "_law_covered" "_law_covered" jUs f fd) (C_l_ends:Cal P w K mg base 1 "_law_ends" ["_law_web_here"] jQk) (C_l_turn:Cal P w K mg base 2 "_law_turn" ["_law_box_here","_law_many","_law_own"] jQi) (C_l_sheeted:Cal P w K mg base 2 "_law_sheeted" ["_law_web_here","_law_turns","_law_many"] jKt) (C_l_reached:Cal P w K mg base 1 "_law_reached" ["_law_web_here","_law_room"] jKu)
  (h:∀xs G Q,jJ9 xs G Q->jVr {nx:=fun _ G'=>Q .non G',rt:=Q} (jJm ["_law_box_here","_law_web_here","_law_many","_law_turn_here","_law_turns","_law_made","_law_pair"] xs) G):Fn3 P w K mg base 3 f fd ["_law_box_here","_law_web_here","_law_many"] jJ9:=by
 refine fn3 F sc_l_covered fun cdv A outer s H E hr=>⟨jVr,?_,h⟩
 have hu:=jQl hr
 have nd:=sc_l_covered.nd
 exact (jJf (jQ2 PassesOwn.never rfl (jKn rfl T.n_range (jJb jJl jJd)) (jJq (i:=3) nd) (jJf (jYp (i:=4) (mask:=[false,false,false,false,false,false,true]) rfl nd ⟨rfl,rfl,rfl,rfl,rfl,rfl,rfl⟩ (jUw (jJx C_l_ends (hr.mono (by decide)) (jJb (jJc 1) jJd))) jJ8 (fun C fp s H=>(jJq (i:=6) nd)) (fun C fp s H=>jQ1) (fun C fp s H=>(jJx C_l_turn (hr.mono (by decide)) (jJb (jJc 0) (jJb (jJc 2) (jJb (kKt (jZd hr.units) (e_ix (ix_F hu) (jJc 6) jJl (fun _ _=>rfl)) (e_ix (ix_F hu) (jJc 6) jJl (fun _ _=>rfl)) (jJu _)) jJd))))))
   (jJf (jJ1 (i:=5) nd (jJx C_l_sheeted (hr.mono (by decide)) (jJb (jJc 1) (jJb (jJc 4) (jJb (jJc 2) jJd)))))
   (jJn (s_if (jQo (jZd hr.units) (jJr jK2 (by rfl) T.n_len PySem.boot_len (jJb (jJx C_l_reached (hr.mono (by decide)) (jJb (jJc 5) (jJb jJl jJd))) jJd)) (jJr jK2 (by rfl) T.n_len PySem.boot_len (jJb (jJc 5) jJd)) (jJu _)) (jJn (jKi (jJc 5))) jKx)))))
   (jJn (jKi (jJc 1))))
noncomputable abbrev jUt:Stmt:=top 23
theorem sc_l_any_web:FnScope ["_law_box_here","_law_way_here","_law_base","_law_many"] ["_law_box_here"] (jJi jUt):=⟨rfl,rfl,rfl,by decide +kernel,rfl,by decide +kernel,by decide +kernel⟩
theorem ok_l_any_web (T:Txt mg) (F:Fun K "_law_any_web" "_law_any_web" jUt f fd) (C_l_take:Cal P w K mg base 1 "_law_take" ["_law_box_here","_law_many"] jJh) (C_l_web:Cal P w K mg base 3 "_law_web" ["_law_box_here","_law_many","_law_most"] jQ7) (C_l_ring:Cal P w K mg base 1 "_law_ring" ["_law_many"] jQ4) (C_l_covered:Cal P w K mg base 3 "_law_covered" ["_law_box_here","_law_web_here","_law_many"] jJ9)
  (h:∀xs G Q,jKa xs G Q->jVs {nx:=fun _ G'=>Q .non G',rt:=Q} (jJm ["_law_box_here","_law_way_here","_law_base","_law_many"] xs) G):Fn3 P w K mg base 4 f fd ["_law_box_here"] jKa:=by
 refine fn3 F sc_l_any_web fun cdv A outer s H E hr=>⟨jVs,?_,h⟩
 have hu:=jQl hr
 have nd:=sc_l_any_web.nd
 exact (jJf (jJ1 (i:=1) nd (jJx C_l_take (hr.mono (by decide)) (jJb (jJc 0) (jJb jJl jJd))))
   (jJf (s_if (jQo (jZd hr.units) (jJc 1) jJl (jJu _)) (jJn (jKi (jJx C_l_web (hr.mono (by decide)) (jJb (jJc 0) (jJb (e_op o_addF jJl (jJx C_l_take (hr.mono (by decide)) (jJb (jJc 0) (jJb jJl jJd)))) (jJb (e_op o_addF jJl (jJx C_l_take (hr.mono (by decide)) (jJb (jJc 0) (jJb jJl jJd)))) jJd)))))) jKx)
   (jJf (s_if (jQo o_lt (jJc 1) jJl (jJu _)) (jJn (jKi (jJx C_l_web (hr.mono (by decide)) (jJb (jJc 0) (jJb (e_op o_addF jJl (jJx C_l_take (hr.mono (by decide)) (jJb (jJc 0) (jJb jJl jJd)))) (jJb (e_op o_addF jJl (jJx C_l_take (hr.mono (by decide)) (jJb (jJc 0) (jJb jJl jJd)))) jJd)))))) jKx)
   (jJf (s_if (jQo (jZd hr.units) (jJc 1) jJl (jJu _)) (jJn (jKi (jJx C_l_ring (hr.mono (by decide)) (jJb (e_op o_addF jJl (jJx C_l_take (hr.mono (by decide)) (jJb (jJc 0) (jJb jJl jJd)))) jJd)))) jKx)
   (jJf (jJ1 (i:=2) nd (jJx C_l_web (hr.mono (by decide)) (jJb (jJc 0) (jJb (e_op o_addF jJl (jJx C_l_take (hr.mono (by decide)) (jJb (jJc 0) (jJb jJl jJd)))) (jJb (e_op o_addF jJl (jJx C_l_take (hr.mono (by decide)) (jJb (jJc 0) (jJb jJl jJd)))) jJd)))))
   (jJf (jJ1 (i:=3) nd (e_op o_addF jJl (jJx C_l_take (hr.mono (by decide)) (jJb (jJc 0) (jJb (e_ix (ix_F hu) (jQf (jJb jJl (jJb jJl (jJb jJl (jJb jJl jJd))))) (e_op kQj (jJr jK2 (by rfl) T.n_len PySem.boot_len (jJb (jJc 2) jJd)) jJl) (fun _ _=>rfl)) jJd)))))
   (jJn (jKi (jJx C_l_covered (hr.mono (by decide)) (jJb (jJc 0) (jJb (jJc 2) (jJb (jJc 3) jJd))))))))))))
noncomputable abbrev jUq:Stmt:=top 24
theorem sc_l_renamed:FnScope ["_law_box_here","_law_web_here","_law_numbers","_law_made","_law_room","_law_other","_law_door"] ["_law_box_here","_law_web_here"] (jJi jUq):=⟨rfl,rfl,rfl,by decide +kernel,rfl,by decide +kernel,by decide +kernel⟩
theorem ok_l_renamed (T:Txt mg) (F:Fun K "_law_renamed" "_law_renamed" jUq f fd) (C_l_turn:Cal P w K mg base 2 "_law_turn" ["_law_box_here","_law_many","_law_own"] jQi)
  (h:∀xs G Q,jKo xs G Q->jVp {nx:=fun _ G'=>Q .non G',rt:=Q} (jJm ["_law_box_here","_law_web_here","_law_numbers","_law_made","_law_room","_law_other","_law_door"] xs) G):Fn3 P w K mg base 3 f fd ["_law_box_here","_law_web_here"] jKo:=by
 refine fn3 F sc_l_renamed fun cdv A outer s H E hr=>⟨jVp,?_,h⟩
 have hu:=jQl hr
 have nd:=sc_l_renamed.nd
 exact (jJf (jJ1 (i:=2) nd (jJx C_l_turn (hr.mono (by decide)) (jJb (jJc 0) (jJb (jJr jK2 (by rfl) T.n_len PySem.boot_len (jJb (jJc 1) jJd)) (jJb e_bl jJd)))))
   (jJf (jJ1 (i:=3) nd (e_op jVi (jQf (jJb kJl jJd)) (jJr jK2 (by rfl) T.n_len PySem.boot_len (jJb (jJc 1) jJd))))
   (jJf (jQ2 PassesOwn.never rfl (jKn rfl T.n_range (jJb (jJr jK2 (by rfl) T.n_len PySem.boot_len (jJb (jJc 1) jJd)) jJd)) (jJq (i:=4) nd) (jJn (jXv (jJ4 jQr (by rfl) T.n_tuple rfl (jJb (jU7 (mask:=[false,false,false,false,false,true,true]) rfl ⟨rfl,rfl,rfl,rfl,rfl,rfl,rfl⟩ (jUw (e_ix (ix_F hu) (jJc 1) (jJc 4) (fun _ _=>rfl))) (kQ8 (jU5 jJ8 jQp (jU5 jJ8 jQp kQ9 jXs) (jZ5 jQp jXs))) (fun C fp s H=>(jVj rfl (jJv (jJq (i:=5) nd) (jJv (jJq (i:=6) nd) jQv)))) (fun C fp s H=>jQ1) (fun C fp s H=>(jKd (jJb (e_ix (ix_F hu) (jJc 2) (jJc 5) (fun _ _=>rfl)) (jJb (jJc 6) jJd))))) jJd)) (jZ6 (jJc 3) (e_ix (ix_F hu) (jJc 2) (jJc 4) (fun _ _=>rfl)) (s_F hu)))))
   (jJn (jKi (jKd (jJb (jJ4 jQr (by rfl) T.n_tuple rfl (jJb (jJc 3) jJd)) (jJb (jJc 2) jJd))))))))
noncomputable abbrev jZv:Stmt:=top 25
theorem sc_l_way:FnScope ["_law_box_here","_law_web_here","_law_room","_law_most","_law_way_here","_law_turn_here"] ["_law_box_here","_law_web_here","_law_room","_law_most"] (jJi jZv):=⟨rfl,rfl,rfl,by decide +kernel,rfl,by decide +kernel,by decide +kernel⟩
theorem ok_l_way (T:Txt mg) (F:Fun K "_law_way" "_law_way" jZv f fd) (C_l_take:Cal P w K mg base 1 "_law_take" ["_law_box_here","_law_many"] jJh)
  (h:∀xs G Q,jQw xs G Q->kJr {nx:=fun _ G'=>Q .non G',rt:=Q} (jJm ["_law_box_here","_law_web_here","_law_room","_law_most","_law_way_here","_law_turn_here"] xs) G):Fn3 P w K mg base 2 f fd ["_law_box_here","_law_web_here","_law_room","_law_most"] jQw:=by
 refine fn3 F sc_l_way fun cdv A outer s H E hr=>⟨kJr,?_,h⟩
 have hu:=jQl hr
 have nd:=sc_l_way.nd
 exact (jJf (jJ1 (i:=4) nd (jQf jJd))
   (jJf (jQ2 PassesOwn.never rfl (jKn rfl T.n_range (jJb (jJx C_l_take (hr.mono (by decide)) (jJb (jJc 0) (jJb (e_op o_addF (jJc 3) jJl) jJd))) jJd)) (jJq (i:=5) nd) (jJn (s_if (jQo o_gt (jJr jK2 (by rfl) T.n_len PySem.boot_len (jJb (e_ix (ix_F hu) (jJc 1) (jJc 2) (fun _ _=>rfl)) jJd)) jJl (jJu _)) (jJf (jUi (e_bm PySem.F.plainAttrs_list PySem.F.slot_list_append PySem.F.type_list_append jK4 (jJc 4) (jJb (jJx C_l_take (hr.mono (by decide)) (jJb (jJc 0) (jJb (jJr jK2 (by rfl) T.n_len PySem.boot_len (jJb (e_ix (ix_F hu) (jJc 1) (jJc 2) (fun _ _=>rfl)) jJd)) jJd))) jJd)))
   (jJn (jJ1 (i:=2) nd (e_ix (ix_F hu) (e_ix (ix_F hu) (e_ix (ix_F hu) (jJc 1) (jJc 2) (fun _ _=>rfl)) (e_ix (ix_F hu) (jJc 4) (e_un u_neg jJl) (fun _ _=>rfl)) (fun _ _=>rfl)) jJl (fun _ _=>rfl))))) jKx)))
   (jJn (jKi (jJ4 jQr (by rfl) T.n_tuple rfl (jJb (jJc 4) jJd))))))
noncomputable abbrev jX8:Stmt:=top 26
theorem sc_l_line:FnScope ["_law_many","_law_made","_law_room","_law_back","_law_on"] ["_law_many"] (jJi jX8):=⟨rfl,rfl,rfl,by decide +kernel,rfl,by decide +kernel,by decide +kernel⟩
theorem ok_l_line (T:Txt mg) (F:Fun K "_law_line" "_law_line" jX8 f fd) 
  (h:∀xs G Q,jQt xs G Q->jY6 {nx:=fun _ G'=>Q .non G',rt:=Q} (jJm ["_law_many","_law_made","_law_room","_law_back","_law_on"] xs) G):Fn3 P w K mg base 1 f fd ["_law_many"] jQt:=by
 refine fn3 F sc_l_line fun cdv A outer s H E hr=>⟨jY6,?_,h⟩
 have hu:=jQl hr
 have nd:=sc_l_line.nd
 exact (jJf (jJ1 (i:=1) nd (jQf jJd))
   (jJf (jQ2 PassesOwn.never rfl (jKn rfl T.n_range (jJb (jJc 0) jJd)) (jJq (i:=2) nd) (jJf (jJ1 (i:=3) nd (kKs (jQo o_gt (jJc 2) jJl (jJu _)) (jKd (jJb (e_op kQj (jJc 2) jJl) (jJb jJl jJd))) (jKd (jJb jJl (jJb jJl jJd)))))
   (jJf (jJ1 (i:=4) nd (kKs (jQo o_lt (jJc 2) (e_op kQj (jJc 0) jJl) (jJu _)) (jKd (jJb (e_op o_addF (jJc 2) jJl) (jJb jJl jJd))) (jKd (jJb (jJc 2) (jJb jJl jJd)))))
   (jJn (jUi (e_bm PySem.F.plainAttrs_list PySem.F.slot_list_append PySem.F.type_list_append jK4 (jJc 1) (jJb (jKd (jJb (jJc 3) (jJb (jJc 4) jJd))) jJd)))))))
   (jJn (jKi (jJ4 jQr (by rfl) T.n_tuple rfl (jJb (jJc 1) jJd))))))
noncomputable abbrev jQd:Stmt:=top 27
theorem sc_l_turned_line:FnScope ["_law_many","_law_turned","_law_made","_law_room","_law_doors","_law_row","_law_other","_law_door"] ["_law_many","_law_turned"] (jJi jQd):=⟨rfl,rfl,rfl,by decide +kernel,rfl,by decide +kernel,by decide +kernel⟩
theorem kJi (T:Txt mg) (F:Fun K "_law_turned_line" "_law_turned_line" jQd f fd) (C_l_line:Cal P w K mg base 1 "_law_line" ["_law_many"] jQt)
  (h:∀xs G Q,jJ0 xs G Q->jQ9 {nx:=fun _ G'=>Q .non G',rt:=Q} (jJm ["_law_many","_law_turned","_law_made","_law_room","_law_doors","_law_row","_law_other","_law_door"] xs) G):Fn3 P w K mg base 2 f fd ["_law_many","_law_turned"] jJ0:=by
 refine fn3 F sc_l_turned_line fun cdv A outer s H E hr=>⟨jQ9,?_,h⟩
 have hu:=jQl hr
 have nd:=sc_l_turned_line.nd
 exact (jJf (jJ1 (i:=2) nd (jQf jJd))
   (jJf (jQ2 PassesOwn.never rfl (i_enT rfl T.n_enumerate rfl (jJb (jJx C_l_line (hr.mono (by decide)) (jJb (jJc 0) jJd)) jJd)) (jVj rfl (jJv (jJq (i:=3) nd) (jJv (jJq (i:=4) nd) jQv))) (jJf (jYp (i:=5) (mask:=[false,false,false,false,false,false,true,true]) rfl nd ⟨rfl,rfl,rfl,rfl,rfl,rfl,rfl⟩ (jUw (jJc 4)) (kQ8 (jU5 jJ8 jQp (jU5 jJ8 jQp kQ9 jXs) (jZ5 jQp jXs))) (fun C fp s H=>(jVj rfl (jJv (jJq (i:=6) nd) (jJv (jJq (i:=7) nd) jQv)))) (fun C fp s H=>jQ1) (fun C fp s H=>(jKd (jJb (jJc 6) (jJb (e_ix (ix_F hu) (jQf (jJb (jJc 7) (jJb (e_op kQj jJl (jJc 7)) jJd))) (e_ix (ix_F hu) (jJc 1) (jJc 6) (fun _ _=>rfl)) (fun _ _=>rfl)) jJd)))))
   (jJn (jUi (e_bm PySem.F.plainAttrs_list PySem.F.slot_list_append PySem.F.type_list_append jK4 (jJc 2) (jJb (jJ4 jQr (by rfl) T.n_tuple rfl (jJb (e_ix (ix_F hu) (jQf (jJb (jJc 5) (jJb (e_revL (jJc 5) (jUn (e_un u_neg jJl))) jJd))) (e_ix (ix_F hu) (jJc 1) (jJc 3) (fun _ _=>rfl)) (fun _ _=>rfl)) jJd)) jJd))))))
   (jJn (jKi (jJ4 jQr (by rfl) T.n_tuple rfl (jJb (jJc 2) jJd))))))
noncomputable abbrev jV2:Stmt:=top 28
theorem sc_l_lines:FnScope ["_law_box_here","_law_turned","_law_start","_law_at","_law_sizes","_law_first","_law_aligned","_law_far","_law_found","_law_many","_law_room","_law_k"] ["_law_box_here"] (jJi jV2):=⟨rfl,rfl,rfl,by decide +kernel,rfl,by decide +kernel,by decide +kernel⟩
theorem ok_l_lines (T:Txt mg) (F:Fun K "_law_lines" "_law_lines" jV2 f fd) (C_l_take:Cal P w K mg base 1 "_law_take" ["_law_box_here","_law_many"] jJh) (C_l_turned_line:Cal P w K mg base 2 "_law_turned_line" ["_law_many","_law_turned"] jJ0)
  (h:∀xs G Q,jQa xs G Q->jYe {nx:=fun _ G'=>Q .non G',rt:=Q} (jJm ["_law_box_here","_law_turned","_law_start","_law_at","_law_sizes","_law_first","_law_aligned","_law_far","_law_found","_law_many","_law_room","_law_k"] xs) G):Fn3 P w K mg base 3 f fd ["_law_box_here"] jQa:=by
 refine fn3 F sc_l_lines fun cdv A outer s H E hr=>⟨jYe,?_,h⟩
 have hu:=jQl hr
 have nd:=sc_l_lines.nd
 exact (jJf (jYp (i:=1) (mask:=[false,false,false,false,false,false,false,false,false,false,true,false]) rfl nd ⟨rfl,rfl,rfl,rfl,rfl,rfl,rfl⟩ (jKn rfl T.n_range (jJb jJl jJd)) jJ8 (fun C fp s H=>(jJq (i:=10) nd)) (fun C fp s H=>jQ1) (fun C fp s H=>(jJ4 c_int (by rfl) T.n_int rfl (jJb (kKt (jZd hr.units) (jJx C_l_take (hr.mono (by decide)) (jJb (jJc 0) (jJb jJl jJd))) jJl (jJu _)) jJd))))
   (jJf (jXv (jKd (jJb (jJx C_l_take (hr.mono (by decide)) (jJb (jJc 0) (jJb jJl jJd))) (jJb (jJx C_l_take (hr.mono (by decide)) (jJb (jJc 0) (jJb jJl jJd))) jJd))) (jVj rfl (jJv (jJq (i:=2) nd) (jJv (jJq (i:=3) nd) jQv))))
   (jJf (s_if (jQo (jZd hr.units) (jJx C_l_take (hr.mono (by decide)) (jJb (jJc 0) (jJb jJl jJd))) jJl (jJu _)) (jJn (jYp (i:=1) (mask:=[false,false,false,false,false,false,false,false,false,false,true,false]) rfl nd ⟨rfl,rfl,rfl,rfl,rfl,rfl,rfl⟩ (jKn rfl T.n_range (jJb jJl jJd)) jJ8 (fun C fp s H=>(jJq (i:=10) nd)) (fun C fp s H=>jQ1) (fun C fp s H=>(e_op jZc (e_op o_addF (e_op o_addF (jJc 10) (jJc 2)) (jJ4 c_int (by rfl) T.n_int rfl (jJb (kKt o_ge (jJc 10) (jJc 3) (jJu _)) jJd))) jJl)))) jKx)
   (jJf (jYp (i:=4) (mask:=[false,false,false,false,false,false,false,false,false,false,false,true]) rfl nd ⟨rfl,rfl,rfl,rfl,rfl,rfl,rfl⟩ (jKn rfl T.n_range (jJb jJl jJd)) jJ8 (fun C fp s H=>(jJq (i:=11) nd)) (fun C fp s H=>jQ1) (fun C fp s H=>(e_op o_addF jJl (jJx C_l_take (hr.mono (by decide)) (jJb (jJc 0) (jJb jJl jJd))))))
   (jJf (s_par3 (i:=5) (j:=6) (k:=7) rfl nd (by decide) (by decide) (by decide) (jJb (jJx C_l_take (hr.mono (by decide)) (jJb (jJc 0) (jJb jJl jJd))) (jJb (jJx C_l_take (hr.mono (by decide)) (jJb (jJc 0) (jJb jJl jJd))) (jJb (jJx C_l_take (hr.mono (by decide)) (jJb (jJc 0) (jJb (jJr (c_minL rfl) (by rfl) T.n_min rfl (jJb (jJc 4) jJd)) jJd))) jJd))))
   (jJf (jJ1 (i:=8) nd (jQf jJd))
   (jJf (jQ2 PassesOwn.never rfl (jUw (jJc 4)) (jJq (i:=9) nd) (jJf (jUi (e_bm PySem.F.plainAttrs_list PySem.F.slot_list_append PySem.F.type_list_append jK4 (jJc 8) (jJb (jJx C_l_turned_line (hr.mono (by decide)) (jJb (jJc 9) (jJb (e_ix (ix_F hu) (jQf (jJb (jUb sl_F (jJc 1) (jUn (e_op kQj jJl (jJc 9))) jV5) (jJb (jUb sl_F (jJc 1) jV5 (jUn (jJc 9))) jJd))) (jJc 5) (fun _ _=>rfl)) jJd))) jJd)))
   (jJn (jUi (e_bm PySem.F.plainAttrs_list PySem.F.slot_list_append PySem.F.type_list_append jK4 (jJc 8) (jJb (e_ix (ix_F hu) (jQf (jJb (jJx C_l_take (hr.mono (by decide)) (jJb (jJc 0) (jJb (jJc 9) jJd))) (jJb (e_ix (ix_F hu) (jQf (jJb (e_op kQj (e_op kQj (jJc 9) jJl) (jJc 7)) (jJb (jJc 7) jJd))) (jJc 5) (fun _ _=>rfl)) jJd))) (jJc 6) (fun _ _=>rfl)) jJd))))))
   (jJn (jKi (jJ4 jQr (by rfl) T.n_tuple rfl (jJb (jJc 8) jJd)))))))))))
noncomputable abbrev jZw:Stmt:=top 29
theorem sc_l_two:FnScope ["_law_box_here","_law_way_here","_law_one","_law_other","_law_found"] ["_law_box_here"] (jJi jZw):=⟨rfl,rfl,rfl,by decide +kernel,rfl,by decide +kernel,by decide +kernel⟩
theorem ok_l_two (T:Txt mg) (F:Fun K "_law_two" "_law_two" jZw f fd) (C_l_take:Cal P w K mg base 1 "_law_take" ["_law_box_here","_law_many"] jJh) (C_l_any_web:Cal P w K mg base 4 "_law_any_web" ["_law_box_here"] jKa) (C_l_renamed:Cal P w K mg base 3 "_law_renamed" ["_law_box_here","_law_web_here"] jKo) (C_l_covered:Cal P w K mg base 3 "_law_covered" ["_law_box_here","_law_web_here","_law_many"] jJ9) (C_l_lines:Cal P w K mg base 3 "_law_lines" ["_law_box_here"] jQa)
  (h:∀xs G Q,jUg xs G Q->kJs {nx:=fun _ G'=>Q .non G',rt:=Q} (jJm ["_law_box_here","_law_way_here","_law_one","_law_other","_law_found"] xs) G):Fn3 P w K mg base 5 f fd ["_law_box_here"] jUg:=by
 refine fn3 F sc_l_two fun cdv A outer s H E hr=>⟨kJs,?_,h⟩
 have hu:=jQl hr
 have nd:=sc_l_two.nd
 exact (jJf (jJ1 (i:=1) nd (jJx C_l_take (hr.mono (by decide)) (jJb (jJc 0) (jJb jJl jJd))))
   (jJf (jJ1 (i:=2) nd (jJx C_l_any_web (hr.mono (by decide)) (jJb (jJc 0) jJd)))
   (jJf (jJ1 (i:=3) nd (jJc 2))
   (jJf (s_if (jQo (jZd hr.units) (jJc 1) jJl (jJu _)) (jJn (jJ1 (i:=3) nd (jJx C_l_any_web (hr.mono (by decide)) (jJb (jJc 0) jJd)))) jKx)
   (jJf (s_if (jQo (jZd hr.units) (jJc 1) jJl (jJu _)) (jJn (jJ1 (i:=3) nd (e_ix (ix_F hu) (jJx C_l_renamed (hr.mono (by decide)) (jJb (jJc 0) (jJb (jJc 2) jJd))) jJl (fun _ _=>rfl)))) jKx)
   (jJf (s_if (PW3.pt (w_and (jQo (jZd hr.units) (jJc 1) jJl (jJu _)) (w_and1 (jQo o_lt (jJr jK2 (by rfl) T.n_len PySem.boot_len (jJb (jJc 2) jJd)) jJl (jJu _))))) (jJn (jJ1 (i:=3) nd (jJx C_l_covered (hr.mono (by decide)) (jJb (jJc 0) (jJb (jJc 2) (jJb (e_op o_addF jJl (jJx C_l_take (hr.mono (by decide)) (jJb (jJc 0) (jJb jJl jJd)))) jJd)))))) jKx)
   (jJf (s_if (jQo (jZd hr.units) (jJc 1) jJl (jJu _)) (jJf (jJ1 (i:=4) nd (jJx C_l_lines (hr.mono (by decide)) (jJb (jJc 0) jJd)))
   (jJf (s_if (jQo o_gt (jJx C_l_take (hr.mono (by decide)) (jJb (jJc 0) (jJb jJl jJd))) jJl (jJu _)) (jJn (jKi (jJc 4))) jKx)
   (jJn (s_par (i:=2) (j:=3) rfl nd (by decide) (jJb (e_ix (ix_F hu) (jJc 4) jJl (fun _ _=>rfl)) (jJb (e_ix (ix_F hu) (jJc 4) jJl (fun _ _=>rfl)) jJd)))))) jKx)
   (jJn (jKi (jKd (jJb (jJc 2) (jJb (jJx C_l_take (hr.mono (by decide)) (jJb (jJc 0) (jJb (jJr jK2 (by rfl) T.n_len PySem.boot_len (jJb (jJc 2) jJd)) jJd))) (jJb (jJc 3) (jJb (jJx C_l_take (hr.mono (by decide)) (jJb (jJc 0) (jJb (jJr jK2 (by rfl) T.n_len PySem.boot_len (jJb (jJc 3) jJd)) jJd))) jJd))))))))))))))
noncomputable abbrev jYa:Stmt:=top 30
theorem sc_l_both:FnScope ["_law_one","_law_other","_law_doors","_law_room","_law_door"] ["_law_one","_law_other"] (jJi jYa):=⟨rfl,rfl,rfl,by decide +kernel,rfl,by decide +kernel,by decide +kernel⟩
theorem ok_l_both (T:Txt mg) (F:Fun K "_law_both" "_law_both" jYa f fd) 
  (h:∀xs G Q,jQu xs G Q->jY8 {nx:=fun _ G'=>Q .non G',rt:=Q} (jJm ["_law_one","_law_other","_law_doors","_law_room","_law_door"] xs) G):Fn3 P w K mg base 1 f fd ["_law_one","_law_other"] jQu:=by
 refine fn3 F sc_l_both fun cdv A outer s H E hr=>⟨jY8,?_,h⟩
 have hu:=jQl hr
 have nd:=sc_l_both.nd
 exact (jJn (jKi (e_op o_addF (jJ4 kKz (by rfl) T.n_list rfl (jJb (jJc 0) jJd)) (jU7 (mask:=[false,false,true,false,false]) rfl ⟨rfl,rfl,rfl,rfl,rfl,rfl,rfl⟩ (jUw (jJc 1)) jJ8 (fun C fp s H=>(jJq (i:=2) nd)) (fun C fp s H=>jQ1) (fun C fp s H=>(jJ4 jQr (by rfl) T.n_tuple rfl (jJb (jU7 (mask:=[false,false,false,true,true]) rfl ⟨rfl,rfl,rfl,rfl,rfl,rfl,rfl⟩ (jUw (jJc 2)) (kQ8 (jU5 jJ8 jQp (jU5 jJ8 jQp kQ9 jXs) (jZ5 jQp jXs))) (fun C fp s H=>(jVj rfl (jJv (jJq (i:=3) nd) (jJv (jJq (i:=4) nd) jQv)))) (fun C fp s H=>jQ1) (fun C fp s H=>(jKd (jJb (e_op o_addF (jJc 3) (jJr jK2 (by rfl) T.n_len PySem.boot_len (jJb (jJc 0) jJd))) (jJb (jJc 4) jJd))))) jJd)))))))
noncomputable abbrev jVb:Stmt:=top 31
theorem sc_l_rounds:FnScope ["_law_both_here","_law_marked","_law_many","_law_looks","_law_found","_law_turn_here","_law_some","_law_look","_law_row","_law_room","_law_doors","_law_end","_law_door"] ["_law_both_here","_law_marked","_law_many"] (jJi jVb):=⟨rfl,rfl,rfl,by decide +kernel,rfl,by decide +kernel,by decide +kernel⟩
theorem ok_l_rounds (T:Txt mg) (F:Fun K "_law_rounds" "_law_rounds" jVb f fd) 
  (h:∀xs G Q,jKz xs G Q->jXi {nx:=fun _ G'=>Q .non G',rt:=Q} (jJm ["_law_both_here","_law_marked","_law_many","_law_looks","_law_found","_law_turn_here","_law_some","_law_look","_law_row","_law_room","_law_doors","_law_end","_law_door"] xs) G):Fn3 P w K mg base 1 f fd ["_law_both_here","_law_marked","_law_many"] jKz:=by
 refine fn3 F sc_l_rounds fun cdv A outer s H E hr=>⟨jXi,?_,h⟩
 have hu:=jQl hr
 have nd:=sc_l_rounds.nd
 exact (jJf (jYp (i:=3) (mask:=[false,false,false,false,false,false,false,false,false,true,true,false,false]) rfl nd ⟨rfl,rfl,rfl,rfl,rfl,rfl,rfl⟩ (kQ6 rfl T.n_enumerate rfl (jJb (jJc 0) jJd)) (kQ8 (jU5 jJ8 jQp (jU5 jJ8 jQp kQ9 jXs) (jZ5 jQp jXs))) (fun C fp s H=>(jVj rfl (jJv (jJq (i:=9) nd) (jJv (jJq (i:=10) nd) jQv)))) (fun C fp s H=>jQ1) (fun C fp s H=>(jKd (jJb (jJr c_lenD (by rfl) T.n_len PySem.boot_len (jJb (jJc 10) jJd)) (jJb (jJ4 c_int (by rfl) T.n_int rfl (jJb (kKt (o_inFu hu) (jJc 9) (jJc 1) (jJu _)) jJd)) jJd)))))
   (jJf (jJ1 (i:=4) nd (jQf jJd))
   (jJf (jQ2 PassesOwn.never rfl (jKn rfl T.n_range (jJb (e_op o_addF (jJc 2) jJl) jJd)) (jJq (i:=5) nd) (jJf (jJ1 (i:=6) nd e_dct)
   (jJf (jQ2 PassesOwn.never rfl (jUw (jJc 3)) (jJq (i:=7) nd) (jJn (jUi (e_bm PySem.F.plainAttrs_dict PySem.F.slot_dict_setdefault PySem.F.type_dict_setdefault (m_setdef hu) (jJc 6) (jJb (jJc 7) (jJb (jJr c_lenD (by rfl) T.n_len PySem.boot_len (jJb (jJc 6) jJd)) jJd))))))
   (jJf (jJ1 (i:=8) nd (jU7 (mask:=[false,false,false,false,false,false,false,true,false,false,false,false,false]) rfl ⟨rfl,rfl,rfl,rfl,rfl,rfl,rfl⟩ (jUw (jJc 3)) jJ8 (fun C fp s H=>(jJq (i:=7) nd)) (fun C fp s H=>jQ1) (fun C fp s H=>(e_ix (ix_F hu) (jJc 6) (jJc 7) (fun _ _=>rfl)))))
   (jJf (jUi (e_bm PySem.F.plainAttrs_list PySem.F.slot_list_append PySem.F.type_list_append jK4 (jJc 4) (jJb (jJc 8) jJd)))
   (jJf (jJ1 (i:=3) nd (jQf jJd))
   (jJn (jQ2 PassesOwn.never rfl (kQ6 rfl T.n_enumerate rfl (jJb (jJc 0) jJd)) (jVj rfl (jJv (jJq (i:=9) nd) (jJv (jJq (i:=10) nd) jQv))) (jJn (jUi (e_bm PySem.F.plainAttrs_list PySem.F.slot_list_append PySem.F.type_list_append jK4 (jJc 3) (jJb (jKd (jJb (e_ix (ix_F hu) (jJc 8) (jJc 9) (fun _ _=>rfl)) (jJb (jJ4 jQr (by rfl) T.n_tuple rfl (jJb (jU7 (mask:=[false,false,false,false,false,false,false,false,false,false,false,true,true]) rfl ⟨rfl,rfl,rfl,rfl,rfl,rfl,rfl⟩ (jUw (jJc 10)) (kQ8 (jU5 jJ8 jQp (jU5 jJ8 jQp kQ9 jXs) (jZ5 jQp jXs))) (fun C fp s H=>(jVj rfl (jJv (jJq (i:=11) nd) (jJv (jJq (i:=12) nd) jQv)))) (fun C fp s H=>jQ1) (fun C fp s H=>(jKd (jJb (jJc 12) (jJb (e_ix (ix_F hu) (jJc 8) (jJc 11) (fun _ _=>rfl)) jJd))))) jJd)) jJd))) jJd))))))))))))
   (jJn (jKi (jJc 4))))))
noncomputable abbrev jV3:Stmt:=top 32
theorem sc_l_least:FnScope ["_law_both_here","_law_rounds_here","_law_r","_law_s","_law_unlike","_law_way_here","_law_turn_here","_law_ahead","_law_looks","_law_door","_law_room","_law_end","_law_place"] ["_law_both_here","_law_rounds_here","_law_r","_law_s"] (jJi jV3):=⟨rfl,rfl,rfl,by decide +kernel,rfl,by decide +kernel,by decide +kernel⟩
theorem ok_l_least (T:Txt mg) (F:Fun K "_law_least" "_law_least" jV3 f fd) 
  (h:∀xs G Q,jQb xs G Q->jYf {nx:=fun _ G'=>Q .non G',rt:=Q} (jJm ["_law_both_here","_law_rounds_here","_law_r","_law_s","_law_unlike","_law_way_here","_law_turn_here","_law_ahead","_law_looks","_law_door","_law_room","_law_end","_law_place"] xs) G):Fn3 P w K mg base 1 f fd ["_law_both_here","_law_rounds_here","_law_r","_law_s"] jQb:=by
 refine fn3 F sc_l_least fun cdv A outer s H E hr=>⟨jYf,?_,h⟩
 have hu:=jQl hr
 have nd:=sc_l_least.nd
 exact (jJf (jYp (i:=4) (mask:=[false,false,false,false,false,false,true,false,false,false,false,false,false]) rfl nd ⟨rfl,rfl,rfl,rfl,rfl,rfl,rfl⟩ (jKn rfl T.n_range (jJb (jJr jK2 (by rfl) T.n_len PySem.boot_len (jJb (jJc 1) jJd)) jJd)) jJ8 (fun C fp s H=>(jJq (i:=6) nd)) (fun C fp s H=>(if_one (jQo (o_neA hr.units) (e_ix (ix_F hu) (e_ix (ix_F hu) (jJc 1) (jJc 6) (fun _ _=>rfl)) (jJc 2) (fun _ _=>rfl)) (e_ix (ix_F hu) (e_ix (ix_F hu) (jJc 1) (jJc 6) (fun _ _=>rfl)) (jJc 3) (fun _ _=>rfl)) (jJu _)))) (fun C fp s H=>(jJc 6)))
   (jJf (s_if (jQo (jZd hr.units) (jJc 4) (jQf jJd) (jJu _)) (jJn (jKi kJl)) jKx)
   (jJf (jJ1 (i:=5) nd (jKd jJd))
   (jJf (jQ2 PassesOwn.never rfl (i_range3 rfl T.n_range (jJb (e_ix (ix_F hu) (jJc 4) jJl (fun _ _=>rfl)) (jJb jJl (jJb (e_un u_neg jJl) jJd)))) (jJq (i:=6) nd) (jJf (jJ1 (i:=7) nd (e_ix (ix_F hu) (jJc 1) (e_op kQj (jJc 6) jJl) (fun _ _=>rfl)))
   (jJf (jJ1 (i:=8) nd (jU7 (mask:=[false,false,false,false,false,false,false,false,false,false,true,false,false]) rfl ⟨rfl,rfl,rfl,rfl,rfl,rfl,rfl⟩ (jUw (jKd (jJb (jJc 2) (jJb (jJc 3) jJd)))) jJ8 (fun C fp s H=>(jJq (i:=10) nd)) (fun C fp s H=>jQ1) (fun C fp s H=>(jU7 (mask:=[false,false,false,false,false,false,false,false,false,false,false,true,false]) rfl ⟨rfl,rfl,rfl,rfl,rfl,rfl,rfl⟩ (jUw (e_ix (ix_F hu) (jJc 0) (jJc 10) (fun _ _=>rfl))) jJ8 (fun C fp s H=>(jJq (i:=11) nd)) (fun C fp s H=>jQ1) (fun C fp s H=>(jKd (jJb (e_ix (ix_F hu) (jJc 11) jJl (fun _ _=>rfl)) (jJb (e_ix (ix_F hu) (jJc 7) (e_ix (ix_F hu) (jJc 11) jJl (fun _ _=>rfl)) (fun _ _=>rfl)) jJd))))))))
   (jJf (jJ1 (i:=9) nd (e_ix (ix_F hu) (jU7 (mask:=[false,false,false,false,false,false,false,false,false,false,false,false,true]) rfl ⟨rfl,rfl,rfl,rfl,rfl,rfl,rfl⟩ (jKn rfl T.n_range (jJb (jJr jK2 (by rfl) T.n_len PySem.boot_len (jJb (e_ix (ix_F hu) (jJc 0) (jJc 2) (fun _ _=>rfl)) jJd)) jJd)) jJ8 (fun C fp s H=>(jJq (i:=12) nd)) (fun C fp s H=>(if_one (jQo (o_neA hr.units) (e_ix (ix_F hu) (e_ix (ix_F hu) (jJc 8) jJl (fun _ _=>rfl)) (jJc 12) (fun _ _=>rfl)) (e_ix (ix_F hu) (e_ix (ix_F hu) (jJc 8) jJl (fun _ _=>rfl)) (jJc 12) (fun _ _=>rfl)) (jJu _)))) (fun C fp s H=>(jJc 12))) jJl (fun _ _=>rfl)))
   (jJf (jJ1 (i:=5) nd (e_op jUe (jJc 5) (jKd (jJb (jJc 9) jJd))))
   (jJn (jXv (jKd (jJb (e_ix (ix_F hu) (e_ix (ix_F hu) (e_ix (ix_F hu) (jJc 0) (jJc 2) (fun _ _=>rfl)) (jJc 9) (fun _ _=>rfl)) jJl (fun _ _=>rfl)) (jJb (e_ix (ix_F hu) (e_ix (ix_F hu) (e_ix (ix_F hu) (jJc 0) (jJc 3) (fun _ _=>rfl)) (jJc 9) (fun _ _=>rfl)) jJl (fun _ _=>rfl)) jJd))) (jVj rfl (jJv (jJq (i:=2) nd) (jJv (jJq (i:=3) nd) jQv))))))))))
   (jJn (jKi (jJc 5)))))))
noncomputable abbrev jX6:Stmt:=top 33
theorem sc_l_says:FnScope ["_law_found","_law_due"] ["_law_found","_law_due"] (jJi jX6):=⟨rfl,rfl,rfl,by decide +kernel,rfl,by decide +kernel,by decide +kernel⟩
theorem ok_l_says (T:Txt mg) (F:Fun K "_law_says" "_law_says" jX6 f fd) 
  (h:∀xs G Q,jQj xs G Q->jY4 {nx:=fun _ G'=>Q .non G',rt:=Q} (jJm ["_law_found","_law_due"] xs) G):Fn3 P w K mg base 1 f fd ["_law_found","_law_due"] jQj:=by
 refine fn3 F sc_l_says fun cdv A outer s H E hr=>⟨jY4,?_,h⟩
 have hu:=jQl hr
 have nd:=sc_l_says.nd
 exact (jJn (jKi (e_and (jJr c_isi (by rfl) T.n_isinstance rfl (jJb (jJc 0) (jJb (e_ty rfl T.n_bool rfl) jJd))) (e_one (kKt (jZd hr.units) (jJc 0) (jJc 1) (jJu _))))))
noncomputable abbrev jX5:Stmt:=top 34
theorem sc_l_seen:FnScope ["_law_web_here","_law_room","_law_way_here","_law_told","_law_door","_law_came"] ["_law_web_here","_law_room","_law_way_here"] (jJi jX5):=⟨rfl,rfl,rfl,by decide +kernel,rfl,by decide +kernel,by decide +kernel⟩
theorem ok_l_seen (T:Txt mg) (F:Fun K "_law_seen" "_law_seen" jX5 f fd) 
  (h:∀xs G Q,jQs xs G Q->jY3 {nx:=fun _ G'=>Q .non G',rt:=Q} (jJm ["_law_web_here","_law_room","_law_way_here","_law_told","_law_door","_law_came"] xs) G):Fn3 P w K mg base 1 f fd ["_law_web_here","_law_room","_law_way_here"] jQs:=by
 refine fn3 F sc_l_seen fun cdv A outer s H E hr=>⟨jY3,?_,h⟩
 have hu:=jQl hr
 have nd:=sc_l_seen.nd
 exact (jJf (jJ1 (i:=3) nd (jQf (jJb (jJr jK2 (by rfl) T.n_len PySem.boot_len (jJb (e_ix (ix_F hu) (jJc 0) (jJc 1) (fun _ _=>rfl)) jJd)) jJd)))
   (jJf (jQ2 PassesOwn.never rfl (jUw (jJc 2)) (jJq (i:=4) nd) (jJf (s_if (jQo o_ge (jJc 4) (jJr jK2 (by rfl) T.n_len PySem.boot_len (jJb (e_ix (ix_F hu) (jJc 0) (jJc 1) (fun _ _=>rfl)) jJd)) (jJu _)) (jJn (jKi kJl)) jKx)
   (jJf (jXv (e_ix (ix_F hu) (e_ix (ix_F hu) (jJc 0) (jJc 1) (fun _ _=>rfl)) (jJc 4) (fun _ _=>rfl)) (jVj rfl (jJv (jJq (i:=1) nd) (jJv (jJq (i:=5) nd) jQv))))
   (jJn (jUi (e_bm PySem.F.plainAttrs_list PySem.F.slot_list_append PySem.F.type_list_append jK4 (jJc 3) (jJb (jKd (jJb (jJc 5) (jJb (jJr jK2 (by rfl) T.n_len PySem.boot_len (jJb (e_ix (ix_F hu) (jJc 0) (jJc 1) (fun _ _=>rfl)) jJd)) jJd))) jJd)))))))
   (jJn (jKi (jJ4 jQr (by rfl) T.n_tuple rfl (jJb (jJc 3) jJd))))))
noncomputable abbrev jZx:Stmt:=top 35
theorem sc_l_odd:FnScope ["_law_box_here","_law_some"] ["_law_box_here"] (jJi jZx):=⟨rfl,rfl,rfl,by decide +kernel,rfl,by decide +kernel,by decide +kernel⟩
theorem ok_l_odd (T:Txt mg) (F:Fun K "_law_odd" "_law_odd" jZx f fd) (C_l_take:Cal P w K mg base 1 "_law_take" ["_law_box_here","_law_many"] jJh)
  (h:∀xs G Q,jKc xs G Q->kJt {nx:=fun _ G'=>Q .non G',rt:=Q} (jJm ["_law_box_here","_law_some"] xs) G):Fn3 P w K mg base 2 f fd ["_law_box_here"] jKc:=by
 refine fn3 F sc_l_odd fun cdv A outer s H E hr=>⟨kJt,?_,h⟩
 have hu:=jQl hr
 have nd:=sc_l_odd.nd
 exact PSsi.out (ssi_cons (si_set (i:=1) nd (kKr (jJ6 ei_non (jJ6 ei_bl (jJ6 ei_bl (jJ6 jZn (jJ6 jZn (jJ6 (ei_neg jZn) (jJ6 ei_str (jJ6 ei_str (jJ6 ei_str (jJ6 (kJd jVk) (jJ6 (kKr jVk) (jJ6 (kJd (jJ6 ei_bl jVk)) (jJ6 (kKr (jJ6 ei_bl jVk)) (jJ6 (kJd (jJ6 (ei_neg jZn) jVk)) (jJ6 (kJd (jJ6 ei_non jVk)) (jJ6 (kJd (jJ6 ei_str jVk)) (jJ6 (kJd (jJ6 (kJd (jJ6 jZn jVk)) jVk)) jVk)))))))))))))))))))
   (ssi_one (si_ret ⟨(e_ix (ix_F hu) (PEi.out (ei_op o_addF ⟨jJc 1⟩ (kKr (jJ6 (kKr (jJ6 (kKr jVk) jVk)) (jJ6 (kJd (jJ6 jZn (jJ6 ei_bl jVk))) (jJ6 (kKr (jJ6 jZn (jJ6 ei_non jVk))) (jJ6 (ei_op o_pow jZn jZn) jVk))))))) (jJx C_l_take (hr.mono (by decide)) (jJb (jJc 0) (jJb jJl jJd))) (fun _ _=>rfl))⟩)))
noncomputable abbrev jUu:Stmt:=top 36
theorem sc_l_any_way:FnScope ["_law_box_here","_law_web_here","_law_room","_law_way_here","_law_at"] ["_law_box_here","_law_web_here","_law_room"] (jJi jUu):=⟨rfl,rfl,rfl,by decide +kernel,rfl,by decide +kernel,by decide +kernel⟩
theorem ok_l_any_way (T:Txt mg) (F:Fun K "_law_any_way" "_law_any_way" jUu f fd) (C_l_way:Cal P w K mg base 2 "_law_way" ["_law_box_here","_law_web_here","_law_room","_law_most"] jQw) (C_l_take:Cal P w K mg base 1 "_law_take" ["_law_box_here","_law_many"] jJh)
  (h:∀xs G Q,jJ7 xs G Q->jVt {nx:=fun _ G'=>Q .non G',rt:=Q} (jJm ["_law_box_here","_law_web_here","_law_room","_law_way_here","_law_at"] xs) G):Fn3 P w K mg base 3 f fd ["_law_box_here","_law_web_here","_law_room"] jJ7:=by
 refine fn3 F sc_l_any_way fun cdv A outer s H E hr=>⟨jVt,?_,h⟩
 have hu:=jQl hr
 have nd:=sc_l_any_way.nd
 exact (jJf (jJ1 (i:=3) nd (jJx C_l_way (hr.mono (by decide)) (jJb (jJc 0) (jJb (jJc 1) (jJb (jJc 2) (jJb (e_ix (ix_F hu) (jQf (jJb jJl (jJb jJl (jJb jJl jJd)))) (jJx C_l_take (hr.mono (by decide)) (jJb (jJc 0) (jJb jJl jJd))) (fun _ _=>rfl)) jJd))))))
   (jJf (s_if (jQo o_gt (jJx C_l_take (hr.mono (by decide)) (jJb (jJc 0) (jJb jJl jJd))) jJl (jJu _)) (jJn (jKi (jJc 3))) jKx)
   (jJf (jJ1 (i:=4) nd (jJx C_l_take (hr.mono (by decide)) (jJb (jJc 0) (jJb (e_op jUe (jJr (c_min2 rfl) (by rfl) T.n_min rfl (jJb (jJr jK2 (by rfl) T.n_len PySem.boot_len (jJb (jJc 3) jJd)) (jJb jJl jJd))) jJl) jJd))))
   (jJn (jKi (e_op jUe (e_op jUe (jUb sl_F (jJc 3) jV5 (jUn (jJc 4))) (jKd (jJb (jJx C_l_take (hr.mono (by decide)) (jJb (jJc 0) (jJb jJl jJd))) jJd))) (jUb sl_F (jJc 3) (jUn (jJc 4)) (jUn jJl))))))))
noncomputable abbrev jVd:Stmt:=top 37
theorem sc_l_is_int:FnScope ["_law_thing"] ["_law_thing"] (jJi jVd):=⟨rfl,rfl,rfl,by decide +kernel,rfl,by decide +kernel,by decide +kernel⟩
theorem ok_l_is_int (T:Txt mg) (F:Fun K "_law_is_int" "_law_is_int" jVd f fd) 
  (h:∀xs G Q,jK7 xs G Q->jXk {nx:=fun _ G'=>Q .non G',rt:=Q} (jJm ["_law_thing"] xs) G):Fn3 P w K mg base 1 f fd ["_law_thing"] jK7:=by
 refine fn3 F sc_l_is_int fun cdv A outer s H E hr=>⟨jXk,?_,h⟩
 have hu:=jQl hr
 have nd:=sc_l_is_int.nd
 exact (jJn (jKi (e_and (jJr c_isi (by rfl) T.n_isinstance rfl (jJb (jJc 0) (jJb (e_ty rfl T.n_int rfl) jJd))) (e_one (e_not (jJr c_isi (by rfl) T.n_isinstance rfl (jJb (jJc 0) (jJb (e_ty rfl T.n_bool rfl) jJd))))))))
noncomputable abbrev jVa:Stmt:=top 38
theorem sc_l_things:FnScope ["_law_box_here","_law_one","_law_a","_law_due","_law_way_here","_law_at","_law_some"] ["_law_box_here","_law_one","_law_a","_law_due"] (jJi jVa):=⟨rfl,rfl,rfl,by decide +kernel,rfl,by decide +kernel,by decide +kernel⟩
theorem ok_l_things (T:Txt mg) (F:Fun K "_law_things" "_law_things" jVa f fd) (C_l_way:Cal P w K mg base 2 "_law_way" ["_law_box_here","_law_web_here","_law_room","_law_most"] jQw) (C_l_take:Cal P w K mg base 1 "_law_take" ["_law_box_here","_law_many"] jJh) (C_l_odd:Cal P w K mg base 2 "_law_odd" ["_law_box_here"] jKc) (C_l_any_way:Cal P w K mg base 3 "_law_any_way" ["_law_box_here","_law_web_here","_law_room"] jJ7)
  (h:∀xs G Q,jKy xs G Q->jXh {nx:=fun _ G'=>Q .non G',rt:=Q} (jJm ["_law_box_here","_law_one","_law_a","_law_due","_law_way_here","_law_at","_law_some"] xs) G):Fn3 P w K mg base 4 f fd ["_law_box_here","_law_one","_law_a","_law_due"] jKy:=by
 refine fn3 F sc_l_things fun cdv A outer s H E hr=>⟨jXh,?_,h⟩
 have hu:=jQl hr
 have nd:=sc_l_things.nd
 exact (jJf (jJ1 (i:=4) nd (jJc 3))
   (jJf (s_if (jQo o_isN (jJc 3) kJl (jJu _)) (jJn (jJ1 (i:=4) nd (jJx C_l_way (hr.mono (by decide)) (jJb (jJc 0) (jJb (jJc 1) (jJb (jJc 2) (jJb jJl jJd))))))) jKx)
   (jJf (jJ1 (i:=5) nd (jJx C_l_take (hr.mono (by decide)) (jJb (jJc 0) (jJb (e_op jUe (jJr jK2 (by rfl) T.n_len PySem.boot_len (jJb (jJc 4) jJd)) jJl) jJd))))
   (jJf (jJ1 (i:=6) nd (jQf (jJb (jJc 4) (jJb (jJ4 kKz (by rfl) T.n_list rfl (jJb (jJc 4) jJd)) (jJb (e_op jUe (jUb sl_F (jJc 4) jV5 (jUn (jJc 5))) (jUb sl_F (jJc 4) (jUn (e_op jUe (jJc 5) jJl)) jV5)) (jJb (e_op jUe (jJc 4) (jKd (jJb (jJx C_l_take (hr.mono (by decide)) (jJb (jJc 0) (jJb jJl jJd))) jJd))) jJd))))))
   (jJf (jUi (e_bm PySem.F.plainAttrs_list PySem.F.slot_list_append PySem.F.type_list_append jK4 (jJc 6) (jJb (e_op jUe (e_op jUe (jUb sl_F (jJc 4) jV5 (jUn (jJc 5))) (jKd (jJb (jJx C_l_take (hr.mono (by decide)) (jJb (jJc 0) (jJb jJl jJd))) jJd))) (jUb sl_F (jJc 4) (jUn (e_op jUe (jJc 5) jJl)) jV5)) jJd)))
   (jJf (jJ1 (i:=6) nd (e_op jUe (jJc 6) (jQf (jJb (jJx C_l_any_way (hr.mono (by decide)) (jJb (jJc 0) (jJb (jJc 1) (jJb (jJc 2) jJd)))) (jJb (jKd jJd) (jJb (jQf jJd) (jJb (jJx C_l_odd (hr.mono (by decide)) (jJb (jJc 0) jJd)) (jJb (jJx C_l_odd (hr.mono (by decide)) (jJb (jJc 0) jJd)) (jJb (e_trevT rfl rfl T.n_tuple rfl T.n_reversed rfl (jJb (jJc 4) jJd)) (jJb (jUb sl_F (jJc 4) jV5 (jUn (jJc 5))) jJd))))))))))
   (jJn (jKi (e_op jUe (jJc 6) (jQf (jJb (e_op jUe (e_op jUe (jUb sl_F (jJc 4) jV5 (jUn (jJc 5))) (jKd (jJb (jJx C_l_odd (hr.mono (by decide)) (jJb (jJc 0) jJd)) jJd))) (jUb sl_F (jJc 4) (jUn (e_op jUe (jJc 5) jJl)) jV5)) (jJb (e_op jUe (jUb sl_F (jJc 4) jV5 (jUn (e_un u_neg jJl))) (jKd (jJb e_bl jJd))) (jJb (e_op jUe (jJ4 kKz (by rfl) T.n_list rfl (jJb (jUb sl_F (jJc 4) jV5 (jUn (e_un u_neg jJl))) jJd)) (jQf (jJb (e_un u_neg jJl) jJd))) (jJb (jKd (jJb (jJc 4) jJd)) jJd))))))))))))))
noncomputable abbrev jV1:Stmt:=top 39
theorem sc_l_parts:FnScope ["_law_one","_law_a","_law_other","_law_b","_law_thing","_law_due","_law_door"] ["_law_one","_law_a","_law_other","_law_b","_law_thing","_law_due"] (jJi jV1):=⟨rfl,rfl,rfl,by decide +kernel,rfl,by decide +kernel,by decide +kernel⟩
theorem ok_l_parts (T:Txt mg) (F:Fun K "_law_parts" "_law_parts" jV1 f fd) (C_l_is_int:Cal P w K mg base 1 "_law_is_int" ["_law_thing"] jK7) (C_l_seen:Cal P w K mg base 1 "_law_seen" ["_law_web_here","_law_room","_law_way_here"] jQs)
  (h:∀xs G Q,jK3 xs G Q->jYd {nx:=fun _ G'=>Q .non G',rt:=Q} (jJm ["_law_one","_law_a","_law_other","_law_b","_law_thing","_law_due","_law_door"] xs) G):Fn3 P w K mg base 2 f fd ["_law_one","_law_a","_law_other","_law_b","_law_thing","_law_due"] jK3:=by
 refine fn3 F sc_l_parts fun cdv A outer s H E hr=>⟨jYd,?_,h⟩
 have hu:=jQl hr
 have nd:=sc_l_parts.nd
 exact (jJf (s_if (PW3.pt (w_or (jQo o_isN (jJc 5) kJl (jJu _)) (w_or (t_not (t_val (jJr c_isi (by rfl) T.n_isinstance rfl (jJb (jJc 4) (jJb (jKd (jJb (e_ty rfl T.n_list rfl) (jJb (e_ty rfl T.n_tuple rfl) jJd))) jJd))))) (w_or1 (jQo (o_neA hr.units) (jJr jK2 (by rfl) T.n_len PySem.boot_len (jJb (jJc 4) jJd)) (jJr jK2 (by rfl) T.n_len PySem.boot_len (jJb (jJc 5) jJd)) (jJu _)))))) (jJn (jKi e_bl)) jKx)
   (jJf (s_if (t_not (t_val (jJr (c_all rfl) (by rfl) T.n_all rfl (jJb (jU7 (mask:=[false,false,false,false,false,false,true]) rfl ⟨rfl,rfl,rfl,rfl,rfl,rfl,rfl⟩ (jUw (jJc 4)) jJ8 (fun C fp s H=>(jJq (i:=6) nd)) (fun C fp s H=>jQ1) (fun C fp s H=>(e_and (jJx C_l_is_int (hr.mono (by decide)) (jJb (jJc 6) jJd)) (e_one (kKt o_ge (jJc 6) jJl (jJu _)))))) jJd)))) (jJn (jKi e_bl)) jKx)
   (jJn (jKi (kKt (o_neA hr.units) (jJx C_l_seen (hr.mono (by decide)) (jJb (jJc 0) (jJb (jJc 1) (jJb (jJc 4) jJd)))) (jJx C_l_seen (hr.mono (by decide)) (jJb (jJc 2) (jJb (jJc 3) (jJb (jJc 4) jJd)))) (jJu _))))))
noncomputable abbrev kUs:Stmt:=top 40
theorem sc_law:FnScope ["_law_script","_law_cells","_law_k","_law_box_here","_law_one","_law_a","_law_other","_law_b","_law_both_here","_law_due","_law_thing","_law_handed"] ["_law_script"] (jJi kUs):=⟨rfl,rfl,rfl,by decide +kernel,rfl,by decide +kernel,by decide +kernel⟩
theorem ok_law (T:Txt mg) (F:Fun K "law" "law" kUs f fd) (C_l_folded:Cal P w K mg base 1 "_law_folded" ["_law_script","_law_many"] jK0) (C_l_box:Cal P w K mg base 1 "_law_box" ["_law_script","_law_k"] jUh) (C_l_two:Cal P w K mg base 5 "_law_two" ["_law_box_here"] jUg) (C_l_both:Cal P w K mg base 1 "_law_both" ["_law_one","_law_other"] jQu) (C_l_least:Cal P w K mg base 1 "_law_least" ["_law_both_here","_law_rounds_here","_law_r","_law_s"] jQb) (C_l_rounds:Cal P w K mg base 1 "_law_rounds" ["_law_both_here","_law_marked","_law_many"] jKz) (C_l_things:Cal P w K mg base 4 "_law_things" ["_law_box_here","_law_one","_law_a","_law_due"] jKy) (C_l_says:Cal P w K mg base 1 "_law_says" ["_law_found","_law_due"] jQj) (C_l_parts:Cal P w K mg base 2 "_law_parts" ["_law_one","_law_a","_law_other","_law_b","_law_thing","_law_due"] jK3) (C_shows_parting:Cal P w K mg base 4 "shows_parting" ["one","a","other","b","way"] jJz)
  (h:∀xs G Q,sp_law xs G Q->rd_law {nx:=fun _ G'=>Q .non G',rt:=Q} (jJm ["_law_script","_law_cells","_law_k","_law_box_here","_law_one","_law_a","_law_other","_law_b","_law_both_here","_law_due","_law_thing","_law_handed"] xs) G):Fn3 P w K mg base 6 f fd ["_law_script"] sp_law:=by
 refine fn3 F sc_law fun cdv A outer s H E hr=>⟨rd_law,?_,h⟩
 have hu:=jQl hr
 have nd:=sc_law.nd
 exact (jJf (jJ1 (i:=1) nd (jJx C_l_folded (hr.mono (by decide)) (jJb (jJc 0) (jJb jJl jJd))))
   (jJf (jQ2 PassesOwn.never rfl (jKn rfl T.n_range (jJb (jJr (c_max rfl) (by rfl) T.n_max rfl (jJb jJl (jJb (jJr jK2 (by rfl) T.n_len PySem.boot_len (jJb (jJc 1) jJd)) jJd))) jJd)) (jJq (i:=2) nd) (jJf (jJ1 (i:=3) nd (jJx C_l_box (hr.mono (by decide)) (jJb (jJc 1) (jJb (jJc 2) jJd))))
   (jJf (jXv (jJx C_l_two (hr.mono (by decide)) (jJb (jJc 3) jJd)) (jVj rfl (jJv (jJq (i:=4) nd) (jJv (jJq (i:=5) nd) (jJv (jJq (i:=6) nd) (jJv (jJq (i:=7) nd) jQv))))))
   (jJf (jJ1 (i:=8) nd (jJx C_l_both (hr.mono (by decide)) (jJb (jJc 4) (jJb (jJc 6) jJd))))
   (jJf (jJ1 (i:=9) nd (jJx C_l_least (hr.mono (by decide)) (jJb (jJc 8) (jJb (jJx C_l_rounds (hr.mono (by decide)) (jJb (jJc 8) (jJb (jQf jJd) (jJb (jJr jK2 (by rfl) T.n_len PySem.boot_len (jJb (jJc 8) jJd)) jJd)))) (jJb (jJc 5) (jJb (e_op o_addF (jJr jK2 (by rfl) T.n_len PySem.boot_len (jJb (jJc 4) jJd)) (jJc 7)) jJd))))))
   (jJn (jQ2 PassesOwn.never rfl (jUw (jJx C_l_things (hr.mono (by decide)) (jJb (jJc 3) (jJb (jJc 4) (jJb (jJc 5) (jJb (jJc 9) jJd)))))) (jJq (i:=10) nd) (jJf (jJ1 (i:=11) nd (kKs (t_val (jJr c_isi (by rfl) T.n_isinstance rfl (jJb (jJc 10) (jJb (e_ty rfl T.n_list rfl) jJd)))) (jJ4 kKz (by rfl) T.n_list rfl (jJb (jJc 10) jJd)) (jJc 10)))
   (jJf (s_if (t_not (t_val (jJx C_l_says (hr.mono (by decide)) (jJb (jJx C_shows_parting (hr.mono (by decide)) (jJb (jJc 4) (jJb (jJc 5) (jJb (jJc 6) (jJb (jJc 7) (jJb (jJc 11) jJd)))))) (jJb (jJx C_l_parts (hr.mono (by decide)) (jJb (jJc 4) (jJb (jJc 5) (jJb (jJc 6) (jJb (jJc 7) (jJb (jJc 10) (jJb (jJc 9) jJd))))))) jJd))))) (jJn (jKi e_bl)) jKx)
   (jJn (s_if (jQo (o_neD hr.units) (jJc 11) (jJc 10) (jJu _)) (jJn (jKi e_bl)) jKx)))))))))))
   (jJn (jKi e_bl))))
local macro_rules
 | `(tactic| trivial) => `(tactic| (intro xs G Q h;repeat (first | exact (congrArg List.length h.1).trans rfl | obtain ⟨_,h⟩ := h)))
local macro_rules
 | `(tactic| trivial) => `(tactic| (intro xs G Q Q' hq;(repeat' (first | (refine Exists.imp fun _=> ?_) | (refine And.imp_right ?_)));intro k;intros;apply hq;apply k<;>assumption))
theorem ln1 {α:Type} {us:List α} {C:List α->Prop} (h:us.length=1) (k:∀a0,C [a0]):C us:=by
 obtain⟨a0,us,rfl⟩:=lJq h
 replace h:=lJr h
 cases lKg.mp h
 exact k a0
theorem ln2 {α:Type} {us:List α} {C:List α->Prop} (h:us.length=2) (k:∀a0 a1,C [a0,a1]):C us:=by
 obtain⟨a0,us,rfl⟩:=lJq h
 replace h:=lJr h
 obtain⟨a1,us,rfl⟩:=lJq h
 replace h:=lJr h
 cases lKg.mp h
 exact k a0 a1
theorem ln3 {α:Type} {us:List α} {C:List α->Prop} (h:us.length=3) (k:∀a0 a1 a2,C [a0,a1,a2]):C us:=by
 obtain⟨a0,us,rfl⟩:=lJq h
 replace h:=lJr h
 obtain⟨a1,us,rfl⟩:=lJq h
 replace h:=lJr h
 obtain⟨a2,us,rfl⟩:=lJq h
 replace h:=lJr h
 cases lKg.mp h
 exact k a0 a1 a2
theorem ln4 {α:Type} {us:List α} {C:List α->Prop} (h:us.length=4) (k:∀a0 a1 a2 a3,C [a0,a1,a2,a3]):C us:=by
 obtain⟨a0,us,rfl⟩:=lJq h
 replace h:=lJr h
 obtain⟨a1,us,rfl⟩:=lJq h
 replace h:=lJr h
 obtain⟨a2,us,rfl⟩:=lJq h
 replace h:=lJr h
 obtain⟨a3,us,rfl⟩:=lJq h
 replace h:=lJr h
 cases lKg.mp h
 exact k a0 a1 a2 a3
theorem ln5 {α:Type} {us:List α} {C:List α->Prop} (h:us.length=5) (k:∀a0 a1 a2 a3 a4,C [a0,a1,a2,a3,a4]):C us:=by
 obtain⟨a0,us,rfl⟩:=lJq h
 replace h:=lJr h
 obtain⟨a1,us,rfl⟩:=lJq h
 replace h:=lJr h
 obtain⟨a2,us,rfl⟩:=lJq h
 replace h:=lJr h
 obtain⟨a3,us,rfl⟩:=lJq h
 replace h:=lJr h
 obtain⟨a4,us,rfl⟩:=lJq h
 replace h:=lJr h
 cases lKg.mp h
 exact k a0 a1 a2 a3 a4
theorem ln6 {α:Type} {us:List α} {C:List α->Prop} (h:us.length=6) (k:∀a0 a1 a2 a3 a4 a5,C [a0,a1,a2,a3,a4,a5]):C us:=by
 obtain⟨a0,us,rfl⟩:=lJq h
 replace h:=lJr h
 obtain⟨a1,us,rfl⟩:=lJq h
 replace h:=lJr h
 obtain⟨a2,us,rfl⟩:=lJq h
 replace h:=lJr h
 obtain⟨a3,us,rfl⟩:=lJq h
 replace h:=lJr h
 obtain⟨a4,us,rfl⟩:=lJq h
 replace h:=lJr h
 obtain⟨a5,us,rfl⟩:=lJq h
 replace h:=lJr h
 cases lKg.mp h
 exact k a0 a1 a2 a3 a4 a5
theorem kQq:Mono jKp:=by trivial
theorem kVi:∀xs G Q,jKp xs G Q->xs.length=(["thing"]:List Str).length:=by trivial
theorem mono_ends_on:Mono jQn:=by
 unfold jQn;(intro xs G Q Q' hq;(repeat' (first | (refine Exists.imp fun _=> ?_) | (refine And.imp_right ?_)));intro k G' s;refine⟨fun a=>hq _ _ ((k G' s).1 a),?_⟩;intros;apply hq;apply (k G' s).2<;>assumption)
theorem len_ends_on:∀xs G Q,jQn xs G Q->xs.length=(["web","room","way"]:List Str).length:=by trivial
theorem mono_seen:Mono jU2:=by trivial
theorem len_seen:∀xs G Q,jU2 xs G Q->xs.length=(["web","room","way"]:List Str).length:=by trivial
theorem mono_is_way:Mono jQ5:=by trivial
theorem len_is_way:∀xs G Q,jQ5 xs G Q->xs.length=(["thing"]:List Str).length:=by trivial
theorem mono_look:Mono jU3:=by trivial
theorem len_look:∀xs G Q,jU3 xs G Q->xs.length=(["web","first","end","stone"]:List Str).length:=by trivial
theorem kJj:Mono jKg:=by trivial
theorem kKh:∀xs G Q,jKg xs G Q->xs.length=(["one","a","other","b","stone"]:List Str).length:=by trivial
theorem mono_parting:Mono jQm:=by trivial
theorem len_parting:∀xs G Q,jQm xs G Q->xs.length=(["one","a","other","b"]:List Str).length:=by trivial
theorem jZg:Mono jJz:=by trivial
theorem jZ1:∀xs G Q,jJz xs G Q->xs.length=(["one","a","other","b","way"]:List Str).length:=by trivial
theorem mono_l_box:Mono jUh:=by trivial
theorem len_l_box:∀xs G Q,jUh xs G Q->xs.length=(["_law_script","_law_k"]:List Str).length:=by trivial
theorem mono_l_take:Mono jJh:=by trivial
theorem len_l_take:∀xs G Q,jJh xs G Q->xs.length=(["_law_box_here","_law_many"]:List Str).length:=by trivial
theorem kVa:Mono jK0:=by trivial
theorem len_l_folded:∀xs G Q,jK0 xs G Q->xs.length=(["_law_script","_law_many"]:List Str).length:=by trivial
theorem kU8:Mono jK6:=by trivial
theorem len_l_joined:∀xs G Q,jK6 xs G Q->xs.length=(["_law_halves"]:List Str).length:=by trivial
theorem kJk:Mono jKh:=by trivial
theorem kKi:∀xs G Q,jKh xs G Q->xs.length=(["_law_box_here","_law_pairs","_law_many"]:List Str).length:=by trivial
theorem mono_l_web:Mono jQ7:=by trivial
theorem len_l_web:∀xs G Q,jQ7 xs G Q->xs.length=(["_law_box_here","_law_many","_law_most"]:List Str).length:=by trivial
theorem mono_l_ring:Mono jQ4:=by trivial
theorem len_l_ring:∀xs G Q,jQ4 xs G Q->xs.length=(["_law_many"]:List Str).length:=by trivial
theorem mono_l_ends:Mono jQk:=by trivial
theorem len_l_ends:∀xs G Q,jQk xs G Q->xs.length=(["_law_web_here"]:List Str).length:=by trivial
theorem kQm:Mono jKu:=by trivial
theorem kVe:∀xs G Q,jKu xs G Q->xs.length=(["_law_web_here","_law_room"]:List Str).length:=by trivial
theorem kQk:Mono jKt:=by trivial
theorem kVc:∀xs G Q,jKt xs G Q->xs.length=(["_law_web_here","_law_turns","_law_many"]:List Str).length:=by trivial
theorem mono_l_turn:Mono jQi:=by trivial
theorem len_l_turn:∀xs G Q,jQi xs G Q->xs.length=(["_law_box_here","_law_many","_law_own"]:List Str).length:=by trivial
theorem kQn:Mono jJ9:=by trivial
theorem kVf:∀xs G Q,jJ9 xs G Q->xs.length=(["_law_box_here","_law_web_here","_law_many"]:List Str).length:=by trivial
theorem kQo:Mono jKa:=by trivial
theorem kVg:∀xs G Q,jKa xs G Q->xs.length=(["_law_box_here"]:List Str).length:=by trivial
theorem kQl:Mono jKo:=by trivial
theorem kVd:∀xs G Q,jKo xs G Q->xs.length=(["_law_box_here","_law_web_here"]:List Str).length:=by trivial
theorem mono_l_way:Mono jQw:=by trivial
theorem len_l_way:∀xs G Q,jQw xs G Q->xs.length=(["_law_box_here","_law_web_here","_law_room","_law_most"]:List Str).length:=by trivial
theorem mono_l_line:Mono jQt:=by trivial
theorem len_l_line:∀xs G Q,jQt xs G Q->xs.length=(["_law_many"]:List Str).length:=by trivial
theorem jZh:Mono jJ0:=by trivial
theorem jZ2:∀xs G Q,jJ0 xs G Q->xs.length=(["_law_many","_law_turned"]:List Str).length:=by trivial
theorem mono_l_lines:Mono jQa:=by trivial
theorem len_l_lines:∀xs G Q,jQa xs G Q->xs.length=(["_law_box_here"]:List Str).length:=by trivial
theorem mono_l_two:Mono jUg:=by trivial
theorem len_l_two:∀xs G Q,jUg xs G Q->xs.length=(["_law_box_here"]:List Str).length:=by trivial
theorem mono_l_both:Mono jQu:=by trivial
theorem len_l_both:∀xs G Q,jQu xs G Q->xs.length=(["_law_one","_law_other"]:List Str).length:=by trivial
theorem kU7:Mono jKz:=by trivial
theorem len_l_rounds:∀xs G Q,jKz xs G Q->xs.length=(["_law_both_here","_law_marked","_law_many"]:List Str).length:=by trivial
theorem mono_l_least:Mono jQb:=by trivial
theorem len_l_least:∀xs G Q,jQb xs G Q->xs.length=(["_law_both_here","_law_rounds_here","_law_r","_law_s"]:List Str).length:=by trivial
theorem mono_l_says:Mono jQj:=by trivial
theorem len_l_says:∀xs G Q,jQj xs G Q->xs.length=(["_law_found","_law_due"]:List Str).length:=by trivial
theorem mono_l_seen:Mono jQs:=by trivial
theorem len_l_seen:∀xs G Q,jQs xs G Q->xs.length=(["_law_web_here","_law_room","_law_way_here"]:List Str).length:=by trivial
theorem mono_l_odd:Mono jKc:=by trivial
theorem len_l_odd:∀xs G Q,jKc xs G Q->xs.length=(["_law_box_here"]:List Str).length:=by trivial
theorem kQp:Mono jJ7:=by trivial
theorem kVh:∀xs G Q,jJ7 xs G Q->xs.length=(["_law_box_here","_law_web_here","_law_room"]:List Str).length:=by trivial
theorem kU9:Mono jK7:=by trivial
theorem len_l_is_int:∀xs G Q,jK7 xs G Q->xs.length=(["_law_thing"]:List Str).length:=by trivial
theorem kU6:Mono jKy:=by trivial
theorem len_l_things:∀xs G Q,jKy xs G Q->xs.length=(["_law_box_here","_law_one","_law_a","_law_due"]:List Str).length:=by trivial
theorem mono_l_parts:Mono jK3:=by trivial
theorem len_l_parts:∀xs G Q,jK3 xs G Q->xs.length=(["_law_one","_law_a","_law_other","_law_b","_law_thing","_law_due"]:List Str).length:=by trivial
noncomputable def spLaw (K:PySem.W.Frag):Sp:=dn K 1 sp_law
theorem all_mk {l:PySem.W.OpenLaw} {w:World} {K:PySem.W.Frag} {h:Heap} {mg:Str->Option Value} {fa:Addr} {f0 f1 f2 f3 f4 f5 f6 f7 f8 f9 f10 f11 f12 f13 f14 f15 f16 f17 f18 f19 f20 f21 f22 f23 f24 f25 f26 f27 f28 f29 f30 f31 f32 f33 f34 f35 f36 f37:Addr}
  (X:K.In h) (G:h.Ns mainGlobals mg) (hfa:mg "law"=some (.ref fa))
  {od0 an0 od1 an1 od2 an2 od3 an3 od4 an4 od5 an5 od6 an6 od7 an7 od8 an8 od9 an9 od10 an10 od11 an11 od12 an12 od13 an13 od14 an14 od15 an15 od16 an16 od17 an17 od18 an18 od19 an19 od20 an20 od21 an21 od22 an22 od23 an23 od24 an24 od25 an25 od26 an26 od27 an27 od28 an28 od29 an29 od30 an30 od31 an31 od32 an32 od33 an33 od34 an34 od35 an35 od36 an36 od37 an37:Option Addr} {sl0 sl1 sl2 sl3 sl4 sl5 sl6 sl7 sl8 sl9 sl10 sl11 sl12 sl13 sl14 sl15 sl16 sl17 sl18 sl19 sl20 sl21 sl22 sl23 sl24 sl25 sl26 sl27 sl28 sl29 sl30 sl31 sl32 sl33 sl34 sl35 sl36 sl37:Array (Option Value)} {oc0 kV0 dc0 pm0 cd0 ct0 oc1 kV1 dc1 pm1 cd1 ct1 oc2 kV2 dc2 pm2 cd2 ct2 oc3 kV3 dc3 pm3 cd3 ct3 oc4 kV4 dc4 pm4 cd4 ct4 oc5 kV5 dc5 pm5 cd5 ct5 oc6 kV6 dc6 pm6 cd6 ct6 oc7 kV7 dc7 pm7 cd7 ct7 oc8 kV8 dc8 pm8 cd8 ct8 oc9 kV9 dc9 pm9 cd9 ct9 oc10 kV10 dc10 pm10 cd10 ct10 oc11 kV11 dc11 pm11 cd11 ct11 oc12 kV12 dc12 pm12 cd12 ct12 oc13 kV13 dc13 pm13 cd13 ct13 oc14 kV14 dc14 pm14 cd14 ct14 oc15 kV15 dc15 pm15 cd15 ct15 oc16 kV16 dc16 pm16 cd16 ct16 oc17 kV17 dc17 pm17 cd17 ct17 oc18 kV18 dc18 pm18 cd18 ct18 oc19 kV19 dc19 pm19 cd19 ct19 oc20 kV20 dc20 pm20 cd20 ct20 oc21 kV21 dc21 pm21 cd21 ct21 oc22 kV22 dc22 pm22 cd22 ct22 oc23 kV23 dc23 pm23 cd23 ct23 oc24 kV24 dc24 pm24 cd24 ct24 oc25 kV25 dc25 pm25 cd25 ct25 oc26 kV26 dc26 pm26 cd26 ct26 oc27 kV27 dc27 pm27 cd27 ct27 oc28 kV28 dc28 pm28 cd28 ct28 oc29 kV29 dc29 pm29 cd29 ct29 oc30 kV30 dc30 pm30 cd30 ct30 oc31 kV31 dc31 pm31 cd31 ct31 oc32 kV32 dc32 pm32 cd32 ct32 oc33 kV33 dc33 pm33 cd33 ct33 oc34 kV34 dc34 pm34 cd34 ct34 oc35 kV35 dc35 pm35 cd35 ct35 oc36 kV36 dc36 pm36 cd36 ct36 oc37 kV37 dc37 pm37 cd37 ct37:Value}
  (a0:PySem.W.nsIn K mainGlobals "is_number"=some (some (.ref f0))) (l0:K.lookup f0=some ⟨oc0,od0,.func (PySem.W.fnOf "is_number" "is_number" (jJy jUv) (jJw jUv) (jJi jUv) .none kV0 dc0 pm0 an0 cd0 ct0),sl0⟩) (c0:PySem.W.codeIn K cd0 "is_number"=true) (k0:PySem.W.keepIn K (.ref f0)=true)
  (a1:PySem.W.nsIn K mainGlobals "ends_on"=some (some (.ref f1))) (l1:K.lookup f1=some ⟨oc1,od1,.func (PySem.W.fnOf "ends_on" "ends_on" (jJy jV4) (jJw jV4) (jJi jV4) .none kV1 dc1 pm1 an1 cd1 ct1),sl1⟩) (c1:PySem.W.codeIn K cd1 "ends_on"=true) (k1:PySem.W.keepIn K (.ref f1)=true)
  (a2:PySem.W.nsIn K mainGlobals "seen"=some (some (.ref f2))) (l2:K.lookup f2=some ⟨oc2,od2,.func (PySem.W.fnOf "seen" "seen" (jJy kQw) (jJw kQw) (jJi kQw) .none kV2 dc2 pm2 an2 cd2 ct2),sl2⟩) (c2:PySem.W.codeIn K cd2 "seen"=true) (k2:PySem.W.keepIn K (.ref f2)=true)
  (a3:PySem.W.nsIn K mainGlobals "is_way"=some (some (.ref f3))) (l3:K.lookup f3=some ⟨oc3,od3,.func (PySem.W.fnOf "is_way" "is_way" (jJy jYb) (jJw jYb) (jJi jYb) .none kV3 dc3 pm3 an3 cd3 ct3),sl3⟩) (c3:PySem.W.codeIn K cd3 "is_way"=true) (k3:PySem.W.keepIn K (.ref f3)=true)
  (a4:PySem.W.nsIn K mainGlobals "look"=some (some (.ref f4))) (l4:K.lookup f4=some ⟨oc4,od4,.func (PySem.W.fnOf "look" "look" (jJy kQx) (jJw kQx) (jJi kQx) .none kV4 dc4 pm4 an4 cd4 ct4),sl4⟩) (c4:PySem.W.codeIn K cd4 "look"=true) (k4:PySem.W.keepIn K (.ref f4)=true)
  (a5:PySem.W.nsIn K mainGlobals "walked_both"=some (some (.ref f5))) (l5:K.lookup f5=some ⟨oc5,od5,.func (PySem.W.fnOf "walked_both" "walked_both" (jJy jQx) (jJw jQx) (jJi jQx) .none kV5 dc5 pm5 an5 cd5 ct5),sl5⟩) (c5:PySem.W.codeIn K cd5 "walked_both"=true) (k5:PySem.W.keepIn K (.ref f5)=true)
  (a6:PySem.W.nsIn K mainGlobals "parting"=some (some (.ref f6))) (l6:K.lookup f6=some ⟨oc6,od6,.func (PySem.W.fnOf "parting" "parting" (jJy jV0) (jJw jV0) (jJi jV0) .none kV6 dc6 pm6 an6 cd6 ct6),sl6⟩) (c6:PySem.W.codeIn K cd6 "parting"=true) (k6:PySem.W.keepIn K (.ref f6)=true)
  (a7:PySem.W.nsIn K mainGlobals "shows_parting"=some (some (.ref f7))) (l7:K.lookup f7=some ⟨oc7,od7,.func (PySem.W.fnOf "shows_parting" "shows_parting" (jJy jQc) (jJw jQc) (jJi jQc) .none kV7 dc7 pm7 an7 cd7 ct7),sl7⟩) (c7:PySem.W.codeIn K cd7 "shows_parting"=true) (k7:PySem.W.keepIn K (.ref f7)=true)
  (a8:PySem.W.nsIn K mainGlobals "_law_box"=some (some (.ref f8))) (l8:K.lookup f8=some ⟨oc8,od8,.func (PySem.W.fnOf "_law_box" "_law_box" (jJy jZy) (jJw jZy) (jJi jZy) .none kV8 dc8 pm8 an8 cd8 ct8),sl8⟩) (c8:PySem.W.codeIn K cd8 "_law_box"=true) (k8:PySem.W.keepIn K (.ref f8)=true)
  (a9:PySem.W.nsIn K mainGlobals "_law_take"=some (some (.ref f9))) (l9:K.lookup f9=some ⟨oc9,od9,.func (PySem.W.fnOf "_law_take" "_law_take" (jJy jX4) (jJw jX4) (jJi jX4) .none kV9 dc9 pm9 an9 cd9 ct9),sl9⟩) (c9:PySem.W.codeIn K cd9 "_law_take"=true) (k9:PySem.W.keepIn K (.ref f9)=true)
  (a10:PySem.W.nsIn K mainGlobals "_law_folded"=some (some (.ref f10))) (l10:K.lookup f10=some ⟨oc10,od10,.func (PySem.W.fnOf "_law_folded" "_law_folded" (jJy jVe) (jJw jVe) (jJi jVe) .none kV10 dc10 pm10 an10 cd10 ct10),sl10⟩) (c10:PySem.W.codeIn K cd10 "_law_folded"=true) (k10:PySem.W.keepIn K (.ref f10)=true)
  (a11:PySem.W.nsIn K mainGlobals "_law_joined"=some (some (.ref f11))) (l11:K.lookup f11=some ⟨oc11,od11,.func (PySem.W.fnOf "_law_joined" "_law_joined" (jJy jVc) (jJw jVc) (jJi jVc) .none kV11 dc11 pm11 an11 cd11 ct11),sl11⟩) (c11:PySem.W.codeIn K cd11 "_law_joined"=true) (k11:PySem.W.keepIn K (.ref f11)=true)
  (a12:PySem.W.nsIn K mainGlobals "_law_doors_put"=some (some (.ref f12))) (l12:K.lookup f12=some ⟨oc12,od12,.func (PySem.W.fnOf "_law_doors_put" "_law_doors_put" (jJy jQy) (jJw jQy) (jJi jQy) .none kV12 dc12 pm12 an12 cd12 ct12),sl12⟩) (c12:PySem.W.codeIn K cd12 "_law_doors_put"=true) (k12:PySem.W.keepIn K (.ref f12)=true)
  (a13:PySem.W.nsIn K mainGlobals "_law_web"=some (some (.ref f13))) (l13:K.lookup f13=some ⟨oc13,od13,.func (PySem.W.fnOf "_law_web" "_law_web" (jJy jZu) (jJw jZu) (jJi jZu) .none kV13 dc13 pm13 an13 cd13 ct13),sl13⟩) (c13:PySem.W.codeIn K cd13 "_law_web"=true) (k13:PySem.W.keepIn K (.ref f13)=true)
  (a14:PySem.W.nsIn K mainGlobals "_law_ring"=some (some (.ref f14))) (l14:K.lookup f14=some ⟨oc14,od14,.func (PySem.W.fnOf "_law_ring" "_law_ring" (jJy jX7) (jJw jX7) (jJi jX7) .none kV14 dc14 pm14 an14 cd14 ct14),sl14⟩) (c14:PySem.W.codeIn K cd14 "_law_ring"=true) (k14:PySem.W.keepIn K (.ref f14)=true)
  (a15:PySem.W.nsIn K mainGlobals "_law_ends"=some (some (.ref f15))) (l15:K.lookup f15=some ⟨oc15,od15,.func (PySem.W.fnOf "_law_ends" "_law_ends" (jJy jX9) (jJw jX9) (jJi jX9) .none kV15 dc15 pm15 an15 cd15 ct15),sl15⟩) (c15:PySem.W.codeIn K cd15 "_law_ends"=true) (k15:PySem.W.keepIn K (.ref f15)=true)
  (a16:PySem.W.nsIn K mainGlobals "_law_reached"=some (some (.ref f16))) (l16:K.lookup f16=some ⟨oc16,od16,.func (PySem.W.fnOf "_law_reached" "_law_reached" (jJy jUr) (jJw jUr) (jJi jUr) .none kV16 dc16 pm16 an16 cd16 ct16),sl16⟩) (c16:PySem.W.codeIn K cd16 "_law_reached"=true) (k16:PySem.W.keepIn K (.ref f16)=true)
  (a17:PySem.W.nsIn K mainGlobals "_law_sheeted"=some (some (.ref f17))) (l17:K.lookup f17=some ⟨oc17,od17,.func (PySem.W.fnOf "_law_sheeted" "_law_sheeted" (jJy jUp) (jJw jUp) (jJi jUp) .none kV17 dc17 pm17 an17 cd17 ct17),sl17⟩) (c17:PySem.W.codeIn K cd17 "_law_sheeted"=true) (k17:PySem.W.keepIn K (.ref f17)=true)
  (a18:PySem.W.nsIn K mainGlobals "_law_turn"=some (some (.ref f18))) (l18:K.lookup f18=some ⟨oc18,od18,.func (PySem.W.fnOf "_law_turn" "_law_turn" (jJy jX3) (jJw jX3) (jJi jX3) .none kV18 dc18 pm18 an18 cd18 ct18),sl18⟩) (c18:PySem.W.codeIn K cd18 "_law_turn"=true) (k18:PySem.W.keepIn K (.ref f18)=true)
  (a19:PySem.W.nsIn K mainGlobals "_law_covered"=some (some (.ref f19))) (l19:K.lookup f19=some ⟨oc19,od19,.func (PySem.W.fnOf "_law_covered" "_law_covered" (jJy jUs) (jJw jUs) (jJi jUs) .none kV19 dc19 pm19 an19 cd19 ct19),sl19⟩) (c19:PySem.W.codeIn K cd19 "_law_covered"=true) (k19:PySem.W.keepIn K (.ref f19)=true)
  (a20:PySem.W.nsIn K mainGlobals "_law_any_web"=some (some (.ref f20))) (l20:K.lookup f20=some ⟨oc20,od20,.func (PySem.W.fnOf "_law_any_web" "_law_any_web" (jJy jUt) (jJw jUt) (jJi jUt) .none kV20 dc20 pm20 an20 cd20 ct20),sl20⟩) (c20:PySem.W.codeIn K cd20 "_law_any_web"=true) (k20:PySem.W.keepIn K (.ref f20)=true)
  (a21:PySem.W.nsIn K mainGlobals "_law_renamed"=some (some (.ref f21))) (l21:K.lookup f21=some ⟨oc21,od21,.func (PySem.W.fnOf "_law_renamed" "_law_renamed" (jJy jUq) (jJw jUq) (jJi jUq) .none kV21 dc21 pm21 an21 cd21 ct21),sl21⟩) (c21:PySem.W.codeIn K cd21 "_law_renamed"=true) (k21:PySem.W.keepIn K (.ref f21)=true)
  (a22:PySem.W.nsIn K mainGlobals "_law_way"=some (some (.ref f22))) (l22:K.lookup f22=some ⟨oc22,od22,.func (PySem.W.fnOf "_law_way" "_law_way" (jJy jZv) (jJw jZv) (jJi jZv) .none kV22 dc22 pm22 an22 cd22 ct22),sl22⟩) (c22:PySem.W.codeIn K cd22 "_law_way"=true) (k22:PySem.W.keepIn K (.ref f22)=true)
  (a23:PySem.W.nsIn K mainGlobals "_law_line"=some (some (.ref f23))) (l23:K.lookup f23=some ⟨oc23,od23,.func (PySem.W.fnOf "_law_line" "_law_line" (jJy jX8) (jJw jX8) (jJi jX8) .none kV23 dc23 pm23 an23 cd23 ct23),sl23⟩) (c23:PySem.W.codeIn K cd23 "_law_line"=true) (k23:PySem.W.keepIn K (.ref f23)=true)
  (a24:PySem.W.nsIn K mainGlobals "_law_turned_line"=some (some (.ref f24))) (l24:K.lookup f24=some ⟨oc24,od24,.func (PySem.W.fnOf "_law_turned_line" "_law_turned_line" (jJy jQd) (jJw jQd) (jJi jQd) .none kV24 dc24 pm24 an24 cd24 ct24),sl24⟩) (c24:PySem.W.codeIn K cd24 "_law_turned_line"=true) (k24:PySem.W.keepIn K (.ref f24)=true)
  (a25:PySem.W.nsIn K mainGlobals "_law_lines"=some (some (.ref f25))) (l25:K.lookup f25=some ⟨oc25,od25,.func (PySem.W.fnOf "_law_lines" "_law_lines" (jJy jV2) (jJw jV2) (jJi jV2) .none kV25 dc25 pm25 an25 cd25 ct25),sl25⟩) (c25:PySem.W.codeIn K cd25 "_law_lines"=true) (k25:PySem.W.keepIn K (.ref f25)=true)
  (a26:PySem.W.nsIn K mainGlobals "_law_two"=some (some (.ref f26))) (l26:K.lookup f26=some ⟨oc26,od26,.func (PySem.W.fnOf "_law_two" "_law_two" (jJy jZw) (jJw jZw) (jJi jZw) .none kV26 dc26 pm26 an26 cd26 ct26),sl26⟩) (c26:PySem.W.codeIn K cd26 "_law_two"=true) (k26:PySem.W.keepIn K (.ref f26)=true)
  (a27:PySem.W.nsIn K mainGlobals "_law_both"=some (some (.ref f27))) (l27:K.lookup f27=some ⟨oc27,od27,.func (PySem.W.fnOf "_law_both" "_law_both" (jJy jYa) (jJw jYa) (jJi jYa) .none kV27 dc27 pm27 an27 cd27 ct27),sl27⟩) (c27:PySem.W.codeIn K cd27 "_law_both"=true) (k27:PySem.W.keepIn K (.ref f27)=true)
  (a28:PySem.W.nsIn K mainGlobals "_law_rounds"=some (some (.ref f28))) (l28:K.lookup f28=some ⟨oc28,od28,.func (PySem.W.fnOf "_law_rounds" "_law_rounds" (jJy jVb) (jJw jVb) (jJi jVb) .none kV28 dc28 pm28 an28 cd28 ct28),sl28⟩) (c28:PySem.W.codeIn K cd28 "_law_rounds"=true) (k28:PySem.W.keepIn K (.ref f28)=true)
  (a29:PySem.W.nsIn K mainGlobals "_law_least"=some (some (.ref f29))) (l29:K.lookup f29=some ⟨oc29,od29,.func (PySem.W.fnOf "_law_least" "_law_least" (jJy jV3) (jJw jV3) (jJi jV3) .none kV29 dc29 pm29 an29 cd29 ct29),sl29⟩) (c29:PySem.W.codeIn K cd29 "_law_least"=true) (k29:PySem.W.keepIn K (.ref f29)=true)
  (a30:PySem.W.nsIn K mainGlobals "_law_says"=some (some (.ref f30))) (l30:K.lookup f30=some ⟨oc30,od30,.func (PySem.W.fnOf "_law_says" "_law_says" (jJy jX6) (jJw jX6) (jJi jX6) .none kV30 dc30 pm30 an30 cd30 ct30),sl30⟩) (c30:PySem.W.codeIn K cd30 "_law_says"=true) (k30:PySem.W.keepIn K (.ref f30)=true)
  (a31:PySem.W.nsIn K mainGlobals "_law_seen"=some (some (.ref f31))) (l31:K.lookup f31=some ⟨oc31,od31,.func (PySem.W.fnOf "_law_seen" "_law_seen" (jJy jX5) (jJw jX5) (jJi jX5) .none kV31 dc31 pm31 an31 cd31 ct31),sl31⟩) (c31:PySem.W.codeIn K cd31 "_law_seen"=true) (k31:PySem.W.keepIn K (.ref f31)=true)
  (a32:PySem.W.nsIn K mainGlobals "_law_odd"=some (some (.ref f32))) (l32:K.lookup f32=some ⟨oc32,od32,.func (PySem.W.fnOf "_law_odd" "_law_odd" (jJy jZx) (jJw jZx) (jJi jZx) .none kV32 dc32 pm32 an32 cd32 ct32),sl32⟩) (c32:PySem.W.codeIn K cd32 "_law_odd"=true) (k32:PySem.W.keepIn K (.ref f32)=true)
  (a33:PySem.W.nsIn K mainGlobals "_law_any_way"=some (some (.ref f33))) (l33:K.lookup f33=some ⟨oc33,od33,.func (PySem.W.fnOf "_law_any_way" "_law_any_way" (jJy jUu) (jJw jUu) (jJi jUu) .none kV33 dc33 pm33 an33 cd33 ct33),sl33⟩) (c33:PySem.W.codeIn K cd33 "_law_any_way"=true) (k33:PySem.W.keepIn K (.ref f33)=true)
  (a34:PySem.W.nsIn K mainGlobals "_law_is_int"=some (some (.ref f34))) (l34:K.lookup f34=some ⟨oc34,od34,.func (PySem.W.fnOf "_law_is_int" "_law_is_int" (jJy jVd) (jJw jVd) (jJi jVd) .none kV34 dc34 pm34 an34 cd34 ct34),sl34⟩) (c34:PySem.W.codeIn K cd34 "_law_is_int"=true) (k34:PySem.W.keepIn K (.ref f34)=true)
  (a35:PySem.W.nsIn K mainGlobals "_law_things"=some (some (.ref f35))) (l35:K.lookup f35=some ⟨oc35,od35,.func (PySem.W.fnOf "_law_things" "_law_things" (jJy jVa) (jJw jVa) (jJi jVa) .none kV35 dc35 pm35 an35 cd35 ct35),sl35⟩) (c35:PySem.W.codeIn K cd35 "_law_things"=true) (k35:PySem.W.keepIn K (.ref f35)=true)
  (a36:PySem.W.nsIn K mainGlobals "_law_parts"=some (some (.ref f36))) (l36:K.lookup f36=some ⟨oc36,od36,.func (PySem.W.fnOf "_law_parts" "_law_parts" (jJy jV1) (jJw jV1) (jJi jV1) .none kV36 dc36 pm36 an36 cd36 ct36),sl36⟩) (c36:PySem.W.codeIn K cd36 "_law_parts"=true) (k36:PySem.W.keepIn K (.ref f36)=true)
  (a37:PySem.W.nsIn K mainGlobals "law"=some (some (.ref f37))) (l37:K.lookup f37=some ⟨oc37,od37,.func (PySem.W.fnOf "law" "law" (jJy kUs) (jJw kUs) (jJi kUs) .none kV37 dc37 pm37 an37 cd37 ct37),sl37⟩) (c37:PySem.W.codeIn K cd37 "law"=true) (k37:PySem.W.keepIn K (.ref f37)=true)
  (z_abs:PySem.W.nsIn K mainGlobals "abs"=some none)
  (z_all:PySem.W.nsIn K mainGlobals "all"=some none)
  (z_bool:PySem.W.nsIn K mainGlobals "bool"=some none)
  (z_divmod:PySem.W.nsIn K mainGlobals "divmod"=some none)
  (z_enumerate:PySem.W.nsIn K mainGlobals "enumerate"=some none)
  (z_int:PySem.W.nsIn K mainGlobals "int"=some none)
  (z_isinstance:PySem.W.nsIn K mainGlobals "isinstance"=some none)
  (z_len:PySem.W.nsIn K mainGlobals "len"=some none)
  (z_list:PySem.W.nsIn K mainGlobals "list"=some none)
  (z_max:PySem.W.nsIn K mainGlobals "max"=some none)
  (z_min:PySem.W.nsIn K mainGlobals "min"=some none)
  (z_range:PySem.W.nsIn K mainGlobals "range"=some none)
  (z_reversed:PySem.W.nsIn K mainGlobals "reversed"=some none)
  (z_tuple:PySem.W.nsIn K mainGlobals "tuple"=some none):
  ∃fd:FuncData,(∀(s:Shared) (v:Value),BindsTo s fd ⟨[v],[]⟩ [("_law_script",v)])/\∀base:Heap,K.In base->base.Ns mainGlobals mg->FnOk l.prog w K mg base CX0 6 fa fd ["_law_script"] (spLaw K):=by
 have e:=hfa.symm.trans (PySem.W.mg_of X G a37)
 cases e
 have T:Txt mg:=⟨PySem.W.mg_none_of X G z_abs,PySem.W.mg_none_of X G z_all,PySem.W.mg_none_of X G z_bool,PySem.W.mg_none_of X G z_divmod,PySem.W.mg_none_of X G z_enumerate,PySem.W.mg_none_of X G z_int,PySem.W.mg_none_of X G z_isinstance,PySem.W.mg_none_of X G z_len,PySem.W.mg_none_of X G z_list,PySem.W.mg_none_of X G z_max,PySem.W.mg_none_of X G z_min,PySem.W.mg_none_of X G z_range,PySem.W.mg_none_of X G z_reversed,PySem.W.mg_none_of X G z_tuple⟩
 have F0:=jKj (st:=jUv) l0 c0 k0
 have F1:=jKj (st:=jV4) l1 c1 k1
 have F2:=jKj (st:=kQw) l2 c2 k2
 have F3:=jKj (st:=jYb) l3 c3 k3
 have F4:=jKj (st:=kQx) l4 c4 k4
 have F5:=jKj (st:=jQx) l5 c5 k5
 have F6:=jKj (st:=jV0) l6 c6 k6
 have F7:=jKj (st:=jQc) l7 c7 k7
 have F8:=jKj (st:=jZy) l8 c8 k8
 have F9:=jKj (st:=jX4) l9 c9 k9
 have F10:=jKj (st:=jVe) l10 c10 k10
 have F11:=jKj (st:=jVc) l11 c11 k11
 have F12:=jKj (st:=jQy) l12 c12 k12
 have F13:=jKj (st:=jZu) l13 c13 k13
 have F14:=jKj (st:=jX7) l14 c14 k14
 have F15:=jKj (st:=jX9) l15 c15 k15
 have F16:=jKj (st:=jUr) l16 c16 k16
 have F17:=jKj (st:=jUp) l17 c17 k17
 have F18:=jKj (st:=jX3) l18 c18 k18
 have F19:=jKj (st:=jUs) l19 c19 k19
 have F20:=jKj (st:=jUt) l20 c20 k20
 have F21:=jKj (st:=jUq) l21 c21 k21
 have F22:=jKj (st:=jZv) l22 c22 k22
 have F23:=jKj (st:=jX8) l23 c23 k23
 have F24:=jKj (st:=jQd) l24 c24 k24
 have F25:=jKj (st:=jV2) l25 c25 k25
 have F26:=jKj (st:=jZw) l26 c26 k26
 have F27:=jKj (st:=jYa) l27 c27 k27
 have F28:=jKj (st:=jVb) l28 c28 k28
 have F29:=jKj (st:=jV3) l29 c29 k29
 have F30:=jKj (st:=jX6) l30 c30 k30
 have F31:=jKj (st:=jX5) l31 c31 k31
 have F32:=jKj (st:=jZx) l32 c32 k32
 have F33:=jKj (st:=jUu) l33 c33 k33
 have F34:=jKj (st:=jVd) l34 c34 k34
 have F35:=jKj (st:=jVa) l35 c35 k35
 have F36:=jKj (st:=jV1) l36 c36 k36
 have F37:=jKj (st:=kUs) l37 c37 k37
 refine⟨PySem.W.fnOf "law" "law" (jJy kUs) (jJw kUs) (jJi kUs) .none kV37 dc37 pm37 an37 cd37 ct37,fun s v=> .of_eq rfl,fun base _ _=> ?_⟩
 have C_is_number:Cal l.prog w K mg base 1 "is_number" ["thing"] jKp:=⟨⟨_,_,ok_is_number T F0  kQg,PySem.W.mg_of X G a0,k0,(F0.binds (ps:=["thing"]) fun _ _ _ _ _ _ us hl=>by apply ln1 hl;intros;rfl)⟩,kQq,kVi⟩
 have C_ends_on:Cal l.prog w K mg base 1 "ends_on" ["web","room","way"] jQn:=⟨⟨_,_,ok_ends_on T F1  rdok_ends_on,PySem.W.mg_of X G a1,k1,(F1.binds (ps:=["web","room","way"]) fun _ _ _ _ _ _ us hl=>by apply ln3 hl;intros;rfl)⟩,mono_ends_on,len_ends_on⟩
 have C_seen:Cal l.prog w K mg base 2 "seen" ["web","room","way"] jU2:=⟨⟨_,_,ok_seen T F2 C_ends_on rdok_seen,PySem.W.mg_of X G a2,k2,(F2.binds (ps:=["web","room","way"]) fun _ _ _ _ _ _ us hl=>by apply ln3 hl;intros;rfl)⟩,mono_seen,len_seen⟩
 have C_is_way:Cal l.prog w K mg base 2 "is_way" ["thing"] jQ5:=⟨⟨_,_,ok_is_way T F3 C_is_number rdok_is_way,PySem.W.mg_of X G a3,k3,(F3.binds (ps:=["thing"]) fun _ _ _ _ _ _ us hl=>by apply ln1 hl;intros;rfl)⟩,mono_is_way,len_is_way⟩
 have C_look:Cal l.prog w K mg base 1 "look" ["web","first","end","stone"] jU3:=⟨⟨_,_,ok_look T F4  rdok_look,PySem.W.mg_of X G a4,k4,(F4.binds (ps:=["web","first","end","stone"]) fun _ _ _ _ _ _ us hl=>by apply ln4 hl;intros;rfl)⟩,mono_look,len_look⟩
 have C_walked_both:Cal l.prog w K mg base 2 "walked_both" ["one","a","other","b","stone"] jKg:=⟨⟨_,_,kQh T F5 C_look kJf,PySem.W.mg_of X G a5,k5,(F5.binds (ps:=["one","a","other","b","stone"]) fun _ _ _ _ _ _ us hl=>by apply ln5 hl;intros;rfl)⟩,kJj,kKh⟩
 have C_parting:Cal l.prog w K mg base 3 "parting" ["one","a","other","b"] jQm:=⟨⟨_,_,ok_parting T F6 C_walked_both rdok_parting,PySem.W.mg_of X G a6,k6,(F6.binds (ps:=["one","a","other","b"]) fun _ _ _ _ _ _ us hl=>by apply ln4 hl;intros;rfl)⟩,mono_parting,len_parting⟩
 have C_shows_parting:Cal l.prog w K mg base 4 "shows_parting" ["one","a","other","b","way"] jJz:=⟨⟨_,_,kJh T F7 C_parting C_is_way C_seen jYz,PySem.W.mg_of X G a7,k7,(F7.binds (ps:=["one","a","other","b","way"]) fun _ _ _ _ _ _ us hl=>by apply ln5 hl;intros;rfl)⟩,jZg,jZ1⟩
 have C_l_box:Cal l.prog w K mg base 1 "_law_box" ["_law_script","_law_k"] jUh:=⟨⟨_,_,ok_l_box T F8  rdok_l_box,PySem.W.mg_of X G a8,k8,(F8.binds (ps:=["_law_script","_law_k"]) fun _ _ _ _ _ _ us hl=>by apply ln2 hl;intros;rfl)⟩,mono_l_box,len_l_box⟩
 have C_l_take:Cal l.prog w K mg base 1 "_law_take" ["_law_box_here","_law_many"] jJh:=⟨⟨_,_,ok_l_take T F9  rdok_l_take,PySem.W.mg_of X G a9,k9,(F9.binds (ps:=["_law_box_here","_law_many"]) fun _ _ _ _ _ _ us hl=>by apply ln2 hl;intros;rfl)⟩,mono_l_take,len_l_take⟩
 have C_l_folded:Cal l.prog w K mg base 1 "_law_folded" ["_law_script","_law_many"] jK0:=⟨⟨_,_,ok_l_folded T F10  kU1,PySem.W.mg_of X G a10,k10,(F10.binds (ps:=["_law_script","_law_many"]) fun _ _ _ _ _ _ us hl=>by apply ln2 hl;intros;rfl)⟩,kVa,len_l_folded⟩
 have C_l_joined:Cal l.prog w K mg base 1 "_law_joined" ["_law_halves"] jK6:=⟨⟨_,_,ok_l_joined T F11  kUz,PySem.W.mg_of X G a11,k11,(F11.binds (ps:=["_law_halves"]) fun _ _ _ _ _ _ us hl=>by apply ln1 hl;intros;rfl)⟩,kU8,len_l_joined⟩
 have C_l_doors_put:Cal l.prog w K mg base 2 "_law_doors_put" ["_law_box_here","_law_pairs","_law_many"] jKh:=⟨⟨_,_,kQi T F12 C_l_take C_l_joined kJg,PySem.W.mg_of X G a12,k12,(F12.binds (ps:=["_law_box_here","_law_pairs","_law_many"]) fun _ _ _ _ _ _ us hl=>by apply ln3 hl;intros;rfl)⟩,kJk,kKi⟩
 have C_l_web:Cal l.prog w K mg base 3 "_law_web" ["_law_box_here","_law_many","_law_most"] jQ7:=⟨⟨_,_,ok_l_web T F13 C_l_take C_l_doors_put rdok_l_web,PySem.W.mg_of X G a13,k13,(F13.binds (ps:=["_law_box_here","_law_many","_law_most"]) fun _ _ _ _ _ _ us hl=>by apply ln3 hl;intros;rfl)⟩,mono_l_web,len_l_web⟩
 have C_l_ring:Cal l.prog w K mg base 1 "_law_ring" ["_law_many"] jQ4:=⟨⟨_,_,ok_l_ring T F14  rdok_l_ring,PySem.W.mg_of X G a14,k14,(F14.binds (ps:=["_law_many"]) fun _ _ _ _ _ _ us hl=>by apply ln1 hl;intros;rfl)⟩,mono_l_ring,len_l_ring⟩
 have C_l_ends:Cal l.prog w K mg base 1 "_law_ends" ["_law_web_here"] jQk:=⟨⟨_,_,ok_l_ends T F15  rdok_l_ends,PySem.W.mg_of X G a15,k15,(F15.binds (ps:=["_law_web_here"]) fun _ _ _ _ _ _ us hl=>by apply ln1 hl;intros;rfl)⟩,mono_l_ends,len_l_ends⟩
 have C_l_reached:Cal l.prog w K mg base 1 "_law_reached" ["_law_web_here","_law_room"] jKu:=⟨⟨_,_,ok_l_reached T F16  kQc,PySem.W.mg_of X G a16,k16,(F16.binds (ps:=["_law_web_here","_law_room"]) fun _ _ _ _ _ _ us hl=>by apply ln2 hl;intros;rfl)⟩,kQm,kVe⟩
 have C_l_sheeted:Cal l.prog w K mg base 2 "_law_sheeted" ["_law_web_here","_law_turns","_law_many"] jKt:=⟨⟨_,_,ok_l_sheeted T F17 C_l_ends kQa,PySem.W.mg_of X G a17,k17,(F17.binds (ps:=["_law_web_here","_law_turns","_law_many"]) fun _ _ _ _ _ _ us hl=>by apply ln3 hl;intros;rfl)⟩,kQk,kVc⟩
 have C_l_turn:Cal l.prog w K mg base 2 "_law_turn" ["_law_box_here","_law_many","_law_own"] jQi:=⟨⟨_,_,ok_l_turn T F18 C_l_take rdok_l_turn,PySem.W.mg_of X G a18,k18,(F18.binds (ps:=["_law_box_here","_law_many","_law_own"]) fun _ _ _ _ _ _ us hl=>by apply ln3 hl;intros;rfl)⟩,mono_l_turn,len_l_turn⟩
 have C_l_covered:Cal l.prog w K mg base 3 "_law_covered" ["_law_box_here","_law_web_here","_law_many"] jJ9:=⟨⟨_,_,ok_l_covered T F19 C_l_ends C_l_turn C_l_sheeted C_l_reached kQd,PySem.W.mg_of X G a19,k19,(F19.binds (ps:=["_law_box_here","_law_web_here","_law_many"]) fun _ _ _ _ _ _ us hl=>by apply ln3 hl;intros;rfl)⟩,kQn,kVf⟩
 have C_l_any_web:Cal l.prog w K mg base 4 "_law_any_web" ["_law_box_here"] jKa:=⟨⟨_,_,ok_l_any_web T F20 C_l_take C_l_web C_l_ring C_l_covered kQe,PySem.W.mg_of X G a20,k20,(F20.binds (ps:=["_law_box_here"]) fun _ _ _ _ _ _ us hl=>by apply ln1 hl;intros;rfl)⟩,kQo,kVg⟩
 have C_l_renamed:Cal l.prog w K mg base 3 "_law_renamed" ["_law_box_here","_law_web_here"] jKo:=⟨⟨_,_,ok_l_renamed T F21 C_l_turn kQb,PySem.W.mg_of X G a21,k21,(F21.binds (ps:=["_law_box_here","_law_web_here"]) fun _ _ _ _ _ _ us hl=>by apply ln2 hl;intros;rfl)⟩,kQl,kVd⟩
 have C_l_way:Cal l.prog w K mg base 2 "_law_way" ["_law_box_here","_law_web_here","_law_room","_law_most"] jQw:=⟨⟨_,_,ok_l_way T F22 C_l_take rdok_l_way,PySem.W.mg_of X G a22,k22,(F22.binds (ps:=["_law_box_here","_law_web_here","_law_room","_law_most"]) fun _ _ _ _ _ _ us hl=>by apply ln4 hl;intros;rfl)⟩,mono_l_way,len_l_way⟩
 have C_l_line:Cal l.prog w K mg base 1 "_law_line" ["_law_many"] jQt:=⟨⟨_,_,ok_l_line T F23  rdok_l_line,PySem.W.mg_of X G a23,k23,(F23.binds (ps:=["_law_many"]) fun _ _ _ _ _ _ us hl=>by apply ln1 hl;intros;rfl)⟩,mono_l_line,len_l_line⟩
 have C_l_turned_line:Cal l.prog w K mg base 2 "_law_turned_line" ["_law_many","_law_turned"] jJ0:=⟨⟨_,_,kJi T F24 C_l_line jY0,PySem.W.mg_of X G a24,k24,(F24.binds (ps:=["_law_many","_law_turned"]) fun _ _ _ _ _ _ us hl=>by apply ln2 hl;intros;rfl)⟩,jZh,jZ2⟩
 have C_l_lines:Cal l.prog w K mg base 3 "_law_lines" ["_law_box_here"] jQa:=⟨⟨_,_,ok_l_lines T F25 C_l_take C_l_turned_line rdok_l_lines,PySem.W.mg_of X G a25,k25,(F25.binds (ps:=["_law_box_here"]) fun _ _ _ _ _ _ us hl=>by apply ln1 hl;intros;rfl)⟩,mono_l_lines,len_l_lines⟩
 have C_l_two:Cal l.prog w K mg base 5 "_law_two" ["_law_box_here"] jUg:=⟨⟨_,_,ok_l_two T F26 C_l_take C_l_any_web C_l_renamed C_l_covered C_l_lines rdok_l_two,PySem.W.mg_of X G a26,k26,(F26.binds (ps:=["_law_box_here"]) fun _ _ _ _ _ _ us hl=>by apply ln1 hl;intros;rfl)⟩,mono_l_two,len_l_two⟩
 have C_l_both:Cal l.prog w K mg base 1 "_law_both" ["_law_one","_law_other"] jQu:=⟨⟨_,_,ok_l_both T F27  rdok_l_both,PySem.W.mg_of X G a27,k27,(F27.binds (ps:=["_law_one","_law_other"]) fun _ _ _ _ _ _ us hl=>by apply ln2 hl;intros;rfl)⟩,mono_l_both,len_l_both⟩
 have C_l_rounds:Cal l.prog w K mg base 1 "_law_rounds" ["_law_both_here","_law_marked","_law_many"] jKz:=⟨⟨_,_,ok_l_rounds T F28  kUy,PySem.W.mg_of X G a28,k28,(F28.binds (ps:=["_law_both_here","_law_marked","_law_many"]) fun _ _ _ _ _ _ us hl=>by apply ln3 hl;intros;rfl)⟩,kU7,len_l_rounds⟩
 have C_l_least:Cal l.prog w K mg base 1 "_law_least" ["_law_both_here","_law_rounds_here","_law_r","_law_s"] jQb:=⟨⟨_,_,ok_l_least T F29  rdok_l_least,PySem.W.mg_of X G a29,k29,(F29.binds (ps:=["_law_both_here","_law_rounds_here","_law_r","_law_s"]) fun _ _ _ _ _ _ us hl=>by apply ln4 hl;intros;rfl)⟩,mono_l_least,len_l_least⟩
 have C_l_says:Cal l.prog w K mg base 1 "_law_says" ["_law_found","_law_due"] jQj:=⟨⟨_,_,ok_l_says T F30  rdok_l_says,PySem.W.mg_of X G a30,k30,(F30.binds (ps:=["_law_found","_law_due"]) fun _ _ _ _ _ _ us hl=>by apply ln2 hl;intros;rfl)⟩,mono_l_says,len_l_says⟩
 have C_l_seen:Cal l.prog w K mg base 1 "_law_seen" ["_law_web_here","_law_room","_law_way_here"] jQs:=⟨⟨_,_,ok_l_seen T F31  rdok_l_seen,PySem.W.mg_of X G a31,k31,(F31.binds (ps:=["_law_web_here","_law_room","_law_way_here"]) fun _ _ _ _ _ _ us hl=>by apply ln3 hl;intros;rfl)⟩,mono_l_seen,len_l_seen⟩
 have C_l_odd:Cal l.prog w K mg base 2 "_law_odd" ["_law_box_here"] jKc:=⟨⟨_,_,ok_l_odd T F32 C_l_take rdok_l_odd,PySem.W.mg_of X G a32,k32,(F32.binds (ps:=["_law_box_here"]) fun _ _ _ _ _ _ us hl=>by apply ln1 hl;intros;rfl)⟩,mono_l_odd,len_l_odd⟩
 have C_l_any_way:Cal l.prog w K mg base 3 "_law_any_way" ["_law_box_here","_law_web_here","_law_room"] jJ7:=⟨⟨_,_,ok_l_any_way T F33 C_l_way C_l_take kQf,PySem.W.mg_of X G a33,k33,(F33.binds (ps:=["_law_box_here","_law_web_here","_law_room"]) fun _ _ _ _ _ _ us hl=>by apply ln3 hl;intros;rfl)⟩,kQp,kVh⟩
 have C_l_is_int:Cal l.prog w K mg base 1 "_law_is_int" ["_law_thing"] jK7:=⟨⟨_,_,ok_l_is_int T F34  kU0,PySem.W.mg_of X G a34,k34,(F34.binds (ps:=["_law_thing"]) fun _ _ _ _ _ _ us hl=>by apply ln1 hl;intros;rfl)⟩,kU9,len_l_is_int⟩
 have C_l_things:Cal l.prog w K mg base 4 "_law_things" ["_law_box_here","_law_one","_law_a","_law_due"] jKy:=⟨⟨_,_,ok_l_things T F35 C_l_way C_l_take C_l_odd C_l_any_way kUx,PySem.W.mg_of X G a35,k35,(F35.binds (ps:=["_law_box_here","_law_one","_law_a","_law_due"]) fun _ _ _ _ _ _ us hl=>by apply ln4 hl;intros;rfl)⟩,kU6,len_l_things⟩
 have C_l_parts:Cal l.prog w K mg base 2 "_law_parts" ["_law_one","_law_a","_law_other","_law_b","_law_thing","_law_due"] jK3:=⟨⟨_,_,ok_l_parts T F36 C_l_is_int C_l_seen rdok_l_parts,PySem.W.mg_of X G a36,k36,(F36.binds (ps:=["_law_one","_law_a","_law_other","_law_b","_law_thing","_law_due"]) fun _ _ _ _ _ _ us hl=>by apply ln6 hl;intros;rfl)⟩,mono_l_parts,len_l_parts⟩
 exact ok_law T F37 C_l_folded C_l_box C_l_two C_l_both C_l_least C_l_rounds C_l_things C_l_says C_l_parts C_shows_parting rdok_law
theorem fr_of {K:PySem.W.Frag} {H:Hp} {a:Addr} {xs:List V} (hO:Only H) (hS:SqL K H a xs):FrL K H a xs:=by
 rcases hS with h | h
 ·rcases h with h | ⟨ob,h⟩
  ·rcases hO a with z | ⟨o,ys,z⟩
   ·rw[z] at h;cases h
   ·rw[z] at h;cases h
  ·exact .inl ⟨ob,h⟩
 ·exact .inr h
theorem jVh {K:PySem.W.Frag} {H:Hp}:∀ns:List Int,Reps K H (jUl ns) (ns.map V.int)
 | []=>rfl
 | n::ns=>⟨_,_,rfl,rfl,jVh ns⟩
theorem walk {l:PySem.W.OpenLaw} {q:Program} {loose:List Str} {XP:(Str->Option Value)->Heap->Prop} {YP:World->Heap->Prop} {d:DefRec} {K:Params->PySem.W.Frag} (hn:l.most=some 63) (hdf:d.params.defaults=[])
  (hY:∀(w:World) (h:Heap),YP w h->(K w.params).In h)
  (F:∀(w:World) (mg:Str->Option Value) (fa:Addr) (h:Heap),(K w.params).In h->h.Ns mainGlobals mg->mg d.name=some (.ref fa)->
   ∃fd:FuncData,(∀(s:Shared) (u:Value),BindsTo s fd ⟨[u],[]⟩ [("_law_script",u)])/\∀base:Heap,(K w.params).In base->base.Ns mainGlobals mg->FnOk l.prog w (K w.params) mg base CX0 6 fa fd ["_law_script"] (spLaw (K w.params))):
  PySem.W.WalkO q loose XP YP l.row.toRowW d [] (fun f vs=>PySem.call f vs):=
 L2.walk_of (n:=63) (k:=6) (x:="_law_script") (CX:=fun _=>CX0) (sp:=fun w=>spLaw (K w.params)) hn (by decide) hdf ⟨rfl,rfl,by decide,by decide⟩ hY F
  (fun _ _ a ns hl hO hS=>⟨rfl,[.scr (jUl ns)],fun _=>none,⟨_,_,rfl,⟨a,_,rfl,fr_of hO hS,jVh ns⟩,rfl⟩,(fun _ _ h=>nomatch h),ns,rfl,hl,fun G' v H' _ _ r=>r⟩) fun _ _ _ _ _ z=>z
end W
def PySem.W.Fast.tw2328656122176774657 : Unit := ()
def PySem.W.Fast.tw17764153222057980102 : Unit := ()
def PySem.W.Fast.tw6027559089814362842 : Unit := ()
def PySem.W.Fast.tw10050950756033061124 : Unit := ()
def PySem.W.Fast.tw10516679625915967777 : Unit := ()
def PySem.W.Fast.tw10166960394904649500 : Unit := ()
def PySem.W.Fast.tw8310221643347573014 : Unit := ()
def PySem.W.Fast.tw10200555555880158586 : Unit := ()
def PySem.W.Fast.tw937040118194208330 : Unit := ()
def PySem.W.Fast.tw9627355471046007125 : Unit := ()
def PySem.W.Fast.tw4908497246274155065 : Unit := ()
def PySem.W.Fast.tw15448872218102585141 : Unit := ()
def PySem.W.Fast.tw5257654863182913872 : Unit := ()
def PySem.W.Fast.tw2744893945163911144 : Unit := ()
def PySem.W.Fast.tw14919584017145985541 : Unit := ()
open PySem PySem.W PyProof.Rows
set_option maxRecDepth 100000 in
set_option maxHeartbeats 0 in
theorem PySem.Challenge.cw_stonewalker_k12_partings_shown_holds : PySem.Challenge.rw_stonewalker_k12_partings_shown.Holds := by
 w_on;o_law;k_head;(case hw=>w_witness2)
 k_fill
 refine W.walk (l:=PySem.Challenge.rw_stonewalker_k12_partings_shown) rfl rfl (fun w h Y=>PySem.W.kIn_of Y) ?F
 case F=>
  intro w mg fa h KX G hmg
  refine' W.all_mk KX G hmg ?a0 ?l0 ?c0 ?k0 ?a1 ?l1 ?c1 ?k1 ?a2 ?l2 ?c2 ?k2 ?a3 ?l3 ?c3 ?k3 ?a4 ?l4 ?c4 ?k4 ?a5 ?l5 ?c5 ?k5 ?a6 ?l6 ?c6 ?k6 ?a7 ?l7 ?c7 ?k7 ?a8 ?l8 ?c8 ?k8 ?a9 ?l9 ?c9 ?k9 ?a10 ?l10 ?c10 ?k10 ?a11 ?l11 ?c11 ?k11 ?a12 ?l12 ?c12 ?k12 ?a13 ?l13 ?c13 ?k13 ?a14 ?l14 ?c14 ?k14 ?a15 ?l15 ?c15 ?k15 ?a16 ?l16 ?c16 ?k16 ?a17 ?l17 ?c17 ?k17 ?a18 ?l18 ?c18 ?k18 ?a19 ?l19 ?c19 ?k19 ?a20 ?l20 ?c20 ?k20 ?a21 ?l21 ?c21 ?k21 ?a22 ?l22 ?c22 ?k22 ?a23 ?l23 ?c23 ?k23 ?a24 ?l24 ?c24 ?k24 ?a25 ?l25 ?c25 ?k25 ?a26 ?l26 ?c26 ?k26 ?a27 ?l27 ?c27 ?k27 ?a28 ?l28 ?c28 ?k28 ?a29 ?l29 ?c29 ?k29 ?a30 ?l30 ?c30 ?k30 ?a31 ?l31 ?c31 ?k31 ?a32 ?l32 ?c32 ?k32 ?a33 ?l33 ?c33 ?k33 ?a34 ?l34 ?c34 ?k34 ?a35 ?l35 ?c35 ?k35 ?a36 ?l36 ?c36 ?k36 ?a37 ?l37 ?c37 ?k37 ?z_abs ?z_all ?z_bool ?z_divmod ?z_enumerate ?z_int ?z_isinstance ?z_len ?z_list ?z_max ?z_min ?z_range ?z_reversed ?z_tuple
  (case a0=>k_is);(case l0=>k_is);(case c0=>k_is);(case k0=>k_is)
  (case a1=>k_is);(case l1=>k_is);(case c1=>k_is);(case k1=>k_is)
  (case a2=>k_is);(case l2=>k_is);(case c2=>k_is);(case k2=>k_is)
  (case a3=>k_is);(case l3=>k_is);(case c3=>k_is);(case k3=>k_is)
  (case a4=>k_is);(case l4=>k_is);(case c4=>k_is);(case k4=>k_is)
  (case a5=>k_is);(case l5=>k_is);(case c5=>k_is);(case k5=>k_is)
  (case a6=>k_is);(case l6=>k_is);(case c6=>k_is);(case k6=>k_is)
  (case a7=>k_is);(case l7=>k_is);(case c7=>k_is);(case k7=>k_is)
  (case a8=>k_is);(case l8=>k_is);(case c8=>k_is);(case k8=>k_is)
  (case a9=>k_is);(case l9=>k_is);(case c9=>k_is);(case k9=>k_is)
  (case a10=>k_is);(case l10=>k_is);(case c10=>k_is);(case k10=>k_is)
  (case a11=>k_is);(case l11=>k_is);(case c11=>k_is);(case k11=>k_is)
  (case a12=>k_is);(case l12=>k_is);(case c12=>k_is);(case k12=>k_is)
  (case a13=>k_is);(case l13=>k_is);(case c13=>k_is);(case k13=>k_is)
  (case a14=>k_is);(case l14=>k_is);(case c14=>k_is);(case k14=>k_is)
  (case a15=>k_is);(case l15=>k_is);(case c15=>k_is);(case k15=>k_is)
  (case a16=>k_is);(case l16=>k_is);(case c16=>k_is);(case k16=>k_is)
  (case a17=>k_is);(case l17=>k_is);(case c17=>k_is);(case k17=>k_is)
  (case a18=>k_is);(case l18=>k_is);(case c18=>k_is);(case k18=>k_is)
  (case a19=>k_is);(case l19=>k_is);(case c19=>k_is);(case k19=>k_is)
  (case a20=>k_is);(case l20=>k_is);(case c20=>k_is);(case k20=>k_is)
  (case a21=>k_is);(case l21=>k_is);(case c21=>k_is);(case k21=>k_is)
  (case a22=>k_is);(case l22=>k_is);(case c22=>k_is);(case k22=>k_is)
  (case a23=>k_is);(case l23=>k_is);(case c23=>k_is);(case k23=>k_is)
  (case a24=>k_is);(case l24=>k_is);(case c24=>k_is);(case k24=>k_is)
  (case a25=>k_is);(case l25=>k_is);(case c25=>k_is);(case k25=>k_is)
  (case a26=>k_is);(case l26=>k_is);(case c26=>k_is);(case k26=>k_is)
  (case a27=>k_is);(case l27=>k_is);(case c27=>k_is);(case k27=>k_is)
  (case a28=>k_is);(case l28=>k_is);(case c28=>k_is);(case k28=>k_is)
  (case a29=>k_is);(case l29=>k_is);(case c29=>k_is);(case k29=>k_is)
  (case a30=>k_is);(case l30=>k_is);(case c30=>k_is);(case k30=>k_is)
  (case a31=>k_is);(case l31=>k_is);(case c31=>k_is);(case k31=>k_is)
  (case a32=>k_is);(case l32=>k_is);(case c32=>k_is);(case k32=>k_is)
  (case a33=>k_is);(case l33=>k_is);(case c33=>k_is);(case k33=>k_is)
  (case a34=>k_is);(case l34=>k_is);(case c34=>k_is);(case k34=>k_is)
  (case a35=>k_is);(case l35=>k_is);(case c35=>k_is);(case k35=>k_is)
  (case a36=>k_is);(case l36=>k_is);(case c36=>k_is);(case k36=>k_is)
  (case a37=>k_is);(case l37=>k_is);(case c37=>k_is);(case k37=>k_is)
  (case z_abs=>k_is);(case z_all=>k_is);(case z_bool=>k_is);(case z_divmod=>k_is);(case z_enumerate=>k_is);(case z_int=>k_is);(case z_isinstance=>k_is);(case z_len=>k_is);(case z_list=>k_is);(case z_max=>k_is);(case z_min=>k_is);(case z_range=>k_is);(case z_reversed=>k_is);(case z_tuple=>k_is)
