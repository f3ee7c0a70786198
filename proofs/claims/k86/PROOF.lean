
import PyProof.Rows.All
import Wide.All
import OpenK.AllK
import Wide.FinOn
import Lean
import PyProof.EqAt
import PyProof.EqKinds
import PyProof.TupleCall
import PySem.Challenge.RW_stonewalker_k86_whole_told_by_one_stone
set_option linter.all false
def lJa:=@List.getElem?_eq_some_iff
def lJb:=@List.length_map
def lJc:=@List.getElem?_eq_getElem
def lJd:=@Nat.le_refl
def lJe:=@List.mem_of_getElem?
def lJf:=@Bool.false_ne_true
def lJg:=@Nat.zero_le
def lJh:=@List.getElem?_eq_none
def lJi:=@List.size_toArray
def lJj:=@List.getElem?_map
def lJk:=@List.mem_singleton
def lJl:=@Nat.ne_of_lt
def lJm:=@List.map_cons
def lJn:=@List.mem_cons
def lJo:=@List.length_append
def lJp:=@List.mem_map
def lJq:=@List.getElem?_of_mem
def lJr:=@List.map_map
def lJs:=@Nat.le_trans
def lJt:=@List.mem_append
def lJu:=@List.map_append
def lJv:=@List.mem_range
def lJw:=@Nat.lt_or_ge
def lJx:=@Option.some.inj
def lJy:=@Nat.lt_of_lt_of_le
def lJz:=@List.getElem?_set_ne
def lJ0:=@List.getElem?_append_left
def lJ1:=@List.mem_cons_of_mem
def lJ2:=@List.getElem?_set_self
def lJ3:=@List.mem_append_right
def lJ4:=@List.length_cons
def lJ5:=@List.exists_cons_of_length_eq_add_one
def lJ6:=@Nat.succ.inj
def lJ7:=@Int.eq_ofNat_of_zero_le
def lJ8:=@Bool.and_eq_true
def lJ9:=@List.lookup_cons
def lKa:=@List.take_succ
def lKb:=@List.map_congr_left
def lKc:=@List.ext_getElem?
def lKd:=@Bool.false_eq_true
def lKe:=@List.mem_cons_self
def lKf:=@List.take_length
def lKg:=@Classical.byContradiction
def lKh:=@List.append_nil
def lKi:=@List.mem_append_left
def lKj:=@List.nodup_cons
def lKk:=@List.length_take
def lKl:=@List.append_assoc
def lKm:=@List.find?_cons
def lKn:=@Nat.mod_eq_of_lt
def lKo:=@List.length_set
def lKp:=@List.any_cons
def lKq:=@List.length_eq_zero_iff
def lKr:=@Nat.not_lt_zero
def lKs:=@List.replicate_succ
def lKt:=@List.mem_singleton_self
def lKu:=@List.range_succ
def lKv:=@Nat.lt_irrefl
def lKw:=@List.all_cons
def lKx:=@Nat.succ_mul
def lKy:=@List.nodup_append
def lKz:=@List.not_mem_nil
def lK0:=@List.getElem?_inj
def lK1:=@List.length_range
def lK2:=@List.reverse_cons
def lK3:=@List.flatten_cons
def lK4:=@List.all_eq_true
def lK5:=@Nat.mul_le_mul_right
def lK6:=@List.mem_filter
def lK7:=@List.getElem?_append_right
def lK8:=@List.filterMap_append
def lK9:=@List.eraseIdx_eq_take_drop_succ
def lQa:=@List.getElem?_range
def lQb:=@Int.emod_nonneg
def lQc:=@Int.emod_lt_of_pos
def lQd:=@Nat.lt_trichotomy
def lQe:=@List.nodup_iff_pairwise_ne
def lQf:=@List.mem_filterMap
def lQg:=@Option.map_eq_some_iff
def lQh:=@List.getElem?_zipWith
def lQi:=@Array.getElem?_toList
def lQj:=@List.getElem?_replicate
local macro_rules
 | `(tactic| omega) => `(tactic| lia)
set_option Elab.async false
set_option linter.all false
set_option maxRecDepth 100000
namespace L2
open PySem PySem.Spec PyProof.Rows
noncomputable abbrev Key:=Sum Int Str
noncomputable def keyIs:Key->Value->Bool
 | .inl k,v=>Value.isInt k v
 | .inr x,v=>Value.isStrOf x v
noncomputable def keyH (w:World):Key->Int
 | .inl k=>hashInt k
 | .inr x=>hashStr w x
theorem jKi:∀ {k:Key} {v:Value},keyIs k v=true->(∃i t,k=Sum.inl i/\v=Value.int i t)\/(∃x t,k=Sum.inr x/\v=Value.str x t)
 | .inl i,v,h=>by
  obtain⟨t,e⟩:=Value.isInt_shape (k:=i) (v:=v) h
  exact .inl ⟨i,t,rfl,e⟩
 | .inr x,v,h=>by
  obtain⟨t,e⟩:=Value.isStrOf_shape (x:=x) (v:=v) h
  exact .inr ⟨x,t,rfl,e⟩
theorem keyIs_int (i:Int) (t:Tok):keyIs (.inl i) (.int i t)=true:=by simp[keyIs,Value.isInt]
theorem keyIs_str (x:Str) (t:Tok):keyIs (.inr x) (.str x t)=true:=by simp[keyIs,Value.isStrOf]
theorem key_ll (a b:Int):decide ((Sum.inl a:Key)=Sum.inl b)=(a == b):=by
 by_cases e:a=b
 ·subst e;simp
 ·have h:¬ (Sum.inl a:Key)=Sum.inl b:=fun q=>e (Sum.inl.inj q)
  rw[decide_eq_false h]
  exact (beq_eq_false_iff_ne.mpr e).symm
theorem key_rr (a b:Str):decide ((Sum.inr a:Key)=Sum.inr b)=decide (a=b):=by
 by_cases e:a=b
 ·subst e;simp
 ·have h:¬ (Sum.inr a:Key)=Sum.inr b:=fun q=>e (Sum.inr.inj q)
  rw[decide_eq_false h,decide_eq_false e]
theorem key_lr (a:Int) (b:Str):decide ((Sum.inl a:Key)=Sum.inr b)=false:=decide_eq_false (fun q=>nomatch q)
theorem key_rl (a:Str) (b:Int):decide ((Sum.inr a:Key)=Sum.inl b)=false:=decide_eq_false (fun q=>nomatch q)
noncomputable def jKo (prog:Program) (w:World):PySem.KeyKind prog w Key where
 is:=keyIs
 hash:=keyH w
 inj:=fun v a b ha hb=>by
  rcases jKi ha with ⟨i,t,rfl,rfl⟩ | ⟨x,t,rfl,rfl⟩
  ·rcases jKi hb with ⟨j,u,rfl,e⟩ | ⟨y,u,rfl,e⟩
   ·injection e with e1 _;rw[e1]
   ·exact nomatch e
  ·rcases jKi hb with ⟨j,u,rfl,e⟩ | ⟨y,u,rfl,e⟩
   ·exact nomatch e
   ·injection e with e1 _;rw[e1]
 byValue:=fun k v h=>by
  rcases jKi h with ⟨i,t,rfl,rfl⟩ | ⟨x,t,rfl,rfl⟩<;>rfl
 pyHash:=fun hv h=>by
  rcases jKi hv with ⟨i,t,rfl,rfl⟩ | ⟨x,t,rfl,rfl⟩
  ·exact wpAny_pyHash_int h
  ·exact wpAny_pyHash_str h
 eqBool:=fun hu hv h=>by
  rcases jKi hu with ⟨i,t,rfl,rfl⟩ | ⟨x,t,rfl,rfl⟩
  ·rcases jKi hv with ⟨j,u,rfl,rfl⟩ | ⟨y,u,rfl,rfl⟩
   ·rw[key_ll] at h;exact wpAny_eqBool_int h
   ·rw[key_lr] at h;exact SeqAt.EqAt.int_str i t y u _ _ _ _ h
  ·rcases jKi hv with ⟨j,u,rfl,rfl⟩ | ⟨y,u,rfl,rfl⟩
   ·rw[key_rl] at h;exact SeqAt.EqAt.str_int x t j u _ _ _ _ h
   ·rw[key_rr] at h;exact wpAny_eqBool_str h
 «strs» :=fun k x t v h=>by
  rcases jKi h with ⟨i,u,rfl,e⟩ | ⟨y,u,rfl,e⟩
  ·exact nomatch e
  ·injection e with e1 _
   subst e1
   cases v<;>rfl
theorem jY2 (prog:Program) (w:World) (i:Int) (t:Tok):(jKo prog w).is (.inl i) (.int i t)=true:=keyIs_int i t
theorem mixKind_str (prog:Program) (w:World) (x:Str) (t:Tok):(jKo prog w).is (.inr x) (.str x t)=true:=keyIs_str x t
end L2
set_option synthInstance.maxSize 1000
namespace L2
open PySem PySem.Spec PyProof.Rows
structure KeyV (prog:Program) (w:World) (K:Type) [DecidableEq K] (c:Nat) where
 is:Heap->K->Value->Prop
 hash:K->Int
 draws:K->Nat
 inj:∀ {h:Heap} {v:Value} {x y:K},is h x v->is h y v->x=y
 keeps:∀ {h h':Heap} {k:K} {v:Value} {d:Addr} {o:Obj} {es:Array DictEntry} {ep:Nat},is h k v->h.get? d=some o->o.data= .dict es ep->Heap.SameBut d h h'->is h' k v
 hashed:∀ {A:Around} {E:Value->Shared->Prop} {s:Shared} {k:K} {v:Value} {Q:Int->Shared->Prop},A.units+c<cLine->is s.heap k v->Q (hash k) {s with toks:=s.toks+draws k}->wpAny (model prog w) A (PySem.pyHash v) Q E s
 eqAt:∀ {A:Around} {s:Shared} {x y:K} {u v:Value},A.units+c<cLine->is s.heap x u->is s.heap y v->SeqAt.EqAt A s u v (decide (x=y))
 quiet:∀ {A:Around} {E:Value->Shared->Prop} {s:Shared} {k:K} {v:Value} {Q:Bool->Shared->Prop} (n:Nat),c<=n->is s.heap k v->Q true s->wpAny (model prog w) A (eqIsQuiet n v) Q E s
noncomputable def atomVK (prog:Program) (w:World):KeyV prog w Key 0 where
 is:=fun _ k v=>keyIs k v=true
 hash:=keyH w
 draws:=fun _=>1
 inj:=fun hx hy=>(jKo prog w).inj _ _ _ hx hy
 keeps:=fun x _ _ _=>x
 hashed:=fun _ hv h=>(jKo prog w).pyHash hv h
 eqAt:=fun _ hx hy prog' w' _ _ h=>(jKo prog' w').eqBool hx hy h
 quiet:=fun n _ hv h=>by rw[eqIsQuiet_byValue n ((jKo prog w).byValue _ _ hv)];exact wpAny_pure h
section
variable {prog:Program} {w:World} {K:Type} [DecidableEq K] {c:Nat}
inductive ItemsV (V:KeyV prog w K c) (h:Heap):List K->List Value->Prop
 | nil:ItemsV V h [] []
 | cons {k:K} {v:Value} {ks:List K} {vs:List Value}:V.is h k v->ItemsV V h ks vs->ItemsV V h (k::ks) (v::vs)
theorem ItemsV.inj {V:KeyV prog w K c} {h:Heap} {x:List K} {vs:List Value} (hx:ItemsV V h x vs):∀ {y:List K},ItemsV V h y vs->x=y:=by
 induction hx with
 | nil=>intro y hy;cases hy;rfl
 | cons a _ ih=>intro y hy;cases hy with | cons b t=>rw[V.inj a b,ih t]
theorem ItemsV.length {V:KeyV prog w K c} {h:Heap} {x:List K} {vs:List Value} (hx:ItemsV V h x vs):x.length=vs.length:=by
 induction hx with
 | nil=>rfl
 | cons _ _ ih=>simp[ih]
theorem ItemsV.get {V:KeyV prog w K c} {h:Heap} {x:List K} {vs:List Value} (hx:ItemsV V h x vs):∀ {j:Nat} {v:Value},vs[j]? =some v->∃k,x[j]? =some k/\V.is h k v:=by
 induction hx with
 | nil=>intro j v e;simp at e
 | cons a _ ih=>
  intro j v e
  cases j with
  | zero=>simp at e;subst e;exact⟨_,rfl,a⟩
  | succ j=>obtain⟨k,h1,h2⟩:=ih (j:=j) (v:=v) (by simpa using e);exact⟨k,by simpa using h1,h2⟩
theorem ItemsV.keeps {V:KeyV prog w K c} {h h':Heap} {x:List K} {vs:List Value} {d:Addr} {o:Obj} {es:Array DictEntry} {ep:Nat} (hx:ItemsV V h x vs) (ho:h.get? d=some o) (hd:o.data= .dict es ep) (hs:Heap.SameBut d h h'):ItemsV V h' x vs:=by
 induction hx with
 | nil=>exact .nil
 | cons a _ ih=>exact .cons (V.keeps a ho hd hs) ih
def IsTupV (V:KeyV prog w K c) (h:Heap) (ks:List K) (v:Value):Prop:=∃(a:Addr) (o:Obj) (items:Array Value) (n:Nat),v= .ref a/\h.get? a=some o/\o.cls= .type "tuple"/\o.data= .seq items n/\ItemsV V h ks items.toList
theorem all_eq:∀(x y:List K),((List.range (min x.length y.length)).all (fun j=>decide (x[j]? =y[j]?))&&x.length == y.length)=decide (x=y):=by
 intro x y
 by_cases e:x=y
 ·subst e;simp
 ·rw[decide_eq_false e,Bool.and_eq_false_iff]
  by_cases l:x.length=y.length
  ·left
   rw[List.all_eq_false]
   have:∃j:Nat,x[j]? ≠y[j]? :=by
    apply lKg
    intro q
    exact e (lKc fun j=>lKg fun z=>q ⟨j,z⟩)
   obtain⟨j,hj⟩:=this
   refine⟨j,lJv.mpr ?_,by simpa using hj⟩
   rcases lJw j (min x.length y.length) with z | z
   ·exact z
   ·exact absurd (by rw[lJh (by omega),lJh (by omega)]) hj
  ·right;simpa using l
noncomputable def jYy (V:KeyV prog w K c):KeyV prog w (List K) (c+2) where
 is:=IsTupV V
 hash:=fun ks=>reduceHash (Builtin.Tuple.tupleHashOf (ks.map V.hash))
 draws:=fun ks=>(ks.map V.draws).sum+1
 inj:=by
  rintro h v x y ⟨a,o,items,n,rfl,ho,_,hd,hi⟩ ⟨a',o',items',n',e,ho',_,hd',hi'⟩
  cases e
  rw[ho] at ho';cases ho'
  rw[hd] at hd';cases hd'
  exact hi.inj hi'
 keeps:=by
  rintro h h' k v d o es ep ⟨a,o',items,n,rfl,ho',hc,hd',hi⟩ ho hd hs
  have ne:a≠d:=by
   rintro rfl
   rw[ho] at ho';cases ho'
   rw[hd] at hd';cases hd'
  exact⟨a,o',items,n,rfl,(hs.2 a ne).trans ho',hc,hd',hi.keeps ho hd hs⟩
 hashed:=by
  rintro A E s ks v Q hu ⟨a,o,items,n,rfl,ho,hc,hd,hi⟩ h
  refine PySem.W.pyHash_slot (T:="tuple") ⟨o,ho,hc⟩ F.slot_tuple_hash F.entry_tuple_hash (F.args_tuple_hash_1 _) (beq_builtin_none _) (.inr (by omega)) ?_
  refine (show wpAny _ _ (Builtin.Tuple.tupleItemsOf (.ref a) >>= _) _ _ s from wpAny_bind (wpAny_tupleItemsOf ho hd (wpAny_bind ?_)))
  rw[<-Array.forIn_toList]
  refine wpAny_forIn_list _ (fun rest (b:Array Int) z=>∃done left,ks=done++left/\ItemsV V s.heap left rest/\b.toList=done.map V.hash/\z={s with toks:=s.toks+(done.map V.draws).sum}) _ ?_ ?_ _ _ ⟨[],ks,rfl,hi,rfl,rfl⟩
  ·rintro x rest b z ⟨done,left,rfl,hl,hb,rfl⟩
   cases hl with
   | @cons k _ ks' _ h1 hl'=>
    refine wpAny_bind (V.hashed (by rw[Around.in1_units];omega) h1 ?_)
    first
     | exact wpAny_pure ⟨done++[k],ks',by simp,hl',by simp[hb],(by simp[Nat.add_assoc])⟩
     | exact wpAny_bind (wpAny_pure (wpAny_pure ⟨done++[k],ks',by simp,hl',by simp[hb],(by simp[Nat.add_assoc])⟩))
  ·rintro b z ⟨done,left,rfl,hl,hb,rfl⟩
   cases hl
   rw[lKh] at h
   refine (show wpAny _ _ (retInt (Builtin.Tuple.tupleHashOf b.toList)) _ _ _ from ?_)
   rw[hb]
   exact wpAny_bind (wpAny_mkInt (wpAny_pure ⟨_,_,rfl,by simpa[Nat.add_assoc] using h⟩))
 eqAt:=by
  rintro A s x y u v hu ⟨a,o,items,n,rfl,ho,hc,hd,hi⟩ ⟨a',o',items',n',rfl,ho',hc',hd',hi'⟩
  by_cases e:a=a'
  ·subst e
   rw[ho] at ho';cases ho'
   rw[hd] at hd';cases hd'
   rw[hi.inj hi',decide_eq_true rfl]
   exact SeqAt.EqAt.same _
  ·have R:=SeqAt.RcAt.tuples (A:=A) (s:=s) (l:=a) (b:=a') (e:=fun j=>decide (x[j]? =y[j]?)) ⟨o,ho,hc,n,hd⟩ ⟨o',ho',hc',n',hd'⟩ (by omega) (fun j j1 j2=> ?_)
   ·have l1:=hi.length
    have l2:=hi'.length
    rw[<-all_eq x y,l1,l2]
    have R':=SeqAt.EqAt.of_refs e R
    simpa using R'
   ·obtain⟨k,h1,h2⟩:=hi.get (j:=j) (v:=items[j]) (by simp[j1])
    obtain⟨k',h1',h2'⟩:=hi'.get (j:=j) (v:=items'[j]) (by simp[j2])
    have:=V.eqAt (A:=A.in1) (s:=s) (by rw[Around.in1_units];omega) h2 h2'
    rw[h1,h1']
    simpa using this
 quiet:=by
  rintro A E s ks v Q n hn ⟨a,o,items,m,rfl,ho,hc,hd,hi⟩ h
  obtain⟨n,rfl⟩:∃nn,n=nn+1:=⟨n-1,by omega⟩
  have hT:s.TypeIs (.ref a) "tuple":=⟨o,ho,hc⟩
  unfold eqIsQuiet;refine wpAny_bind (wpAny_specialOf hT F.slot_tuple_eq.lookup ?_)
  refine (show wpAny _ _ (isInstance (.ref a) (.type "tuple") >>= _) _ _ s from wpAny_bind (wpAny_isInstance hT isSubtype_tuple_tuple ?_))
  simp only[if_false,Bool.not_true,lKd]
  refine wpAny_bind (wpAny_seqItems ho hd (wpAny_bind ?_))
  refine (show wpAny _ _ (forIn items _ _) _ _ s from ?_)
  rw[<-Array.forIn_toList]
  refine wpAny_forIn_list _ (fun rest r z=>r.1=none/\z=s/\∃left,ItemsV V s.heap left rest) _ ?_ ?_ _ _ ⟨rfl,rfl,ks,hi⟩
  ·rintro x rest r z ⟨hr,rfl,left,hl⟩
   cases hl with
   | cons h1 hl'=>
    refine wpAny_bind (V.quiet n (by omega) h1 ?_)
    simp only[if_false,Bool.not_true,lKd]
    exact wpAny_pure ⟨rfl,rfl,_,hl'⟩
  ·rintro⟨r1,r2⟩ z ⟨hr,rfl,_⟩
   simp only at hr;subst hr
   exact wpAny_pure h
theorem dec_inl {α β:Type} [DecidableEq α] [DecidableEq β] (a b:α):decide ((Sum.inl a:α ⊕ β)=Sum.inl b)=decide (a=b):=by
 by_cases e:a=b
 ·simp[e]
 ·rw[decide_eq_false e,decide_eq_false fun z=>e (Sum.inl.inj z)]
theorem dec_inr {α β:Type} [DecidableEq α] [DecidableEq β] (a b:β):decide ((Sum.inr a:α ⊕ β)=Sum.inr b)=decide (a=b):=by
 by_cases e:a=b
 ·simp[e]
 ·rw[decide_eq_false e,decide_eq_false fun z=>e (Sum.inr.inj z)]
noncomputable def sumVK (V:KeyV prog w K c):KeyV prog w (Key ⊕ List K) (c+2) where
 is:=fun h k v=>match k with
  | .inl k=>keyIs k v=true
  | .inr ks=>IsTupV V h ks v
 hash:=fun k=>match k with
  | .inl k=>keyH w k
  | .inr ks=>(jYy V).hash ks
 draws:=fun k=>match k with
  | .inl _=>1
  | .inr ks=>(jYy V).draws ks
 inj:=by
  rintro h v (x | x) (y | y) hx hy
  ·rw[(jKo prog w).inj _ _ _ hx hy]
  ·obtain⟨a,_,_,_,rfl,_⟩:=hy
   rcases jKi hx with ⟨i,t,_,e⟩ | ⟨i,t,_,e⟩<;>cases e
  ·obtain⟨a,_,_,_,rfl,_⟩:=hx
   rcases jKi hy with ⟨i,t,_,e⟩ | ⟨i,t,_,e⟩<;>cases e
  ·rw[(jYy V).inj hx hy]
 keeps:=by
  rintro h h' (k | k) v d o es ep hx ho hd hs
  ·exact hx
  ·exact (jYy V).keeps hx ho hd hs
 hashed:=by
  rintro A E s (k | k) v Q hu hx h
  ·exact (jKo prog w).pyHash hx h
  ·exact (jYy V).hashed hu hx h
 eqAt:=by
  rintro A s (x | x) (y | y) u v hu hx hy
  ·rw[dec_inl]
   exact (atomVK prog w).eqAt (by omega) hx hy
  ·rw[decide_eq_false fun z=>nomatch z]
   obtain⟨a,o,items,n,rfl,ho,hc,hd,_⟩:=hy
   rcases jKi hx with ⟨i,t,_,rfl⟩ | ⟨i,t,_,rfl⟩
   ·exact SeqAt.EqAt.int_tuple i t ⟨o,ho,hc,n,hd⟩ (by omega)
   ·exact SeqAt.EqAt.str_tuple i t ⟨o,ho,hc,n,hd⟩ (by omega)
  ·rw[decide_eq_false fun z=>nomatch z]
   obtain⟨a,o,items,n,rfl,ho,hc,hd,_⟩:=hx
   rcases jKi hy with ⟨i,t,_,rfl⟩ | ⟨i,t,_,rfl⟩
   ·exact SeqAt.EqAt.tuple_int i t ⟨o,ho,hc,n,hd⟩ (by omega)
   ·exact SeqAt.EqAt.tuple_str i t ⟨o,ho,hc,n,hd⟩ (by omega)
  ·rw[dec_inr]
   exact (jYy V).eqAt hu hx hy
 quiet:=by
  rintro A E s (k | k) v Q n hn hx h
  ·exact (atomVK prog w).quiet n (lJg _) hx h
  ·exact (jYy V).quiet n hn hx h
end
noncomputable abbrev K1:=Key ⊕ List Key
noncomputable abbrev K2:=Key ⊕ List K1
noncomputable abbrev TKey:=List K2
noncomputable def vk1 (prog:Program) (w:World):KeyV prog w K1 2:=sumVK (atomVK prog w)
noncomputable def vk2 (prog:Program) (w:World):KeyV prog w K2 4:=sumVK (vk1 prog w)
noncomputable def jVp (prog:Program) (w:World):HeapKind prog w TKey where
 is:=fun h ks a=>(jYy (vk2 prog w)).is h ks (.ref a)
 hash:=(jYy (vk2 prog w)).hash
 draws:=(jYy (vk2 prog w)).draws
 room:=fun A=>A.units+6<cLine
 inj:=fun hx hy=>(jYy (vk2 prog w)).inj hx hy
 keeps:=fun x ho hd hs=>(jYy (vk2 prog w)).keeps x ho hd hs
 pyHash:=fun hu hk h=>(jYy (vk2 prog w)).hashed hu hk h
 eqBool:=fun hu hx hy h=>(jYy (vk2 prog w)).eqAt hu hx hy _ _ _ _ h
 quiet:=fun hk h=>(jYy (vk2 prog w)).quiet 8 (by decide) hk h
theorem jUn {prog:Program} {w:World} {A:Around} (hu:A.units+20<cLine):(jVp prog w).room A.in1:=by
 show A.in1.units+6<cLine
 rw[Around.in1_units];omega
inductive V where
 | non | bl (b:Bool) | int (i:Int) | str (x:Str) | byt (b:Array UInt8) | flt (b:UInt64) | ref (a:Addr) | ty (n:String)
 deriving DecidableEq
noncomputable def RelV:V->Value->Prop
 | .non,u=>u=Value.none
 | .bl b,u=>u=Value.bool b
 | .int i,u=>∃t,u=Value.int i t
 | .str x,u=>∃t,u=Value.str x t
 | .byt b,u=>∃t,u=Value.bytes b t
 | .flt b,u=>∃t,u=Value.float b t
 | .ref a,u=>u=Value.ref a
 | .ty n,u=>u=Value.type n
noncomputable abbrev Vals:List V->List Value->Prop:=Paired RelV
theorem Vals.length {xs:List V} {us:List Value} (r:Vals xs us):xs.length=us.length:=Paired.length r
theorem Vals.get:∀ {xs:List V} {us:List Value} {i:Nat} {x:V},Vals xs us->xs[i]? =some x->∃u,us[i]? =some u/\RelV x u
 | _,_,_,_,.nil,e=>by simp at e
 | _,_,0,_,.cons r _,e=>by simp at e;subst e;exact⟨_,rfl,r⟩
 | _,_,i+1,x,.cons _ t,e=>by
  obtain⟨u,h1,h2⟩:=Vals.get (i:=i) (x:=x) t (by simpa using e)
  exact⟨u,by simpa using h1,h2⟩
theorem Vals.set {x:V} {u:Value} (r:RelV x u):∀ {xs:List V} {us:List Value} (i:Nat),Vals xs us->Vals (xs.set i x) (us.set i u)
 | _,_,_,.nil=> .nil
 | _,_,0,.cons _ t=> .cons r t
 | _,_,i+1,.cons q t=> .cons q (Vals.set r i t)
theorem Vals.append:∀ {xs ys:List V} {us ws:List Value},Vals xs us->Vals ys ws->Vals (xs++ys) (us++ws)
 | _,_,_,_,.nil,s=>s
 | _,_,_,_,.cons r t,s=> .cons r (Vals.append t s)
theorem Vals.take:∀ {xs:List V} {us:List Value} (n:Nat),Vals xs us->Vals (xs.take n) (us.take n)
 | _,_,0,_=> .nil
 | _,_,_+1,.nil=> .nil
 | _,_,n+1,.cons r t=> .cons r (Vals.take n t)
theorem Vals.drop:∀ {xs:List V} {us:List Value} (n:Nat),Vals xs us->Vals (xs.drop n) (us.drop n)
 | _,_,0,r=>r
 | _,_,_+1,.nil=> .nil
 | _,_,n+1,.cons _ t=>Vals.drop n t
noncomputable def RelO:Option V->Option Value->Prop
 | some v,some u=>RelV v u
 | none,none=>True
 | _,_=>False
noncomputable def KV {κ:Type}:List (κ×V)->List (κ×Value)->Prop:=Paired fun (p:κ×V) (q:κ×Value)=>p.1=q.1/\RelV p.2 q.2
noncomputable def kV:Key->V
 | .inl i=> .int i
 | .inr x=> .str x
inductive HO where
  | lst (xs:List V)
  | tup (xs:List V)
  | dK (kvs:List (Key×V)) | dT (kvs:List (TKey×V))
  | set (S:Int->Bool) (n:Nat)
  | ins (C dx:Addr) (fs:List (Str×V))
  | own (x:Addr)
  | xd (fs:List (Str×V))
  | met (f x:Addr)
  | rng (lo hi:Int)
  | frz (o:Obj) (u:HO)
  | tbl (ps:Array Value)
  | ext (φ:Heap->Prop)
noncomputable abbrev Hp:=Addr->Option HO
noncomputable def upd (H:Hp) (a:Addr) (o:HO):Hp:=fun b=>if b=a then some o else H b
theorem jK7 {H:Hp} {a:Addr} {o:HO}:upd H a o a=some o:=by unfold upd;rw[if_pos rfl]
theorem jKp {H:Hp} {a b:Addr} {o:HO} (h:b≠a):upd H a o b=H b:=by unfold upd;rw[if_neg h]
theorem ne_of {H:Hp} {a b:Addr} {o u:HO} (h:H a=some o) (h':H b=some u) (d:o≠u):a≠b:=by
 intro e;subst e;rw[h] at h';exact d (lJx h')
theorem jXa {H:Hp} {a b:Addr} {o:HO} (h:H a=some o) (h':H b=none):a≠b:=by
 intro e;subst e;rw[h] at h';cases h'
def Rk1 (H:Hp) (k:K1) (v:V):Prop:=match k with
 | .inl k=>v=kV k
 | .inr ks=>∃p vs,v= .ref p/\H p=some (.tup vs)/\Paired (fun k v=>v=kV k) ks vs
def Rk2 (H:Hp) (k:K2) (v:V):Prop:=match k with
 | .inl k=>v=kV k
 | .inr ks=>∃p vs,v= .ref p/\H p=some (.tup vs)/\Paired (Rk1 H) ks vs
def TKeyAt (H:Hp) (ks:TKey) (a:Addr):Prop:=∃vs,H a=some (.tup vs)/\Paired (Rk2 H) ks vs
theorem jY0 {α β:Type} {F G:α->β->Prop} (f:∀a b,F a b->G a b):∀ {l:List α} {m:List β},Paired F l m->Paired G l m
 | _,_,.nil=> .nil
 | _,_,.cons r t=> .cons (f _ _ r) (jY0 f t)
theorem Rk1.mono {H H':Hp} (ht:∀b ys,H b=some (.tup ys)->H' b=some (.tup ys)) (k:K1) (v:V) (r:Rk1 H k v):Rk1 H' k v:=by
 cases k with
 | inl k=>exact r
 | inr ks=>obtain⟨p,vs,e,h,t⟩:=r;exact⟨p,vs,e,ht _ _ h,t⟩
theorem Rk2.mono {H H':Hp} (ht:∀b ys,H b=some (.tup ys)->H' b=some (.tup ys)) (k:K2) (v:V) (r:Rk2 H k v):Rk2 H' k v:=by
 cases k with
 | inl k=>exact r
 | inr ks=>obtain⟨p,vs,e,h,t⟩:=r;exact⟨p,vs,e,ht _ _ h,jY0 (Rk1.mono ht) t⟩
theorem TKeyAt.mono {H H':Hp} {ks:TKey} {a:Addr} (r:TKeyAt H ks a) (ht:∀b ys,H b=some (.tup ys)->H' b=some (.tup ys)):TKeyAt H' ks a:=by
 obtain⟨vs,h,t⟩:=r;exact⟨vs,ht _ _ h,jY0 (Rk2.mono ht) t⟩
section
variable (P:Program) (w:World)
def TupD (h:Heap) (a:Addr) (items:Array Value):Prop:=∃o,h.get? a=some o/\o.cls= .type "tuple"/\∃n,o.data= .seq items n/\o.dict=none
theorem TupD.is {h:Heap} {a:Addr} {items:Array Value} (x:TupD h a items):IsTup h a items:=let ⟨o,e,c,n,d,_⟩:=x;⟨o,e,c,n,d⟩
theorem TupD.new (h:Heap) (items:Array Value):TupD (h.push {cls:= .type "tuple",data:= .seq items}) h.objs.size items:=⟨_,Heap.get?_push_size _ rfl,rfl,_,rfl,rfl⟩
noncomputable def ObjOk (H:Hp) (h:Heap) (a:Addr):HO->Prop
 | .lst xs=>xs.length<=sizeLine/\∃(its:List Value) (n:Nat),Vals xs its/\h.get? a=some {cls:= .type "list",data:= .seq its.toArray n}
 | .tup xs=>xs.length<=sizeLine/\∃its:List Value,Vals xs its/\TupD h a its.toArray
 | .dK kvs=>kvs.length<=sizeLine/\(a == sysModules)=false/\∃vs,KV kvs vs/\h.DictOf (jKo P w) a vs
 | .dT kvs=>kvs.length<=sizeLine/\(a == sysModules)=false/\∃xs:List (TKey×Addr×Value),
   Paired (fun (p:TKey×V) (q:TKey×Addr×Value)=>p.1=q.1/\TKeyAt H p.1 q.2.1/\RelV p.2 q.2.2) kvs xs/\
   ∃o es ep,h.get? a=some o/\o.ExactDict/\o.data= .dict es ep/\es.toList=xs.map (entryOfKey (jVp P w))/\(xs.map (·.1)).Nodup
 | .set S n=>h.SetOf (intKind P w) a S n
 | .ins C dx fs=>H dx=some (.own a)/\fs.length<=1000/\dx≠a/\h.get? a=some (PySem.W.instObj C dx)/\
   ∃mA,h.Ns1 dx mA/\(∀f,RelO (fs.lookup f) (mA f))/\PySem.Within mA (fs.map (·.1))
 | .own _=>∃o,h.get? a=some o
 | .xd fs=>∃mA,h.Ns1 a mA/\∀f,RelO (fs.lookup f) (mA f)
 | .rng lo hi=>∃t u v,h.get? a=some {cls:= .type "range",data:= .fields #[.int lo t,.int hi u,.int 1 v]}
 | .frz o u=>h.get? a=some o/\ObjOk H h a u
 | .tbl ps=>h.get? a=some {cls:= .none,data:= .fields ps}
 | .met f x=>h.get? a=some (PySem.W.methodObj (.ref f) (.ref x))
 | .ext φ=>φ h/\(∃o,h.get? a=some o)/\∀h1 h2:Heap,φ h1->(∀o,h1.get? a=some o->h2.get? a=some o)->φ h2
def HOk (H:Hp) (h:Heap):Prop:=∀a o,H a=some o->ObjOk P w H h a o
end
section
variable {P:Program} {w:World} {H H':Hp} {h h':Heap} {a:Addr} {o:HO}
theorem ObjOk.lt (x:ObjOk P w H h a o):a<h.objs.size:=by
 cases o with
 | lst xs=>obtain⟨_,_,_,_,e⟩:=x;exact Heap.lt_size e
 | tup xs=>obtain⟨_,_,_,p⟩:=x;exact p.is.lt
 | dK kvs=>obtain⟨_,_,_,_,o,_,_,e,_⟩:=x;exact Heap.lt_size e
 | dT kvs=>obtain⟨_,_,_,_,o,_,_,e,_⟩:=x;exact Heap.lt_size e
 | set S n=>obtain⟨o,_,_,_,e,_⟩:=x;exact Heap.lt_size e
 | ins C dx fs=>obtain⟨_,_,_,e,_⟩:=x;exact Heap.lt_size e
 | own y=>obtain⟨_,e⟩:=x;exact Heap.lt_size e
 | xd fs=>obtain⟨_,⟨_,_,_,e,_⟩,_⟩:=x;exact Heap.lt_size e
 | rng lo hi=>obtain⟨_,_,_,e⟩:=x;exact Heap.lt_size e
 | frz ob u=>obtain⟨e,_⟩:=x;exact Heap.lt_size e
 | tbl ps=>exact Heap.lt_size (show h.get? a=some _ from x)
 | met f y=>exact Heap.lt_size (show h.get? a=some _ from x)
 | ext φ=>obtain⟨_,⟨_,e⟩,_⟩:=x;exact Heap.lt_size e
theorem Paired.mapP {α β:Type} {F G:α->β->Prop}:∀ {l₁:List α} {l₂:List β},Paired F l₁ l₂->(∀a b,F a b->G a b)->Paired G l₁ l₂
 | _,_,.nil,_=> .nil
 | _,_,.cons r t,f=> .cons (f _ _ r) (Paired.mapP t f)
theorem ObjOk.stay (x:ObjOk P w H h a o) (k:∀b u,(b=a\/H b=some (.own a))->h.get? b=some u->h'.get? b=some u)
  (ho:∀b,H b=some (.own a)->H' b=some (.own a)) (ht:∀b xs,H b=some (.tup xs)->H' b=some (.tup xs)):ObjOk P w H' h' a o:=by
 induction o with
 | lst xs=>obtain⟨z,its,n,r,e⟩:=x;exact⟨z,its,n,r,k _ _ (.inl rfl) e⟩
 | tup xs=>obtain⟨z,its,r,ob,e,c⟩:=x;exact⟨z,its,r,ob,k _ _ (.inl rfl) e,c⟩
 | dK kvs=>obtain⟨z,y,vs,r,ob,es,ep,e,c⟩:=x;exact⟨z,y,vs,r,ob,es,ep,k _ _ (.inl rfl) e,c⟩
 | dT kvs=>
  obtain⟨z,y,xs,r,ob,es,ep,e,c⟩:=x
  exact⟨z,y,xs,Paired.mapP r fun p q z=>⟨z.1,z.2.1.mono ht,z.2.2⟩,ob,es,ep,k _ _ (.inl rfl) e,c⟩
 | set S n=>obtain⟨ob,es,ep,t,e,c⟩:=x;exact⟨ob,es,ep,t,k _ _ (.inl rfl) e,c⟩
 | ins C dx fs=>
  obtain⟨d,z,ne,e,mA,⟨od,es,ep,e2,c⟩,r⟩:=x
  exact⟨ho _ d,z,ne,k _ _ (.inl rfl) e,mA,⟨od,es,ep,k _ _ (.inr d) e2,c⟩,r⟩
 | own y=>obtain⟨ob,e⟩:=x;exact⟨ob,k _ _ (.inl rfl) e⟩
 | xd fs=>obtain⟨mA,⟨od,es,ep,e,c⟩,r⟩:=x;exact⟨mA,⟨od,es,ep,k _ _ (.inl rfl) e,c⟩,r⟩
 | rng lo hi=>obtain⟨t,u,v,e⟩:=x;exact⟨t,u,v,k _ _ (.inl rfl) e⟩
 | frz ob u ih=>obtain⟨e,q⟩:=x;exact⟨k _ _ (.inl rfl) e,ih q⟩
 | tbl ps=>
  have e:h.get? a=some {cls:= .none,data:= .fields ps}:=x
  show h'.get? a=some {cls:= .none,data:= .fields ps}
  exact k a _ (.inl rfl) e
 | met f y=>
  have e:h.get? a=some (PySem.W.methodObj (.ref f) (.ref y)):=x
  show h'.get? a=some (PySem.W.methodObj (.ref f) (.ref y))
  exact k a _ (.inl rfl) e
 | ext φ=>obtain⟨p,⟨o,e⟩,st⟩:=x;exact⟨st _ _ p fun o q=>k _ _ (.inl rfl) q,⟨o,k _ _ (.inl rfl) e⟩,st⟩
theorem HOk.lt (x:HOk P w H h) (e:H a=some o):a<h.objs.size:=(x a o e).lt
theorem HOk.fresh (x:HOk P w H h) (e:h.objs.size<=a):H a=none:=by
 cases q:H a with
 | none=>rfl
 | some u=>exact absurd (lJy (x.lt q) e) (lKv _)
theorem HOk.kept (x:HOk P w H h) (k:∀b u,h.get? b=some u->h'.get? b=some u):HOk P w H h':=fun a o e=>
 (x a o e).stay (fun b u _ q=>k b u q) (fun _ q=>q) fun _ _ q=>q
theorem HOk.laid (x:HOk P w H h) (k:∀b u,h.get? b=some u->h'.get? b=some u) (hp:h.objs.size<=a) (new:ObjOk P w (upd H a o) h' a o):HOk P w (upd H a o) h':=fun b u e=>by
 have hn:=x.fresh hp
 by_cases hb:b=a
 ·subst hb;rw[jK7] at e;cases e;exact new
 ·rw[jKp hb] at e
  exact (x b u e).stay (fun c v _ q=>k c v q) (fun c q=>by rw[jKp (jXa q hn)];exact q) fun c xs q=>by rw[jKp (jXa q hn)];exact q
end
def Rd (H:Hp) (a:Addr) (u:HO):Prop:=H a=some u\/∃o,H a=some (.frz o u)
theorem Rd.ok {P:Program} {w:World} {H:Hp} {h:Heap} {a:Addr} {u:HO} (r:Rd H a u) (x:HOk P w H h):ObjOk P w H h a u:=by
 rcases r with r | ⟨o,r⟩
 ·exact x a u r
 ·obtain⟨_,q⟩:=x a _ r
  exact q
noncomputable def Mut:Option HO->Prop
 | some (.lst _)=>True
 | some (.dK _)=>True
 | some (.dT _)=>True
 | some (.set _ _)=>True
 | some (.ins _ _ _)=>True
 | some (.ext _)=>True
 | _=>False
section
variable {P:Program} {w:World} {H:Hp} {h h':Heap} {x e:Addr} {o':HO}
theorem HOk.write (ok:HOk P w H h) (mu:Mut (H x)) (he:e=x\/H e=some (.own x)) (k:∀b u,b≠e->h.get? b=some u->h'.get? b=some u) (heo:∃u,h'.get? e=some u)
  (new:ObjOk P w (upd H x o') h' x o'):HOk P w (upd H x o') h':=fun b u q=>by
 have nown:∀c y,H c=some (.own y)->c≠x:=fun c y r z=>by subst z;rw[r] at mu;exact mu
 have ntup:∀c xs,H c=some (.tup xs)->c≠x:=fun c xs r z=>by subst z;rw[r] at mu;exact mu
 by_cases hb:b=x
 ·subst hb;rw[jK7] at q;cases q;exact new
 ·rw[jKp hb] at q
  by_cases hbe:b=e
  ·have q':H b=some (.own x):=by
    rcases he with z | z
    ·exact absurd (hbe.trans z) hb
    ·rw[hbe];exact z
   rw[q] at q';cases q'
   obtain⟨v,hv⟩:=heo
   exact⟨v,by rw[hbe];exact hv⟩
  ·refine (ok b u q).stay (fun c v hc r=>k c v ?_ r) (fun c r=>by rw[jKp (nown c b r)];exact r) fun c xs r=>by rw[jKp (ntup c xs r)];exact r
   rcases hc with rfl | hc
   ·exact hbe
   ·rintro rfl
    rcases he with z | z
    ·exact nown c b hc z
    ·rw[hc] at z;cases z;exact hb rfl
end
structure Un (fs ex:List Addr) (H H':Hp) (h h':Heap):Prop where
 keep:∀b o,h.get? b=some o->H b=none->b∉fs->b∉ex->h'.get? b=some o
 slot:∀b o,h.get? b=some o->H b=none->b∈fs->b∉ex->∃sl,h'.get? b=some {o with slots:=sl}
 free:∀b o,h.get? b=some o->H b=none->b∉ex->H' b=none
 there:∀b o,h.get? b=some o->b∉ex->∃o',h'.get? b=some o'
 tups:∀b xs,H b=some (.tup xs)->H' b=some (.tup xs)
 frzs:∀b o u,H b=some (.frz o u)->H' b=some (.frz o u)
 tbls:∀b ps,H b=some (.tbl ps)->∃more,H' b=some (.tbl (ps++more))
section
variable {fs fs' ex ex':List Addr} {H H1 H2:Hp} {h h1 h2 h':Heap} {a x e:Addr} {o:HO}
theorem Un.any (u:Un fs ex H H1 h h1) {b:Addr} {ob:Obj} (q:h.get? b=some ob) (n:H b=none) (hx:b∉ex):∃sl,h1.get? b=some {ob with slots:=sl}:=by
 by_cases hb:b∈fs
 ·exact u.slot b ob q n hb hx
 ·exact⟨ob.slots,u.keep b ob q n hb hx⟩
theorem Un.kept (k:∀b u,h.get? b=some u->h'.get? b=some u):Un fs ex H H h h':=
 ⟨fun b ob q _ _ _=>k b ob q,fun b ob q _ _ _=>⟨ob.slots,k b ob q⟩,fun _ _ _ n _=>n,fun b ob q _=>⟨ob,k b ob q⟩,fun _ _ q=>q,fun _ _ _ q=>q,fun _ ps q=>⟨#[],by rw[q];simp⟩⟩
theorem Un.refl:Un fs ex H H h h:=Un.kept fun _ _ q=>q
theorem Un.laid (k:∀b u,h.get? b=some u->h'.get? b=some u) (hp:h.objs.size<=a) (hn:H a=none):Un fs ex H (upd H a o) h h' where
 keep:=fun b u q _ _ _=>k b u q
 slot:=fun b u q _ _ _=>⟨u.slots,k b u q⟩
 free:=fun b u q n _=>by rw[jKp (lJl (lJy (Heap.lt_size q) hp))];exact n
 there:=fun b u q _=>⟨u,k b u q⟩
 tups:=fun b xs q=>by rw[jKp (jXa q hn)];exact q
 frzs:=fun b u xs q=>by rw[jKp (jXa q hn)];exact q
 tbls:=fun b ps q=>⟨#[],by rw[jKp (jXa q hn),q];simp⟩
theorem Un.write (mu:Mut (H x)) (he:e=x\/H e=some (.own x)) (k:∀b u,b≠e->h.get? b=some u->h'.get? b=some u) (heo:∃u,h'.get? e=some u):Un fs ex H (upd H x o) h h':=by
 have hx:∀b,H b=none->b≠x:=fun b n z=>by subst z;rw[n] at mu;exact mu
 have hb:∀b,H b=none->b≠e:=fun b n z=>by
  subst z
  rcases he with r | r
  ·exact hx b n r
  ·rw[n] at r;cases r
 have hm:∀b u,H b=some u->¬ Mut (some u)->b≠x:=fun b u q nm z=>by subst z;rw[q] at mu;exact nm mu
 refine⟨fun b u q n _ _=>k b u (hb b n) q,fun b u q n _ _=>⟨u.slots,k b u (hb b n) q⟩,fun b u q n _=>by rw[jKp (hx b n)];exact n,fun b u q _=> ?_,
  fun b xs q=>by rw[jKp (hm b _ q fun z=>z)];exact q,fun b u xs q=>by rw[jKp (hm b _ q fun z=>z)];exact q,fun b ps q=>⟨#[],by rw[jKp (hm b _ q fun z=>z),q];simp⟩⟩
 by_cases hbe:b=e
 ·subst hbe;exact heo
 ·exact⟨u,k b u hbe q⟩
end
noncomputable def trk (h:Heap) (H:Hp):List Addr:=(List.range h.objs.size).filter fun a=>(H a).isSome
noncomputable def hidT (h:Heap) (H:Hp):Heap:=PySem.W.hideAll h (trk h H)
theorem hidT_size (h:Heap) (H:Hp):(hidT h H).objs.size=h.objs.size:=PySem.W.hideAll_size _ _
theorem hidT_get {h:Heap} {H:Hp} {b:Addr} {o:Obj} (e:h.get? b=some o) (n:H b=none):(hidT h H).get? b=some o:=
 PySem.W.hideAll_get _ e fun hm=>by
  have q:(H b).isSome=true:=(lK6.mp hm).2
  rw[n] at q;simp at q
theorem of_hidT {h:Heap} {H:Hp} {b:Addr} {o:Obj} (e:(hidT h H).get? b=some o):h.get? b=some o/\H b=none:=by
 have e':h.get? b=some o:=PySem.W.of_hideAll (trk h H) e
 refine⟨e',?_⟩
 cases q:H b with
 | none=>rfl
 | some x=>
  have hm:b∈trk h H:=lK6.mpr ⟨lJv.mpr (Heap.lt_size e'),by simp[q]⟩
  have z:(hidT h H).get? b=none:=PySem.W.hideAll_none (trk h H) hm
  rw[z] at e;cases e
noncomputable def allNews (g h:Heap) (L:Addr):List (Addr×Obj):=(List.range h.objs.size).filterMap fun a=>if a=L\/(g.get? a).isSome=true then none else (h.get? a).map fun o=>(a,o)
noncomputable def rest (g h:Heap) (L d:Addr):List (Addr×Obj):=(allNews g h L).filter fun p=>decide (p.1≠d)
structure Mod (K:PySem.W.Frag) (mg:Str->Option Value) (base:Heap):Prop where
 kin:K.In base
 glob:base.Ns mainGlobals mg
 blt:∃mb,base.Ns builtinsNs mb/\∀x:Str,x≠"__name__"->mb x=bootBuiltins x
 nolimit:base.NoLimit
structure Cx where
 prog:Program
 w:World
 K:PySem.W.Frag
 mg:Str->Option Value
 base:Heap
 A:Around
 N:List Str
 s₀:Shared
 H₀:Hp
 env:Env
 outer:List Env
 stack:List Env
 ex:List Addr
 fn:Str->Bool
 calm:Bool
 pn:List (Addr×Obj)
 xe:Value->Shared->Prop
noncomputable def frs (l:List Env):List Addr:=l.filterMap (·.frame)
noncomputable abbrev Cx.fs (X:Cx):List Addr:=frs X.outer
def Vis (sc:Scope) (x:Str):Prop:=sc.names.lookup x=some .local\/sc.names.lookup x=some .cell\/sc.names.lookup x=some .free
def Loc (sc:Scope) (x:Str):Prop:=sc.names.lookup x=some .local\/sc.names.lookup x=some .cell
def Look (env:Env) (h:Heap) (m:Str->Option Value) (x:Str) (u:Value):Prop:=
 (env.kindOf x=some .local/\m x=some u)\/((env.kindOf x=some .cell\/env.kindOf x=some .free)/\∃c,env.cells.lookup x=some c/\h.IsCell c (some u))
structure Cx.Ok (X:Cx):Prop where
 mod:Mod X.K X.mg X.base
 kind:X.env.scope.kind= .function
 glob:X.env.globals=mainGlobals
 blt:X.env.builtins=builtinsNs
 above:X.s₀.heap.objs.size<=X.env.locals
 inj:∀x y c,X.env.cells.lookup x=some c->X.env.cells.lookup y=some c->x=y
 has:∀x,(X.env.kindOf x=some .cell\/X.env.kindOf x=some .free)->∃c,X.env.cells.lookup x=some c
 cab:∀x c,X.fn x=true->X.env.cells.lookup x=some c->X.s₀.heap.objs.size<=c
 hd:X.calm=true->X.A.handled=none
 gd:X.calm=true->X.A.guards=some []
 frames:X.A.frames=some X.stack
 stk:X.stack=X.outer\/(X.stack=X.env::X.outer/\X.env.frame=some X.env.locals)
 exf:∀b∈X.ex,b≠X.env.locals/\∀x c,X.env.cells.lookup x=some c->c≠b
 bs:∀b o,X.base.get? b=some o->X.s₀.heap.get? b=some o/\X.H₀ b=none
 bsz:X.base.objs.size<=X.s₀.heap.objs.size
 noex:∀b o,X.base.get? b=some o->b∉X.ex
 exfs:∀b∈X.ex,b∉X.fs
 funs:X.s₀.heap.FunFrames X.base X.outer
 frf:∀b∈X.fs,X.H₀ b=none
structure Inv (X:Cx) (pins:List (Addr×Obj)) (σ:List (Option V)) (H:Hp) (s:Shared):Prop where
 ok:X.Ok
 os:s.os=X.s₀.os
 bare:AllBare s.gens
 base:Un X.fs X.ex X.H₀ H X.s₀.heap s.heap
 loc:∃m,s.heap.Ns X.env.locals m/\∀(i:Nat) (x:Str) (v:V),X.N[i]? =some x->σ[i]? =some (some v)->Vis X.env.scope x->∃u,RelV v u/\Look X.env s.heap m x u
 cell:∀x c,X.env.cells.lookup x=some c->∃v,s.heap.IsCell c v
 free:H X.env.locals=none
 freeC:∀x c,X.env.cells.lookup x=some c->H c=none
 pin:∀p∈X.pn++pins,s.heap.get? p.1=some p.2/\H p.1=none/\p.1≠X.env.locals/\p.1∉X.fs/\∀v,p.2.data≠ .cell v
 hok:HOk X.prog X.w H s.heap
 len:σ.length=X.N.length
section
variable {X:Cx} {pins:List (Addr×Obj)} {σ:List (Option V)} {H H':Hp} {s:Shared} {h':Heap}
theorem Cx.Ok.nofr (ok:X.Ok) {b:Addr} {o:Obj} (e:X.base.get? b=some o):b∉X.fs:=fun hb=>by
 have:=(ok.funs.mem hb).1
 rw[e] at this;cases this
theorem Inv.bs (I:Inv X pins σ H s):∀b o,X.base.get? b=some o->s.heap.get? b=some o/\H b=none:=fun b o e=>
 ⟨I.base.keep b o (I.ok.bs b o e).1 (I.ok.bs b o e).2 (I.ok.nofr e) (I.ok.noex b o e),I.base.free b o (I.ok.bs b o e).1 (I.ok.bs b o e).2 (I.ok.noex b o e)⟩
theorem Inv.bk (I:Inv X pins σ H s):∀b o,X.base.get? b=some o->s.heap.get? b=some o:=fun b o e=>(I.bs b o e).1
theorem Inv.mod (I:Inv X pins σ H s):Mod X.K X.mg X.base:=I.ok.mod
theorem Inv.kIn (I:Inv X pins σ H s):X.K.In s.heap:=I.ok.mod.kin.keeps I.bk
theorem Inv.lt (I:Inv X pins σ H s):X.env.locals<s.heap.objs.size:=let ⟨_,hn,_⟩:=I.loc;hn.lt
theorem Inv.sz (I:Inv X pins σ H s):X.s₀.heap.objs.size<=s.heap.objs.size:=lJs I.ok.above (Nat.le_of_lt I.lt)
theorem Inv.nofs (I:Inv X pins σ H s) {a:Addr} (h:s.heap.objs.size<=a):a∉X.fs:=fun hb=>by
 obtain⟨_,o,ho,_⟩:=I.ok.funs.mem hb
 exact absurd (lJy (Heap.lt_size ho) (lJs I.sz h)) (lKv _)
theorem Inv.cne (I:Inv X pins σ H s):∀x c,X.env.cells.lookup x=some c->c≠X.env.locals:=fun x c e z=>by
 obtain⟨v,o,ho,hd⟩:=I.cell x c e
 obtain⟨m,⟨o',es,ep,ho',hd',_⟩,_⟩:=I.loc
 rw[z,ho'] at ho;cases ho;rw[hd'] at hd;cases hd
theorem Inv.funs (I:Inv X pins σ H s):s.heap.FunFrames X.base X.outer:=by
 have all:∀(l:List Env),(∀b∈frs l,b∈X.fs)->X.s₀.heap.FunFrames X.base l->s.heap.FunFrames X.base l:=by
  intro l
  induction l with
  | nil=>intro _ _;trivial
  | cons env r ih=>
   intro hs hl
   obtain⟨hk,⟨L,o,hf,hn,ho,hd⟩,hr⟩:=hl
   have hL:L∈X.fs:=hs L (by unfold frs;rw[List.filterMap_cons,hf];exact lKe)
   obtain⟨sl,e⟩:=I.base.slot L o ho (I.ok.frf L hL) hL fun z=>I.ok.exfs L z hL
   exact⟨hk,⟨L,_,hf,hn,e,hd⟩,ih (fun b hb=>hs b (by unfold frs;rw[List.filterMap_cons,hf];exact lJ1 _ hb)) hr⟩
 exact all X.outer (fun _ hb=>hb) I.ok.funs
theorem Inv.stack (I:Inv X pins σ H s):s.heap.FunFrames X.base X.stack:=by
 rcases I.ok.stk with e | ⟨e,hf⟩
 ·rw[e];exact I.funs
 ·rw[e]
  obtain⟨m,hn,_⟩:=I.loc
  refine .cons (by rw[I.ok.kind];decide) hf hn ?_ I.funs
  exact Heap.get?_none_of_le (lJs I.ok.bsz I.ok.above)
theorem Inv.stkSub (I:Inv X pins σ H s):∀b∈frs X.stack,b∈X.env.locals::X.fs:=fun b hb=>by
 rcases I.ok.stk with e | ⟨e,hf⟩
 ·rw[e] at hb;exact lJ1 _ hb
 ·rw[e] at hb
  unfold frs at hb
  rw[List.filterMap_cons,hf] at hb
  exact hb
theorem Inv.stkFree (I:Inv X pins σ H s):∀b∈frs X.stack,H b=none:=fun b hb=>by
 rcases lJn.mp (I.stkSub b hb) with e | hb
 ·rw[e];exact I.free
 ·obtain⟨_,o,ho,_⟩:=I.ok.funs.mem hb
  exact I.base.free b o ho (I.ok.frf b hb) fun z=>I.ok.exfs b z hb
theorem Inv.step {g':Array GenState} {t':Nat} {d':Drawn} {ch:List Addr} (I:Inv X pins σ H s)
  (hch:∀b∈ch,(b∈X.ex\/X.s₀.heap.objs.size<=b)/\b≠X.env.locals/\(∀x c,X.env.cells.lookup x=some c->c≠b)/\∀p∈X.pn++pins,p.1≠b)
  (keep:∀b o,b≠X.env.locals->b∉X.fs->b∉ch->s.heap.get? b=some o->H b=none->h'.get? b=some o)
  (slot:∀b o,b≠X.env.locals->b∈X.fs->b∉ch->s.heap.get? b=some o->H b=none->∃sl,h'.get? b=some {o with slots:=sl}) (free:∀b o,b∉ch->s.heap.get? b=some o->H b=none->H' b=none)
  (there:∀b o,b∉ch->s.heap.get? b=some o->∃o',h'.get? b=some o')
  (tups:∀b xs,H b=some (.tup xs)->H' b=some (.tup xs)) (frzs:∀b o u,H b=some (.frz o u)->H' b=some (.frz o u)) (tbls:∀b ps,H b=some (.tbl ps)->∃more,H' b=some (.tbl (ps++more)))
  (ns:∀m,s.heap.Ns X.env.locals m->h'.Ns X.env.locals m) (hok:HOk X.prog X.w H' h') (hg:AllBare g'):
  Inv X pins σ H' {s with heap:=h',gens:=g',drawn:=d',toks:=t'}:=by
 have neL:∀b o,X.s₀.heap.get? b=some o->b≠X.env.locals:=fun b o e=>lJl (lJy (Heap.lt_size e) I.ok.above)
 have neC:∀b o,X.s₀.heap.get? b=some o->b∉X.ex->b∉ch:=fun b o e hx hb=>by
  rcases (hch b hb).1 with z | z
  ·exact hx z
  ·exact absurd (lJy (Heap.lt_size e) z) (lKv _)
 have cellK:∀x c,X.env.cells.lookup x=some c->∀v,s.heap.IsCell c v->h'.IsCell c v:=fun x c e v ⟨o,ho,hd⟩=>by
  have nch:c∉ch:=fun z=>(hch c z).2.2.1 x c e rfl
  by_cases hc:c∈X.fs
  ·obtain⟨sl,q⟩:=slot c o (I.cne x c e) hc nch ho (I.freeC x c e)
   exact⟨_,q,hd⟩
  ·exact⟨o,keep c o (I.cne x c e) hc nch ho (I.freeC x c e),hd⟩
 refine⟨I.ok,I.os,hg,⟨fun b o e n hb hx=> ?_,fun b o e n hb hx=> ?_,fun b o e n hx=> ?_,fun b o e hx=> ?_,fun b xs e=>tups b xs (I.base.tups b xs e),fun b o xs e=>frzs b o xs (I.base.frzs b o xs e),fun b ps e=> ?_⟩,?_,fun x c e=> ?_,?_,fun x c e=> ?_,fun p hp=> ?_,hok,I.len⟩
 ·exact keep b o (neL b o e) hb (neC b o e hx) (I.base.keep b o e n hb hx) (I.base.free b o e n hx)
 ·obtain⟨sl,e1⟩:=I.base.slot b o e n hb hx
  obtain⟨sl',e2⟩:=slot b _ (neL b o e) hb (neC b o e hx) e1 (I.base.free b o e n hx)
  exact⟨sl',e2⟩
 ·obtain⟨o',e1⟩:=I.base.there b o e hx
  exact free b o' (neC b o e hx) e1 (I.base.free b o e n hx)
 ·obtain⟨o',e1⟩:=I.base.there b o e hx
  exact there b o' (neC b o e hx) e1
 ·obtain⟨m1,e1⟩:=I.base.tbls b ps e
  obtain⟨m2,e2⟩:=tbls b _ e1
  exact⟨m1++m2,by rw[e2,Array.append_assoc]⟩
 ·obtain⟨m,hn,hl⟩:=I.loc
  refine⟨m,ns m hn,fun i x v e1 e2 e3=> ?_⟩
  obtain⟨u,r,l⟩:=hl i x v e1 e2 e3
  refine⟨u,r,?_⟩
  rcases l with l | ⟨k,c,e,z⟩
  ·exact .inl l
  ·exact .inr ⟨k,c,e,cellK x c e _ z⟩
 ·obtain⟨v,z⟩:=I.cell x c e
  exact⟨v,cellK x c e v z⟩
 ·obtain⟨m,⟨o,_,_,ho,_⟩,_⟩:=I.loc
  exact free _ o (fun z=>(hch _ z).2.1 rfl) ho I.free
 ·obtain⟨v,o,ho,hd⟩:=I.cell x c e
  exact free c o (fun z=>(hch c z).2.2.1 x c e rfl) ho (I.freeC x c e)
 ·obtain⟨e,n,ne,nf,d⟩:=I.pin p hp
  have nch:p.1∉ch:=fun z=>(hch p.1 z).2.2.2 p hp rfl
  exact⟨keep p.1 p.2 ne nf nch e n,free p.1 p.2 nch e n,ne,nf,d⟩
theorem Inv.un {t':Nat} (I:Inv X pins σ H s) (u:Un X.fs [] H H' s.heap h') (hok:HOk X.prog X.w H' h'):Inv X pins σ H' {s with heap:=h',toks:=t'}:=by
 obtain⟨m,⟨o,es,ep,ho,r⟩,_⟩:=id I.loc
 obtain⟨sl,hL⟩:=u.any ho I.free (by simp)
 exact I.step (g':=s.gens) (d':=s.drawn) (ch:=[]) (fun _ z=>nomatch z) (fun b o _ hb _ e n=>u.keep b o e n hb (by simp)) (fun b o _ hb _ e n=>u.slot b o e n hb (by simp)) (fun b o _ e n=>u.free b o e n (by simp)) (fun b o _ e=>u.there b o e (by simp)) u.tups u.frzs u.tbls (fun m' hm=>by
  obtain⟨o',es',ep',ho',r'⟩:=hm
  rw[ho] at ho';cases ho'
  exact⟨_,es',ep',hL,r'⟩) hok I.bare
theorem Inv.call {g':Array GenState} {t':Nat} {d':Drawn} {ch:List Addr} (I:Inv X pins σ H s) (u:Un (frs X.stack) ch H H' s.heap h') (hok:HOk X.prog X.w H' h') (hg:AllBare g')
  (hch:∀b∈ch,(b∈X.ex\/X.s₀.heap.objs.size<=b)/\b≠X.env.locals/\(∀x c,X.env.cells.lookup x=some c->c≠b)/\∀p∈X.pn++pins,p.1≠b):
  Inv X pins σ H' {s with heap:=h',gens:=g',drawn:=d',toks:=t'}:=by
 obtain⟨m,⟨o,es,ep,ho,r⟩,_⟩:=id I.loc
 obtain⟨sl,hL⟩:=u.any ho I.free fun z=>(hch _ z).2.1 rfl
 exact I.step (ch:=ch) hch (fun b o hL hb hc e n=>u.keep b o e n (fun z=>(lJn.mp (I.stkSub b z)).elim hL hb) hc) (fun b o _ _ hc e n=>u.any e n hc) (fun b o hc e n=>u.free b o e n hc) (fun b o hc e=>u.there b o e hc) u.tups u.frzs u.tbls (fun m' hm=>by
  obtain⟨o',es',ep',ho',r'⟩:=hm
  rw[ho] at ho';cases ho'
  exact⟨_,es',ep',hL,r'⟩) hok hg
theorem Inv.turned {t':Nat} {it:Addr} (I:Inv X pins σ H s) (k:∀b o,b≠it->s.heap.get? b=some o->h'.get? b=some o) (hn:H it=none) (hL:it≠X.env.locals)
  (h1:it∈X.ex\/X.s₀.heap.objs.size<=it) (h2:∀x c,X.env.cells.lookup x=some c->c≠it) (h3:∀p∈X.pn++pins,p.1≠it):Inv X pins σ H {s with heap:=h',toks:=t'}:=by
 have nit:∀b u,H b=some u->b≠it:=fun b u e z=>by rw[z,hn] at e;cases e
 refine I.step (g':=s.gens) (d':=s.drawn) (ch:=[it]) (fun b hb=> ?_) (fun b o _ _ hc e _=>k b o (fun z=>hc (by simp[z])) e) (fun b o _ _ hc e _=>⟨o.slots,k b o (fun z=>hc (by simp[z])) e⟩) (fun _ _ _ _ n=>n)
  (fun b o hc e=>⟨o,k b o (fun z=>hc (by simp[z])) e⟩) (fun _ _ e=>e) (fun _ _ _ e=>e) (fun b ps e=>⟨#[],by rw[e];simp⟩) (fun m hm=> ?_) (fun b u e=> ?_) I.bare
 ·have e:b=it:=by simpa using hb
  subst e
  exact⟨h1,hL,h2,h3⟩
 ·obtain⟨o,es,ep,ho,r⟩:=hm
  exact⟨o,es,ep,k _ o (Ne.symm hL) ho,r⟩
 ·refine (I.hok b u e).stay (fun c v hc q=>k c v ?_ q) (fun _ q=>q) fun _ _ q=>q
  rcases hc with z | z
  ·rw[z];exact nit b u e
  ·exact nit c _ z
theorem Inv.tok (I:Inv X pins σ H s) (t:Nat):Inv X pins σ H {s with toks:=t}:=I.un (h':=s.heap) (t':=t) Un.refl I.hok
theorem Inv.kept {t':Nat} (I:Inv X pins σ H s) (k:∀b u,s.heap.get? b=some u->h'.get? b=some u):Inv X pins σ H {s with heap:=h',toks:=t'}:=I.un (Un.kept k) (I.hok.kept k)
theorem Inv.laid {a:Addr} {o:HO} {t':Nat} (I:Inv X pins σ H s) (k:∀b u,s.heap.get? b=some u->h'.get? b=some u) (hp:s.heap.objs.size<=a) (new:ObjOk X.prog X.w (upd H a o) h' a o):
  Inv X pins σ (upd H a o) {s with heap:=h',toks:=t'}:=I.un (Un.laid k hp (I.hok.fresh hp)) (I.hok.laid k hp new)
theorem Inv.write {x e:Addr} {o:HO} {t':Nat} (I:Inv X pins σ H s) (mu:Mut (H x)) (he:e=x\/H e=some (.own x)) (k:∀b u,b≠e->s.heap.get? b=some u->h'.get? b=some u) (heo:∃u,h'.get? e=some u)
  (new:ObjOk X.prog X.w (upd H x o) h' x o):Inv X pins σ (upd H x o) {s with heap:=h',toks:=t'}:=I.un (Un.write mu he k heo) (I.hok.write mu he k heo new)
theorem Inv.weak {σ':List (Option V)} (I:Inv X pins σ H s) (hl:σ'.length=σ.length) (w:∀(i:Nat) v,σ'[i]? =some (some v)->σ[i]? =some (some v)):Inv X pins σ' H s:=
 ⟨I.ok,I.os,I.bare,I.base,let ⟨m,hn,hl'⟩:=I.loc;⟨m,hn,fun i x v e1 e2 e3=>hl' i x v e1 (w i v e2) e3⟩,I.cell,I.free,I.freeC,I.pin,I.hok,hl.trans I.len⟩
theorem Inv.pins_of {pins':List (Addr×Obj)} (I:Inv X pins σ H s) (h:∀p∈pins',s.heap.get? p.1=some p.2/\H p.1=none/\p.1≠X.env.locals/\p.1∉X.fs/\∀v,p.2.data≠ .cell v):Inv X pins' σ H s:=
 ⟨I.ok,I.os,I.bare,I.base,I.loc,I.cell,I.free,I.freeC,fun p hp=>(lJt.mp hp).elim (fun z=>I.pin p (lKi _ z)) (h p),I.hok,I.len⟩
theorem nodup_ix {N:List Str} (hN:N.Nodup) {i j:Nat} {x:Str} (a:N[i]? =some x) (b:N[j]? =some x):i=j:=by
 obtain⟨h1,e1⟩:=lJa.mp a
 obtain⟨h2,e2⟩:=lJa.mp b
 exact (List.getElem_inj hN).mp (e1.trans e2.symm)
theorem store_ok2 {M:Model} {A:Around} {E:Value->Shared->Prop} {i:Nat} {x:Str} {v:V} {u:Value} {Q:Unit->Shared->Prop} (I:Inv X pins σ H s) (hN:X.N.Nodup) (hi:X.N[i]? =some x) (hx:Loc X.env.scope x) (r:RelV v u)
  (h:∀s',Inv X pins (σ.set i (some v)) H s'->(∃a,Heap.SameBut a s.heap s'.heap/\(a=X.env.locals\/X.env.cells.lookup x=some a))->Q () s') (hf:X.fn x=true\/X.env.scope.names.lookup x=some .local:=by first | exact .inl rfl | exact .inr rfl | assumption):wpAny M A (storeName X.env x u) Q E s:=by
 obtain⟨m,hn,hl⟩:=id I.loc
 have hcls:(X.env.scope.kind == .class||(X.env.scope.kind == .module&&X.env.locals != X.env.globals))=false:=by rw[I.ok.kind];rfl
 have hiσ:i<σ.length:=by rw[I.len];exact (lJa.mp hi).1
 have cne:=I.cne
 have tracked:∀ {a:Addr} {h':Heap},(∃o,s.heap.get? a=some o/\H a=none)->Heap.SameBut a s.heap h'->HOk X.prog X.w H h':=fun {a h'} ha hs b ob e=>by
  obtain⟨_,_,hfree⟩:=ha
  refine (I.hok b ob e).stay (fun c w' hc q=>(hs.2 c ?_).trans q) (fun _ q=>q) fun _ _ q=>q
  rintro rfl
  rcases hc with rfl | hc
  ·rw[hfree] at e;cases e
  ·rw[hfree] at hc;cases hc
 rcases hx with hk | hk
 ·refine wpAny_storeName_local hk hn (fun h' hn' hs=> ?_) hcls
  obtain⟨oL,_,_,hoL,_⟩:=id hn
  refine h _ ⟨I.ok,I.os,I.bare,⟨fun b o e n hb hx=> ?_,fun b o e n hb hx=> ?_,I.base.free,fun b o e hx=> ?_,I.base.tups,I.base.frzs,I.base.tbls⟩,⟨_,hn',fun j y v' e1 e2 e3=> ?_⟩,fun y c e=> ?_,I.free,I.freeC,fun p hp=> ?_,tracked ⟨oL,hoL,I.free⟩ hs,by simpa using I.len⟩ ⟨_,hs,.inl rfl⟩
  ·exact (hs.2 b (lJl (lJy (Heap.lt_size e) I.ok.above))).trans (I.base.keep b o e n hb hx)
  ·obtain⟨sl,e1⟩:=I.base.slot b o e n hb hx
   exact⟨sl,(hs.2 b (lJl (lJy (Heap.lt_size e) I.ok.above))).trans e1⟩
  ·obtain⟨o',e1⟩:=I.base.there b o e hx
   exact⟨o',(hs.2 b (lJl (lJy (Heap.lt_size e) I.ok.above))).trans e1⟩
  ·by_cases hj:j=i
   ·subst hj
    rw[hi] at e1;cases e1
    rw[lJ2 hiσ] at e2
    cases e2
    exact⟨u,r,.inl ⟨hk,by simp⟩⟩
   ·rw[lJz (Ne.symm hj)] at e2
    obtain⟨u',r',q⟩:=hl j y v' e1 e2 e3
    refine⟨u',r',?_⟩
    rcases q with ⟨k,e⟩ | ⟨k,c,e,z⟩
    ·refine .inl ⟨k,?_⟩
     have:y≠x:=fun e=>hj (nodup_ix hN e1 (e▸hi))
     simp[this,e]
    ·exact .inr ⟨k,c,e,z.sameBut hs (cne y c e)⟩
  ·obtain⟨w',z⟩:=I.cell y c e
   exact⟨w',z.sameBut hs (cne y c e)⟩
  ·obtain⟨e,n,ne,nf,d⟩:=I.pin p hp
   exact⟨(hs.2 p.1 ne).trans e,n,ne,nf,d⟩
 ·have hfn:X.fn x=true:=by
   rcases hf with z | z
   ·exact z
   ·rw[z] at hk;cases hk
  obtain⟨c,hc⟩:=I.ok.has x (.inl hk)
  obtain⟨w',z⟩:=I.cell x c hc
  refine wpAny_storeName_cell I.ok.kind hk hc z (fun h' hc' hs=> ?_)
  obtain⟨oc,hoc,hocd⟩:=id z
  refine h {s with heap:=h'} ⟨I.ok,I.os,I.bare,⟨fun b o e n hb hx=> ?_,fun b o e n hb hx=> ?_,I.base.free,fun b o e hx=> ?_,I.base.tups,I.base.frzs,I.base.tbls⟩,⟨m,hn.sameBut hs (Ne.symm (cne x c hc)),fun j y v' e1 e2 e3=> ?_⟩,fun y c' e=> ?_,I.free,I.freeC,fun p hp=> ?_,tracked ⟨oc,hoc,I.freeC x c hc⟩ hs,by simpa using I.len⟩ ⟨c,hs,.inr hc⟩
  ·exact (hs.2 b (lJl (lJy (Heap.lt_size e) (I.ok.cab x c hfn hc)))).trans (I.base.keep b o e n hb hx)
  ·obtain⟨sl,e1⟩:=I.base.slot b o e n hb hx
   exact⟨sl,(hs.2 b (lJl (lJy (Heap.lt_size e) (I.ok.cab x c hfn hc)))).trans e1⟩
  ·obtain⟨o',e1⟩:=I.base.there b o e hx
   exact⟨o',(hs.2 b (lJl (lJy (Heap.lt_size e) (I.ok.cab x c hfn hc)))).trans e1⟩
  ·by_cases hj:j=i
   ·subst hj
    rw[hi] at e1;cases e1
    rw[lJ2 hiσ] at e2
    cases e2
    exact⟨u,r,.inr ⟨.inl hk,c,hc,hc'⟩⟩
   ·rw[lJz (Ne.symm hj)] at e2
    obtain⟨u',r',q⟩:=hl j y v' e1 e2 e3
    refine⟨u',r',?_⟩
    rcases q with q | ⟨k,c',e,z'⟩
    ·exact .inl q
    ·refine .inr ⟨k,c',e,z'.sameBut hs ?_⟩
     rintro rfl
     exact hj (nodup_ix hN e1 (I.ok.inj _ _ _ e hc▸hi))
  ·by_cases hcc:c'=c
   ·subst hcc;exact⟨_,hc'⟩
   ·obtain⟨w2,z2⟩:=I.cell y c' e
    exact⟨w2,z2.sameBut hs hcc⟩
  ·obtain⟨e,n,ne,nf,d⟩:=I.pin p hp
   refine⟨(hs.2 p.1 ?_).trans e,n,ne,nf,d⟩
   intro q
   rw[q,hoc] at e
   have q':oc=p.2:=lJx e
   exact d w' (by rw[<-q'];exact hocd)
theorem kVe {M:Model} {A:Around} {E:Value->Shared->Prop} {i:Nat} {x:Str} {v:V} {u:Value} {Q:Unit->Shared->Prop} (I:Inv X pins σ H s) (hN:X.N.Nodup) (hi:X.N[i]? =some x) (hx:Loc X.env.scope x) (r:RelV v u)
  (h:∀s',Inv X pins (σ.set i (some v)) H s'->Q () s') (hf:X.fn x=true\/X.env.scope.names.lookup x=some .local:=by first | exact .inl rfl | exact .inr rfl | assumption):wpAny M A (storeName X.env x u) Q E s:=
 store_ok2 I hN hi hx r (fun s' I' _=>h s' I') hf
theorem Inv.call' {s':Shared} {ch:List Addr} (I:Inv X pins σ H s) (ho:s'.os=s.os) (u:Un (frs X.stack) ch H H' s.heap s'.heap) (hok:HOk X.prog X.w H' s'.heap) (hg:AllBare s'.gens)
  (hch:∀b∈ch,(b∈X.ex\/X.s₀.heap.objs.size<=b)/\b≠X.env.locals/\(∀x c,X.env.cells.lookup x=some c->c≠b)/\∀p∈X.pn++pins,p.1≠b):Inv X pins σ H' s':=by
 obtain⟨h',g',d',t',o'⟩:=s'
 have e:o'=s.os:=ho
 subst e
 exact I.call (g':=g') (t':=t') (d':=d') u hok hg hch
end
noncomputable abbrev XK:=Value->Option Addr->Hp->Prop
noncomputable abbrev St:=List (Option V)
noncomputable abbrev VK:=V->Hp->Prop
noncomputable abbrev TE:=St->Hp->VK->Prop
noncomputable abbrev TT:=St->Hp->(Bool->Hp->Prop)->Prop
noncomputable abbrev TA:=St->Hp->(List V->Hp->Prop)->Prop
structure Ends where
 nx:St->Hp->Prop
 rt:VK
 bk:St->Hp->Prop:=fun _ _=>False
 ct:St->Hp->Prop:=fun _ _=>False
noncomputable abbrev TS:=Ends->St->Hp->Prop
def EP (X:Cx) (pins:List (Addr×Obj)) (σ:St) (Q:VK) (u:Value) (s':Shared):Prop:=∃v H',Inv X pins σ H' s'/\RelV v u/\Q v H'
def TP (X:Cx) (pins:List (Addr×Obj)) (σ:St) (Q:Bool->Hp->Prop) (b:Bool) (s':Shared):Prop:=∃H',Inv X pins σ H' s'/\Q b H'
def SP (X:Cx) (pins:List (Addr×Obj)) (D:Ends) (f:Flow) (s':Shared):Prop:=
 match f with
 | .next=>∃ σ' H',Inv X pins σ' H' s'/\D.nx σ' H'
 | .brk=>∃ σ' H',Inv X pins σ' H' s'/\D.bk σ' H'
 | .cont=>∃ σ' H',Inv X pins σ' H' s'/\D.ct σ' H'
 | .ret u=>∃v σ' H',Inv X pins σ' H' s'/\RelV v u/\D.rt v H'
def PE (X:Cx) (e:Expr) (t:TE):Prop:=
 ∀(pins:List (Addr×Obj)) (s:Shared) (σ:St) (H:Hp) (Q:VK),Inv X pins σ H s->t σ H Q->wpAny (model X.prog X.w) X.A (eval e X.env) (EP X pins σ Q) X.xe s
def PSs (X:Cx) (st:List Stmt) (t:TS):Prop:=
 ∀(pins:List (Addr×Obj)) (s:Shared) (σ:St) (H:Hp) (D:Ends),Inv X pins σ H s->t D σ H->wpAny (model X.prog X.w) X.A (execs st X.env) (SP X pins D) X.xe s
theorem thn {α:Type} {t:Sem α} {Q Q':α->Shared->Prop} {M:Model} {A:Around} {E:Value->Shared->Prop} {s:Shared} (h:wpAny M A t Q E s) (hQ:∀a s,Q a s->Q' a s):wpAny M A t Q' E s:=wpAny_mono h hQ fun _ _ x=>x
section
variable {X:Cx}
noncomputable def tVar (i:Nat):TE:=fun σ H Q=>∃v,σ[i]? =some (some v)/\Q v H
noncomputable def tC (v:V):TE:=fun _ H Q=>Q v H
theorem pe_var {i:Nat} {x:Str} {pos:Pos} (hN:X.N[i]? =some x) (hv:Vis X.env.scope x) (hd:(x == ("__debug__":Str))=false:=by decide) (hcd:(x == ("__classdict__":Str))=false:=by decide):PE X (.Name x pos) (tVar i):=by
 intro pins s σ H Q I h
 obtain⟨v,e,h⟩:=h
 obtain⟨m,hn,hl⟩:=I.loc
 obtain⟨u,r,l⟩:=hl i x v hN e hv
 have fin:EP X pins σ Q u s:=⟨v,H,I,r,h⟩
 rcases l with ⟨hk,hm⟩ | ⟨hk,c,hc,hcell⟩
 ·exact wpAny_Name (wpAny_loadName_local I.ok.kind hk hn hm fin) hd
 ·rcases hk with hk | hk
  ·exact wpAny_Name (wpAny_loadName_cell I.ok.kind hk hc hcell fin) hd
  ·exact wpAny_Name (wpAny_loadName_free I.ok.kind hk hc hcell fin hcd) hd
theorem pe_int {i j pos}:PE X (.Constant (.int i) j pos) (tC (.int i)):=fun _ _ _ H _ I h=>wpAny_Constant_int ⟨.int i,H,I.tok _,⟨_,rfl⟩,h⟩
theorem pe_bl {b j pos}:PE X (.Constant (.bool b) j pos) (tC (.bl b)):=fun _ _ _ H _ I h=>Constant_bool ⟨.bl b,H,I,rfl,h⟩
theorem pe_non {j pos}:PE X (.Constant .none j pos) (tC .non):=fun _ _ _ H _ I h=>Constant_none ⟨.non,H,I,rfl,h⟩
def Gl (X:Cx) (x:Str):Prop:=X.env.kindOf x=some .globalImplicit
theorem ld_glob {E:Value->Shared->Prop} {pins:List (Addr×Obj)} {s:Shared} {σ:St} {H:Hp} {x:Str} {u:Value} {pos:Pos} {Q:Value->Shared->Prop} (I:Inv X pins σ H s) (hg:Gl X x) (hm:X.mg x=some u) (h:Q u s)
  (hd:(x == ("__debug__":Str))=false:=by decide):wpAny (model X.prog X.w) X.A (eval (.Name x pos) X.env) Q E s:=
 Calls.Name_function_global I.ok.kind hg (Calls.loadGlobal_global (by rw[I.ok.glob];exact I.mod.glob.keeps I.bk) hm h) hd
theorem jVm {E:Value->Shared->Prop} {pins:List (Addr×Obj)} {s:Shared} {σ:St} {H:Hp} {x:Str} {u:Value} {pos:Pos} {Q:Value->Shared->Prop} (I:Inv X pins σ H s) (hg:Gl X x) (hm:X.mg x=none) (hv:bootBuiltins x=some u) (h:Q u s)
  (hn:x≠"__name__":=by decide) (hd:(x == ("__debug__":Str))=false:=by decide):wpAny (model X.prog X.w) X.A (eval (.Name x pos) X.env) Q E s:=by
 obtain⟨mb,h1,h2⟩:=I.mod.blt
 exact Calls.Name_function_global I.ok.kind hg (Calls.loadGlobal_builtin (by rw[I.ok.glob];exact I.mod.glob.keeps I.bk) hm (by rw[I.ok.blt];exact h1.keeps I.bk) ((h2 x hn).trans hv) h) hd
variable {a b:Expr} {ta tb:TE} {pos:Pos}
noncomputable def tB (t:TE):TT:=fun σ H Q=>t σ H fun x H1=>∃c,x= .bl c/\Q c H1
variable {tA tB':TT} {rest:List Expr}
noncomputable def tAnd (t u:TT):TT:=fun σ H Q=>t σ H fun c H1=>if c=true then u σ H1 Q else Q false H1
noncomputable def tOr (t u:TT):TT:=fun σ H Q=>t σ H fun c H1=>if c=true then Q true H1 else u σ H1 Q
noncomputable def tNot (t:TT):TT:=fun σ H Q=>t σ H fun c H1=>Q (!c) H1
noncomputable def tAndV (ta tb:TE):TE:=fun σ H Q=>ta σ H fun x H1=>∃c,x= .bl c/\if c=true then tb σ H1 Q else Q (.bl false) H1
noncomputable def tOrV (ta tb:TE):TE:=fun σ H Q=>ta σ H fun x H1=>∃c,x= .bl c/\if c=true then Q (.bl true) H1 else tb σ H1 Q
noncomputable def tNotV (ta:TE):TE:=fun σ H Q=>ta σ H fun x H1=>∃c,x= .bl c/\Q (.bl (!c)) H1
noncomputable def tIf (t:TT) (ta tb:TE):TE:=fun σ H Q=>t σ H fun c H1=>if c=true then ta σ H1 Q else tb σ H1 Q
end
def SqL (K:PySem.W.Frag) (H:Hp) (a:Addr) (xs:List V):Prop:=
 Rd H a (.lst xs)\/
  ∃(o:Obj) (its:Array Value) (n:Nat),K.lookup a=some o/\o.cls= .type "list"/\o.dict=none/\o.data= .seq its n/\its.size<=sizeLine/\Vals xs its.toList
def SqT (K:PySem.W.Frag) (H:Hp) (a:Addr) (xs:List V):Prop:=
 Rd H a (.tup xs)\/
  ∃(o:Obj) (its:Array Value) (n:Nat),K.lookup a=some o/\o.cls= .type "tuple"/\o.data= .seq its n/\its.size<=sizeLine/\Vals xs its.toList
noncomputable def absV:Value->Option V
 | .none=>some .non
 | .bool b=>some (.bl b)
 | .int i _=>some (.int i)
 | .str x _=>some (.str x)
 | .bytes b _=>some (.byt b)
 | .float b _=>some (.flt b)
 | .ref a=>some (.ref a)
 | .type n=>some (.ty n)
 | _=>none
theorem RelV.abs {x:V} {u:Value} (r:RelV x u):absV u=some x:=by
 cases x with
 | non=>cases r;rfl
 | bl _=>cases r;rfl
 | int _=>obtain⟨t,rfl⟩:=r;rfl
 | str _=>obtain⟨t,rfl⟩:=r;rfl
 | byt _=>obtain⟨t,rfl⟩:=r;rfl
 | flt _=>obtain⟨t,rfl⟩:=r;rfl
 | ref _=>cases r;rfl
 | ty _=>cases r;rfl
theorem RelV.inj {x y:V} {u:Value} (r:RelV x u) (q:RelV y u):x=y:=lJx (r.abs.symm.trans q.abs)
theorem Vals.inj {xs ys:List V} {us:List Value} (h:Vals xs us) (g:Vals ys us):xs=ys:=by
 induction h generalizing ys with
 | nil=>(cases g;rfl)
 | cons r _ ih=>(cases g with | cons r' t'=>rw[r.inj r',ih t'])
section
variable {X:Cx} {pins:List (Addr×Obj)} {σ:St} {H:Hp} {s:Shared} {a:Addr} {xs ys:List V}
theorem SqL.of {K:PySem.W.Frag} (h:H a=some (.lst xs)):SqL K H a xs:= .inl (.inl h)
theorem SqT.of {K:PySem.W.Frag} (h:H a=some (.tup xs)):SqT K H a xs:= .inl (.inl h)
theorem Inv.list (I:Inv X pins σ H s) (h:SqL X.K H a xs):∃its:List Value,Vals xs its/\PlainL s.heap a its.toArray/\xs.length<=sizeLine:=by
 rcases h with h | ⟨o,its,n,hk,hc,hd,hs,hz,r⟩
 ·obtain⟨z,its,n,r,e⟩:=h.ok I.hok
  exact⟨its,r,⟨_,n,e,rfl,rfl,rfl⟩,z⟩
 ·refine⟨its.toList,r,⟨o,n,I.kIn a o hk,hc,hd,by simpa using hs⟩,?_⟩
  have e:=r.length
  simp only[Array.length_toList] at e
  omega
theorem Inv.tuple (I:Inv X pins σ H s) (h:SqT X.K H a xs):∃its:List Value,Vals xs its/\IsTup s.heap a its.toArray/\xs.length<=sizeLine:=by
 rcases h with h | ⟨o,its,n,hk,hc,hs,hz,r⟩
 ·obtain⟨z,its,r,p⟩:=h.ok I.hok
  exact⟨its,r,p.is,z⟩
 ·refine⟨its.toList,r,⟨o,I.kIn a o hk,hc,n,by simpa using hs⟩,?_⟩
  have e:=r.length
  simp only[Array.length_toList] at e
  omega
theorem Inv.list_inj (I:Inv X pins σ H s) (h:SqL X.K H a xs) (h':SqL X.K H a ys):xs=ys:=by
 obtain⟨its,r,⟨o,n,e,_,_,d⟩,_⟩:=I.list h
 obtain⟨its',r',⟨o',n',e',_,_,d'⟩,_⟩:=I.list h'
 rw[e] at e';cases e'
 rw[d] at d'
 injection d' with d1 _
 have:its=its':=by simpa using congrArg Array.toList d1
 subst this
 exact r.inj r'
theorem Inv.tuple_inj (I:Inv X pins σ H s) (h:SqT X.K H a xs) (h':SqT X.K H a ys):xs=ys:=by
 obtain⟨its,r,⟨o,e,_,n,d⟩,_⟩:=I.tuple h
 obtain⟨its',r',⟨o',e',_,n',d'⟩,_⟩:=I.tuple h'
 rw[e] at e';cases e'
 rw[d] at d'
 injection d' with d1 _
 have:its=its':=by simpa using congrArg Array.toList d1
 subst this
 exact r.inj r'
end
noncomputable abbrev Cx.wish (X:Cx) (E:Value->Shared->Prop):Cx:={X with xe:=E}
noncomputable abbrev Cx.nox (X:Cx):Cx:=X.wish fun _ _=>False
theorem Cx.Ok.wish {X:Cx} (ok:X.Ok) (E:Value->Shared->Prop):(X.wish E).Ok:=
 ⟨ok.mod,ok.kind,ok.glob,ok.blt,ok.above,ok.inj,ok.has,ok.cab,ok.hd,ok.gd,ok.frames,ok.stk,ok.exf,ok.bs,ok.bsz,ok.noex,ok.exfs,ok.funs,ok.frf⟩
theorem Cx.Ok.unwish {X:Cx} {E:Value->Shared->Prop} (ok:(X.wish E).Ok):X.Ok:=
 ⟨ok.mod,ok.kind,ok.glob,ok.blt,ok.above,ok.inj,ok.has,ok.cab,ok.hd,ok.gd,ok.frames,ok.stk,ok.exf,ok.bs,ok.bsz,ok.noex,ok.exfs,ok.funs,ok.frf⟩
section
variable {X:Cx} {pins:List (Addr×Obj)} {σ:St} {H:Hp} {s:Shared} {E:Value->Shared->Prop}
theorem Inv.wish (I:Inv X pins σ H s) (E:Value->Shared->Prop):Inv (X.wish E) pins σ H s:=⟨I.ok.wish E,I.os,I.bare,I.base,I.loc,I.cell,I.free,I.freeC,I.pin,I.hok,I.len⟩
theorem Inv.unwish (I:Inv (X.wish E) pins σ H s):Inv X pins σ H s:=⟨I.ok.unwish,I.os,I.bare,I.base,I.loc,I.cell,I.free,I.freeC,I.pin,I.hok,I.len⟩
theorem SP.unwish {D:Ends} {f:Flow} {s':Shared} (h:SP (X.wish E) pins D f s'):SP X pins D f s':=by
 cases f with
 | next=>obtain⟨σ',H',I,q⟩:=h;exact⟨σ',H',I.unwish,q⟩
 | brk=>obtain⟨σ',H',I,q⟩:=h;exact⟨σ',H',I.unwish,q⟩
 | cont=>obtain⟨σ',H',I,q⟩:=h;exact⟨σ',H',I.unwish,q⟩
 | ret u=>obtain⟨v,σ',H',I,r,q⟩:=h;exact⟨v,σ',H',I.unwish,r,q⟩
theorem PSs.nox {st:List Stmt} {t:TS} (h:PSs X.nox st t):PSs X st t:=fun pins s σ H D I hw=>
 wpAny_mono (h pins s σ H D (I.wish _) hw) (fun _ _ q=>q.unwish) fun _ _ z=>False.elim z
end
section
variable {X:Cx} {st:Stmt} {rest:List Stmt} {t u:TS} {e:Expr} {te:TE} {pos:Pos}
noncomputable def jQc:TS:=fun D σ H=>D.nx σ H
noncomputable def tSeq (t u:TS):TS:=fun D σ H=>t {D with nx:=u D} σ H
noncomputable def tBreak:TS:=fun D σ H=>D.bk σ H
theorem Inv.quiet {pins:List (Addr×Obj)} {σ:St} {H:Hp} {s:Shared} (I:Inv X pins σ H s):interactive X.env=false:=by simp[interactive,I.ok.kind]
noncomputable def jQl (te:TE):TS:=fun D σ H=>te σ H fun _ H1=>D.nx σ H1
noncomputable def tRet (te:TE):TS:=fun D σ H=>te σ H D.rt
noncomputable def tRetN:TS:=fun D _ H=>D.rt .non H
noncomputable def tIfS (c:TT) (t u:TS):TS:=fun D σ H=>c σ H fun b H1=>if b=true then t D σ H1 else u D σ H1
end
noncomputable abbrev TG:=V->St->Hp->(St->Hp->Prop)->Prop
noncomputable abbrev TGs:=List V->St->Hp->(St->Hp->Prop)->Prop
noncomputable abbrev TSet:=V->V->V->Hp->(Hp->Prop)->Prop
def PSet (X:Cx) (t:TSet):Prop:=
 ∀(pins:List (Addr×Obj)) (s:Shared) (σ:St) (H:Hp) (o i v:V) (ov iv u:Value) (Q:Hp->Prop),Inv X pins σ H s->RelV o ov->RelV i iv->RelV v u->t o i v H Q->
  wpAny (model X.prog X.w) X.A (setItem ov iv u) (fun _ s'=>∃H',Inv X pins σ H' s'/\Q H') X.xe s
section
variable {X:Cx} {pos:Pos}
noncomputable def jJj (i:Nat):TG:=fun v σ H Q=>Q (σ.set i (some v)) H
noncomputable def gNil:TGs:=fun vs σ H Q=>vs=[]/\Q σ H
noncomputable def jKg (t:TG) (u:TGs):TGs:=fun vs σ H Q=>∃v r,vs=v::r/\t v σ H fun σ' H'=>u r σ' H' Q
noncomputable def gTup (K:PySem.W.Frag) (n:Nat) (t:TGs):TG:=fun v σ H Q=>∃a xs,v= .ref a/\SqT K H a xs/\xs.length=n/\t xs σ H Q
noncomputable def gSub (to ti:TE) (t:TSet):TG:=fun v σ H Q=>to σ H fun o H1=>ti σ H1 fun i H2=>t o i v H2 fun H3=>Q σ H3
noncomputable def tAsg (te:TE) (g:TG):TS:=fun D σ H=>te σ H fun x H1=>g x σ H1 D.nx
noncomputable def tPar (i j:Nat) (ta:TA):TS:=fun D σ H=>ta σ H fun vs H1=>∃v w,vs=[v,w]/\D.nx ((σ.set i (some v)).set j (some w)) H1
end
section
variable {X:Cx} {pos:Pos}
noncomputable def jVq (c:TT) (tb:TS):TS:=fun D σ H=>∃W:Nat->St->Hp->Prop,(∃m,W m σ H)/\∀m σ H,W m σ H->
 c σ H fun b H1=>if b=true then ∃N:St->Hp->Prop,(∀ σ' H',N σ' H'->∃m',m'<m/\W m' σ' H')/\tb {D with nx:=N,ct:=N,bk:=D.nx} σ H1 else D.nx σ H1
end
structure It where
 go:Nat->Hp->Prop
 yld:Nat->Hp->V->Hp->Prop
 stop:Nat->Hp->Prop
def FpOk (X:Cx) (pins:List (Addr×Obj)) (H:Hp) (b:Addr):Prop:=
 H b=none/\b≠X.env.locals/\b∉X.fs/\(b∈X.ex\/X.s₀.heap.objs.size<=b)/\(∀x c,X.env.cells.lookup x=some c->c≠b)/\∀p∈X.pn++pins,p.1≠b
theorem Inv.fpOk {X:Cx} {pins:List (Addr×Obj)} {σ:St} {H H':Hp} {s:Shared} {b:Addr} (I:Inv X pins σ H s) (hb:s.heap.objs.size<=b) (hn:H' b=none):FpOk X pins H' b:=by
 refine⟨hn,Nat.ne_of_gt (lJy I.lt hb),I.nofs hb,.inr (lJs I.sz hb),fun x c e z=> ?_,fun p hp z=> ?_⟩
 ·obtain⟨v,q⟩:=I.cell x c e
  exact absurd (lJy q.lt (by rw[z];exact hb)) (lKv _)
 ·exact absurd (lJy (Heap.lt_size (I.pin p hp).1) (by rw[z];exact hb)) (lKv _)
structure Turn (P:Program) (w:World) (K:PySem.W.Frag) (tg:Expr) (J:It) (fp:List Addr) (it:Addr) (tn:Nat->Heap->Prop):Prop where
 mem:it∈fp
 obj:∀i h,tn i h->∀b∈fp,∃o,h.get? b=some o/\∀v,o.data≠ .cell v
 keep:∀i h h',tn i h->(∀b∈fp,∀o,h.get? b=some o->h'.get? b=some o)->tn i h'
 item:∀(X:Cx),X.prog=P->X.w=w->X.K=K->X.calm=true->∀(i:Nat) (pins:List (Addr×Obj)) (s:Shared) (σ:St) (H:Hp) (E:Value->Shared->Prop),Inv X pins σ H s->(∀b∈fp,FpOk X pins H b)->tn i s.heap->J.go i H->
  wpAny (model P w) X.A (pyNext (.ref it)) (fun r s1=>∃u,r=some u/\
   wpAny (model P w) X.A (letOwnedTupleGo tg (.ref it) u) (fun _ s2=>∃x H',Inv X pins σ H' s2/\RelV x u/\J.yld i H x H'/\tn (i+1) s2.heap/\∀b∈fp,H' b=none) E s1) E s
 done:∀(X:Cx),X.prog=P->X.w=w->X.K=K->X.calm=true->∀(i:Nat) (pins:List (Addr×Obj)) (s:Shared) (σ:St) (H:Hp) (E:Value->Shared->Prop),Inv X pins σ H s->(∀b∈fp,FpOk X pins H b)->tn i s.heap->J.stop i H->
  wpAny (model P w) X.A (pyNext (.ref it)) (fun r s1=>r=none/\Inv X pins σ H s1) E s
 self:∀(A:Around) (i:Nat) (s:Shared) (Q:Value->Shared->Prop) (E:Value->Shared->Prop),tn i s.heap->Q (.ref it) s->wpAny (model P w) A (pyIter (.ref it)) Q E s
noncomputable abbrev TI:=St->Hp->(It->Hp->Prop)->Prop
def PIE (X:Cx) (pins:List (Addr×Obj)) (σ:St) (tg:Expr) (R:It->Hp->Prop) (itv:Value) (s2:Shared):Prop:=
 ∃(it:Addr) (fp:List Addr) (tn:Nat->Heap->Prop) (J:It) (H':Hp),itv= .ref it/\Inv X pins σ H' s2/\Turn X.prog X.w X.K tg J fp it tn/\tn 0 s2.heap/\(∀b∈fp,FpOk X pins H' b)/\R J H'
theorem go_of {M:Model} {A:Around} {E:Value->Shared->Prop} {s:Shared} {tg:Expr} {it:Addr} {u:Value} {o:Obj} {n:String} {vs:Array Value} {Q:Unit->Shared->Prop} (ho:s.heap.get? it=some o) (hc:o.cls= .type n) (hd:o.data= .fields vs)
  (hn:["enumerate","zip","dict_itemiterator","dict_reverseitemiterator","odict_iterator","itertools.zip_longest","itertools.pairwise"].contains n=false) (hQ:Q () s):wpAny M A (letOwnedTupleGo tg (.ref it) u) Q E s:=by
 unfold letOwnedTupleGo
 cases tg<;>first
  | exact wpAny_pure hQ
  | (cases u<;>first
    | exact wpAny_pure hQ
    | (refine wpAny_bind (wpAny_load ho ?_)
       rw[hc,hd]
       show wpAny M A (if (["enumerate","zip","dict_itemiterator","dict_reverseitemiterator","odict_iterator","itertools.zip_longest","itertools.pairwise"].contains n&&vs[0]? == some (rawInt _))=true then _ else _) Q E s
       rw[if_neg (by intro h;rw[hn,Bool.false_and] at h;cases h)]
       exact wpAny_pure hQ))
noncomputable def Itl (K:PySem.W.Frag) (a:Addr):It:=
 ⟨fun i H=>∃xs x,SqL K H a xs/\xs[i]? =some x,fun i H x H'=>H'=H/\∀xs,SqL K H a xs->xs[i]? =some x,fun i H=>∃xs,SqL K H a xs/\xs.length<=i⟩
noncomputable def Itt (K:PySem.W.Frag) (a:Addr):It:=
 ⟨fun i H=>∃xs x,SqT K H a xs/\xs[i]? =some x,fun i H x H'=>H'=H/\∀xs,SqT K H a xs->xs[i]? =some x,fun i H=>∃xs,SqT K H a xs/\xs.length<=i⟩
noncomputable def Itr (lo:Int) (n:Nat):It:=⟨fun i _=>i<n,fun i H x H'=>H'=H/\x= .int (lo+i),fun i _=>n<=i⟩
theorem turn_list {P:Program} {w:World} {K:PySem.W.Frag} {tg:Expr} (a it:Addr):Turn P w K tg (Itl K a) [it] it (fun i h=>h.IsListIter it a i) where
 mem:=by simp
 obj:=fun i h st b hb=>by
  have e:b=it:=by simpa using hb
  subst e
  obtain⟨o,e,c,d⟩:=st
  exact⟨o,e,fun v z=>by rw[d] at z;cases z⟩
 keep:=fun i h h' st k=>st.at fun o e=>k it (by simp) o e
 item:=by
  intro X hP hw hK hc i pins s σ H E I hf st hg
  subst hP hw hK
  obtain⟨xs,x,hq,hx⟩:=hg
  obtain⟨its,rv,p,hz⟩:=I.list hq
  obtain⟨u,hu,ru⟩:=rv.get hx
  obtain⟨f0,f1,f2,f3,f4,f5⟩:=hf it (by simp)
  refine wpAny_pyNext_list_item st p.isList (x:=u) (by simpa using hu) fun h' st' sb=> ?_
  have I1:Inv X pins σ H {s with heap:=h'}:=I.turned (t':=s.toks) (fun b o hb e=>(sb.2 b hb).trans e) f0 f1 f3 f4 f5
  obtain⟨o,e,c,d⟩:=id st'
  exact⟨u,rfl,go_of (s:={s with heap:=h'}) e c d (by decide) ⟨x,H,I1,ru,⟨rfl,fun ys hy=>by rw[I.list_inj hy hq];exact hx⟩,st',fun b hb=>(hf b hb).1⟩⟩
 done:=by
  intro X hP hw hK hc i pins s σ H E I hf st hg
  subst hP hw hK
  obtain⟨xs,hq,hx⟩:=hg
  obtain⟨its,rv,p,hz⟩:=I.list hq
  obtain⟨f0,f1,f2,f3,f4,f5⟩:=hf it (by simp)
  have hl:=rv.length
  exact wpAny_pyNext_list_end (I.ok.hd hc) st p.isList (by simp;omega) fun h' eb=>⟨rfl,I.turned (t':=s.toks) (fun b o hb e=>eb b o hb e) f0 f1 f3 f4 f5⟩
 self:=fun _ _ _ _ _ st h=>wpAny_pyIter_listiter st h
theorem turn_tuple {P:Program} {w:World} {K:PySem.W.Frag} {tg:Expr} (a it:Addr):Turn P w K tg (Itt K a) [it] it (fun i h=>h.IsTupleIter it a i) where
 mem:=by simp
 obj:=fun i h st b hb=>by
  have e:b=it:=by simpa using hb
  subst e
  obtain⟨o,e,c,d⟩:=st
  exact⟨o,e,fun v z=>by rw[d] at z;cases z⟩
 keep:=fun i h h' st k=>st.at fun o e=>k it (by simp) o e
 item:=by
  intro X hP hw hK hc i pins s σ H E I hf st hg
  subst hP hw hK
  obtain⟨xs,x,hq,hx⟩:=hg
  obtain⟨its,rv,p,hz⟩:=I.tuple hq
  obtain⟨u,hu,ru⟩:=rv.get hx
  obtain⟨f0,f1,f2,f3,f4,f5⟩:=hf it (by simp)
  refine wpAny_pyNext_tuple_item st (show s.heap.IsTuple a its.toArray from p) (x:=u) (by simpa using hu) fun h' st' sb=> ?_
  have I1:Inv X pins σ H {s with heap:=h'}:=I.turned (t':=s.toks) (fun b o hb e=>(sb.2 b hb).trans e) f0 f1 f3 f4 f5
  obtain⟨o,e,c,d⟩:=id st'
  exact⟨u,rfl,go_of (s:={s with heap:=h'}) e c d (by decide) ⟨x,H,I1,ru,⟨rfl,fun ys hy=>by rw[I.tuple_inj hy hq];exact hx⟩,st',fun b hb=>(hf b hb).1⟩⟩
 done:=by
  intro X hP hw hK hc i pins s σ H E I hf st hg
  subst hP hw hK
  obtain⟨xs,hq,hx⟩:=hg
  obtain⟨its,rv,p,hz⟩:=I.tuple hq
  obtain⟨f0,f1,f2,f3,f4,f5⟩:=hf it (by simp)
  have hl:=rv.length
  exact wpAny_pyNext_tuple_end (I.ok.hd hc) st (show s.heap.IsTuple a its.toArray from p) (by simp;omega) fun h' eb=>⟨rfl,I.turned (t':=s.toks) (fun b o hb e=>eb b o hb e) f0 f1 f3 f4 f5⟩
 self:=fun _ _ _ _ _ st h=>wpAny_pyIter_tupleiter st h
theorem turn_range {P:Program} {w:World} {K:PySem.W.Frag} {tg:Expr} (it:Addr) (lo:Int) (n:Nat):Turn P w K tg (Itr lo n) [it] it (fun i h=>IsRangeIter h it (lo+(i:Nat)*1) ((n:Int)-(i:Nat)) 1) where
 mem:=by simp
 obj:=fun i h st b hb=>by
  have e:b=it:=by simpa using hb
  subst e
  exact⟨_,st,fun v z=>by
   have z':Data.fields _=Data.cell v:=z
   cases z'⟩
 keep:=fun i h h' st k=>k it (by simp) _ st
 item:=by
  intro X hP hw hK hc i pins s σ H E I hf st hg
  subst hP hw hK
  obtain⟨f0,f1,f2,f3,f4,f5⟩:=hf it (by simp)
  have W:=Walks.range (prog:=X.prog) (w:=X.w) (I.ok.hd hc) it lo 1 n
  refine W.item i s _ _ hg st fun v h' tk hv st' kk=> ?_
  obtain⟨t,rfl⟩:=hv
  have I1:Inv X pins σ H {s with heap:=h',toks:=tk}:=I.turned (fun b o hb e=>kk b o (by simpa using hb) e) f0 f1 f3 f4 f5
  refine⟨_,rfl,go_of (s:={s with heap:=h',toks:=tk}) (n:="range_iterator") st' rfl rfl (by decide) ⟨.int (lo+i),H,I1,⟨t,?_⟩,⟨rfl,rfl⟩,st',fun b hb=>(hf b hb).1⟩⟩
  rw[Int.mul_one]
 done:=by
  intro X hP hw hK hc i pins s σ H E I hf st hg
  subst hP hw hK
  obtain⟨f0,f1,f2,f3,f4,f5⟩:=hf it (by simp)
  exact wpAny_pyNext_range_end (I.ok.hd hc) st (by have:n<=i:=hg;omega) fun h' eb=>⟨rfl,I.turned (t':=s.toks) (fun b o hb e=>eb b o hb e) f0 f1 f3 f4 f5⟩
 self:=fun _ _ _ _ _ st h=>wpAny_pyIter_rangeiter st h
section
variable {X:Cx} {tg:Expr}
theorem range_it {pins:List (Addr×Obj)} {σ:St} {H:Hp} {s:Shared} {R:It->Hp->Prop} {E:Value->Shared->Prop} {lo hi:Int} {t u v:Tok} {tk:Nat} (I:Inv X pins σ H s) (h1: -(2^62)<=lo) (h2:lo<2^62) (h3: -(2^62)<=hi) (h4:hi<2^62)
  (q:R (Itr lo (hi-lo).toNat) H):wpAny (model X.prog X.w) X.A (pyIter (.ref s.heap.objs.size)) (PIE X pins σ tg R) E {s with heap:=s.heap.push {cls:= .type "range",data:= .fields #[.int lo t,.int hi u,.int 1 v]},toks:=tk}:=by
 refine wpAny_pyIter_range (IsRange.new ..) (small_one h1 h2 h3 h4) ?_
 have I1:Inv X pins σ H {s with heap:=s.heap.push {cls:= .type "range",data:= .fields #[.int lo t,.int hi u,.int 1 v]},toks:=tk}:=I.kept fun b o e=>Heap.get?_push_of_some _ e
 refine⟨(s.heap.push {cls:= .type "range",data:= .fields #[.int lo t,.int hi u,.int 1 v]}).objs.size,[(s.heap.push {cls:= .type "range",data:= .fields #[.int lo t,.int hi u,.int 1 v]}).objs.size],_,_,H,rfl,
  I1.kept (t':=tk) fun b o e=>Heap.get?_push_of_some _ e,turn_range _ lo (hi-lo).toNat,?_,fun b hb=> ?_,q⟩
 ·have e1:lo+((0:Nat):Int)*1=lo:=by simp
  have e2:(((hi-lo).toNat:Nat):Int)-((0:Nat):Int)=Builtin.Range.rangeSize lo hi 1:=by rw[rangeSize_one];split<;>omega
  show IsRangeIter _ _ (lo+((0:Nat):Int)*1) ((((hi-lo).toNat:Nat):Int)-((0:Nat):Int)) 1
  rw[e1,e2]
  exact Heap.get?_push_size _ rfl
 ·have e:b=(s.heap.push {cls:= .type "range",data:= .fields #[.int lo t,.int hi u,.int 1 v]}).objs.size:=by simpa using hb
  subst e
  exact I1.fpOk (lJd _) (I1.hok.fresh (lJd _))
noncomputable def jQo (ta:TA):TI:=fun σ H R=>ta σ H fun vs H1=>∃j:Int,vs=[.int j]/\ -(2^62)<=j/\j<2^62/\R (Itr 0 j.toNat) H1
noncomputable def iRng2 (ta:TA):TI:=fun σ H R=>ta σ H fun vs H1=>∃i j:Int,vs=[.int i,.int j]/\(-(2^62)<=i/\i<2^62/\ -(2^62)<=j/\j<2^62)/\R (Itr i (j-i).toNat) H1
noncomputable def tFor (wi:TI) (g:TG) (tb:TS):TS:=fun D σ H=>wi σ H fun J H1=>∃W:Nat->Nat->St->Hp->Prop,(∃m,W 0 m σ H1)/\∀i m σ H,W i m σ H->
 (J.stop i H/\D.nx σ H)\/(J.go i H/\∃N:St->Hp->Prop,(∀ σ' H',N σ' H'->∃m',m'<m/\W (i+1) m' σ' H')/\∀x H',J.yld i H x H'->g x σ H' fun σ2 H2=>tb {D with nx:=N,ct:=N,bk:=D.nx} σ2 H2)
noncomputable def jYx (fp:List Addr) (h:Heap):List (Addr×Obj):=fp.filterMap fun b=>(h.get? b).map fun o=>(b,o)
theorem jYm {fp:List Addr} {h:Heap} {b:Addr} {o:Obj} (hb:b∈fp) (e:h.get? b=some o):(b,o)∈jYx fp h:=lQf.mpr ⟨b,hb,by rw[e];rfl⟩
theorem of_pinsAt {fp:List Addr} {h:Heap} {p:Addr×Obj} (hp:p∈jYx fp h):p.1∈fp/\h.get? p.1=some p.2:=by
 obtain⟨b,hb,e⟩:=lQf.mp hp
 cases q:h.get? b with
 | none=>rw[q] at e;cases e
 | some o=>
  rw[q] at e
  have e':(b,o)=p:=lJx e
  subst e'
  exact⟨hb,q⟩
theorem Inv.pinned {pins:List (Addr×Obj)} {σ:St} {H:Hp} {s:Shared} {fp:List Addr} (I:Inv X pins σ H s) (hf:∀b∈fp,FpOk X pins H b) (ho:∀b∈fp,∃o,s.heap.get? b=some o/\∀v,o.data≠ .cell v):Inv X (pins++jYx fp s.heap) σ H s:=
 I.pins_of fun p hp=>(lJt.mp hp).elim (fun z=>I.pin p (lJ3 _ z)) fun z=>by
  obtain⟨hb,e⟩:=of_pinsAt z
  obtain⟨f0,f1,f2,_⟩:=hf p.1 hb
  obtain⟨o,e',d⟩:=ho p.1 hb
  rw[e] at e';cases e'
  exact⟨e,f0,f1,f2,d⟩
theorem Inv.unpinned {pins pl:List (Addr×Obj)} {σ:St} {H:Hp} {s:Shared} (I:Inv X (pins++pl) σ H s):Inv X pins σ H s:=I.pins_of fun p hp=>I.pin p (lJ3 _ (lKi _ hp))
end
noncomputable abbrev R2:=V->V->Hp->VK->Prop
def OpR (X:Cx) (f:Value->Value->Sem Value) (r:R2):Prop:=
 ∀(pins:List (Addr×Obj)) (s:Shared) (σ:St) (H:Hp) (x y:V) (v u:Value) (Q:VK),Inv X pins σ H s->RelV x v->RelV y u->r x y H Q->
  wpAny (model X.prog X.w) X.A (f v u) (EP X pins σ Q) X.xe s
def UnR (X:Cx) (f:Value->Sem Value) (r:V->Hp->VK->Prop):Prop:=
 ∀(pins:List (Addr×Obj)) (s:Shared) (σ:St) (H:Hp) (x:V) (v:Value) (Q:VK),Inv X pins σ H s->RelV x v->r x H Q->
  wpAny (model X.prog X.w) X.A (f v) (EP X pins σ Q) X.xe s
def kX1 (X:Cx) (f:Value) (r:List V->Hp->VK->Prop):Prop:=
 ∀(pins:List (Addr×Obj)) (s:Shared) (σ:St) (H:Hp) (xs:List V) (us:List Value) (Q:VK),Inv X pins σ H s->Vals xs us->r xs H Q->
  wpAny (model X.prog X.w) X.A (call f us) (EP X pins σ Q) X.xe s
def TruR (X:Cx) (r:V->Hp->(Bool->Hp->Prop)->Prop):Prop:=
 ∀(pins:List (Addr×Obj)) (s:Shared) (σ:St) (H:Hp) (x:V) (v:Value) (Q:Bool->Hp->Prop),Inv X pins σ H s->RelV x v->r x H Q->
  wpAny (model X.prog X.w) X.A (truthy v) (TP X pins σ Q) X.xe s
noncomputable def tOp (r:R2) (ta tb:TE):TE:=fun σ H Q=>ta σ H fun x H1=>tb σ H1 fun y H2=>r x y H2 Q
noncomputable def tUn (r:V->Hp->VK->Prop) (ta:TE):TE:=fun σ H Q=>ta σ H fun x H1=>r x H1 Q
noncomputable def rI (C:Int->Int->Prop) (g:Int->Int->V):R2:=fun x y H Q=>∃i j,x= .int i/\y= .int j/\C i j/\Q (g i j) H
noncomputable def rI0 (g:Int->Int->V):R2:=fun x y H Q=>∃i j,x= .int i/\y= .int j/\Q (g i j) H
noncomputable def rU (g:Int->V):V->Hp->VK->Prop:=fun x H Q=>∃i,x= .int i/\Q (g i) H
section
variable {X:Cx} {a b c:Expr} {ta tb tc:TE} {pos:Pos}
theorem opI {f:Value->Value->Sem Value} {C:Int->Int->Prop} {g:Int->Int->Int}
  (rule:∀(i j:Int) (t u:Tok) (s:Shared) (Q:Value->Shared->Prop) (E:Value->Shared->Prop),C i j->Q (.int (g i j) s.toks) {s with toks:=s.toks+1}->wpAny (model X.prog X.w) X.A (f (.int i t) (.int j u)) Q E s):
  OpR X f (rI C fun i j=> .int (g i j)):=by
 intro pins s σ H x y v u Q I rx ry h
 obtain⟨i,j,rfl,rfl,hc,q⟩:=h
 obtain⟨t,rfl⟩:=rx
 obtain⟨t',rfl⟩:=ry
 exact rule i j t t' s _ _ hc ⟨.int (g i j),H,I.tok _,⟨_,rfl⟩,q⟩
theorem opI0 {f:Value->Value->Sem Value} {g:Int->Int->Int}
  (rule:∀(i j:Int) (t u:Tok) (s:Shared) (Q:Value->Shared->Prop) (E:Value->Shared->Prop),Q (.int (g i j) s.toks) {s with toks:=s.toks+1}->wpAny (model X.prog X.w) X.A (f (.int i t) (.int j u)) Q E s):
  OpR X f (rI0 fun i j=> .int (g i j)):=by
 intro pins s σ H x y v u Q I rx ry h
 obtain⟨i,j,rfl,rfl,q⟩:=h
 obtain⟨t,rfl⟩:=rx
 obtain⟨t',rfl⟩:=ry
 exact rule i j t t' s _ _ ⟨.int (g i j),H,I.tok _,⟨_,rfl⟩,q⟩
theorem opB0 {f:Value->Value->Sem Value} {g:Int->Int->Bool}
  (rule:∀(i j:Int) (t u:Tok) (s:Shared) (Q:Value->Shared->Prop) (E:Value->Shared->Prop),Q (.bool (g i j)) s->wpAny (model X.prog X.w) X.A (f (.int i t) (.int j u)) Q E s):
  OpR X f (rI0 fun i j=> .bl (g i j)):=by
 intro pins s σ H x y v u Q I rx ry h
 obtain⟨i,j,rfl,rfl,q⟩:=h
 obtain⟨t,rfl⟩:=rx
 obtain⟨t',rfl⟩:=ry
 exact rule i j t t' s _ _ ⟨.bl (g i j),H,I,rfl,q⟩
def CDiv (i j:Int):Prop:=0<j/\j<1073741824
def CPow (i j:Int):Prop:=0<=j/\j<=1000000/\i.natAbs<2^64
def CMul (i j:Int):Prop:=(-(2^64)<i/\i<2^64)\/(-(2^64)<j/\j<2^64)
theorem CMul.ok {i j:Int} (h:CMul i j):IntMulOk i j:=by
 rcases h with ⟨h1,h2⟩ | ⟨h1,h2⟩
 ·exact .of_left (intBits_le_64 h1 h2)
 ·exact .of_right (intBits_le_64 h1 h2)
theorem op_add:OpR X (binaryOp .Add) (rI0 fun i j=> .int (i+j)):=opI0 fun _ _ _ _ _ _ _ q=>add_int q
theorem op_sub:OpR X (binaryOp .Sub) (rI0 fun i j=> .int (i-j)):=opI0 fun _ _ _ _ _ _ _ q=>sub_int q
theorem op_mul:OpR X (binaryOp .Mult) (rI CMul fun i j=> .int (i*j)):=opI fun _ _ _ _ _ _ _ hc q=>mul_int q hc.ok
theorem op_fdiv:OpR X (binaryOp .FloorDiv) (rI CDiv fun i j=> .int (i / j)):=opI fun i j _ _ _ _ _ hc q=>by
 have h1:(0:Int)<j:=hc.1
 have h2:j<1073741824:=hc.2
 exact floordiv_int (by omega) (by rw[Int.fdiv_eq_ediv_of_nonneg i (by omega)];exact q) (.inl (PyProof.noPylong_small (by omega)))
theorem op_mod:OpR X (binaryOp .Mod) (rI (fun _ j=>0<j) fun i j=> .int (i%j)):=opI fun i j _ _ _ _ _ hc q=>by
 have h1:(0:Int)<j:=hc
 exact mod_int' (by omega) (by rw[Int.fmod_eq_emod_of_nonneg i (by omega)];exact q)
theorem op_pow:OpR X (binaryOp .Pow) (rI CPow fun i j=> .int (i^j.toNat)):=opI fun _ _ _ _ _ _ _ hc q=>pow_int_small hc.1 hc.2.1 hc.2.2 q
theorem unI {f:Value->Sem Value} {g:Int->Int}
  (rule:∀(i:Int) (t:Tok) (s:Shared) (Q:Value->Shared->Prop) (E:Value->Shared->Prop),Q (.int (g i) s.toks) {s with toks:=s.toks+1}->wpAny (model X.prog X.w) X.A (f (.int i t)) Q E s):
  UnR X f (rU fun i=> .int (g i)):=by
 intro pins s σ H x v Q I rx h
 obtain⟨i,rfl,q⟩:=h
 obtain⟨t,rfl⟩:=rx
 exact rule i t s _ _ ⟨.int (g i),H,I.tok _,⟨_,rfl⟩,q⟩
theorem un_neg:UnR X (unaryOp .USub) (rU fun i=> .int (-i)):=unI fun _ _ _ _ _ q=>neg_int q
end
section
variable {X:Cx} {a b c:Expr} {ta tb tc:TE} {pos:Pos}
theorem fin_bl {pins:List (Addr×Obj)} {σ:St} {H:Hp} {s:Shared} {Q:VK} {k k':Bool} (I:Inv X pins σ H s) (q:Q (.bl k) H) (e:k=k'):EP X pins σ Q (.bool k') s:=by
 subst e
 exact⟨.bl k,H,I,rfl,q⟩
theorem op_lt:OpR X (compareOp .Lt) (rI0 fun i j=> .bl (decide (i<j))):=opB0 fun _ _ _ _ _ _ _ q=>lt_int q
theorem op_le:OpR X (compareOp .LtE) (rI0 fun i j=> .bl (decide (i<=j))):=opB0 fun _ _ _ _ _ _ _ q=>le_int q
theorem op_gt:OpR X (compareOp .Gt) (rI0 fun i j=> .bl (decide (j<i))):=opB0 fun _ _ _ _ _ _ _ q=>gt_int q
theorem op_ge:OpR X (compareOp .GtE) (rI0 fun i j=> .bl (decide (j<=i))):=opB0 fun _ _ _ _ _ _ _ q=>ge_int q
theorem op_isN:OpR X (compareOp .Is) (fun x y H Q=>y= .non/\Q (.bl (decide (x= .non))) H):=by
 intro pins s σ H x y v u Q I rx ry h
 obtain⟨rfl,q⟩:=h
 cases ry
 refine is_none_gen (fin_bl I q ?_)
 cases x<;>first
  | (cases rx;rfl)
  | (obtain⟨t,rfl⟩:=rx;rfl)
theorem op_notN:OpR X (compareOp .IsNot) (fun x y H Q=>y= .non/\Q (.bl (!decide (x= .non))) H):=by
 intro pins s σ H x y v u Q I rx ry h
 obtain⟨rfl,q⟩:=h
 cases ry
 refine isnot_none_gen (fin_bl I q ?_)
 cases x<;>first
  | (cases rx;rfl)
  | (obtain⟨t,rfl⟩:=rx;rfl)
theorem nomark (b:Expr) {op:CmpOp} (h:op≠ .In:=by decide) (h2:op≠ .NotIn:=by decide):behindInMarks op b=false:=by
 have e1:(op == CmpOp.In)=false:=by cases op<;>first | rfl | exact absurd rfl h
 have e2:(op == CmpOp.NotIn)=false:=by cases op<;>first | rfl | exact absurd rfl h2
 cases b<;>simp[behindInMarks,e1,e2]
noncomputable def jJ7 (t:TE):TT:=fun σ H Q=>t σ H fun x H'=>∃k,x= .bl k/\Q k H'
noncomputable def kUg (r r':R2) (ta tb tc:TE):TE:=fun σ H Q=>ta σ H fun x H1=>tb σ H1 fun y H2=>r x y H2 fun z H3=>∃k,z= .bl k/\
 (if k=true then tc σ H3 fun w' H4=>r' y w' H4 Q else Q (.bl false) H3)
def TruV (K:PySem.W.Frag) (x:V) (H:Hp) (k:Bool):Prop:=
 match x with
 | .non=>k=false
 | .bl b=>k=b
 | .int i=>k=(i != 0)
 | .str y=>y.length<=sizeLine/\k=((y.length:Int) != 0)
 | .byt y=>y.size<=sizeLine/\k=((y.size:Int) != 0)
 | .ref p=>(∃xs,SqL K H p xs/\k= !xs.isEmpty)\/(∃xs,SqT K H p xs/\k= !xs.isEmpty)\/∃kvs,H p=some (.dK kvs)/\k= !kvs.isEmpty
 | _=>False
theorem isEmpty_kv {κ:Type} {kvs:List (κ×V)} {vs:List (κ×Value)} (r:KV kvs vs):(!vs.isEmpty)= !kvs.isEmpty:=by
 cases r<;>rfl
theorem kUo {xs:List V} {its:List Value} (r:Vals xs its):(!its.toArray.isEmpty)= !xs.isEmpty:=by
 cases r<;>simp
theorem kUm:(sizeLine:Nat)<2^63:=by rw[sizeLine_eq];decide
theorem tru_ok:TruR X (fun x H Q=>∃k,TruV X.K x H k/\Q k H):=by
 intro pins s σ H x v Q I rx h
 obtain⟨k,e,q⟩:=h
 have hl:=kUm
 have hs:sizeLine=16777216:=sizeLine_eq
 cases x with
 | non=>
  cases rx
  have e':k=false:=e
  subst e'
  exact truthy_none ⟨H,I,q⟩
 | bl b=>
  cases rx
  have e':k=b:=e
  subst e'
  exact wpAny_truthy_bool ⟨H,I,q⟩
 | int i=>
  obtain⟨t,rfl⟩:=rx
  have e':k=(i != 0):=e
  subst e'
  exact PySem.P.truthy_int ⟨H,I,q⟩
 | str y=>
  obtain⟨t,rfl⟩:=rx
  obtain⟨hy,e'⟩:y.length<=sizeLine/\k=((y.length:Int) != 0):=e
  subst e'
  exact PySem.P.truthy_str (by omega) ⟨H,I.tok _,q⟩
 | byt y=>
  obtain⟨t,rfl⟩:=rx
  obtain⟨hy,e'⟩:y.size<=sizeLine/\k=((y.size:Int) != 0):=e
  subst e'
  exact PySem.W.truthy_bytes (by omega) ⟨H,I.tok _,q⟩
 | ref p=>
  cases rx
  have e':(∃xs,SqL X.K H p xs/\k= !xs.isEmpty)\/(∃xs,SqT X.K H p xs/\k= !xs.isEmpty)\/∃kvs,H p=some (.dK kvs)/\k= !kvs.isEmpty:=e
  rcases e' with ⟨xs,hx,e'⟩ | ⟨xs,hx,e'⟩ | ⟨kvs,hx,e'⟩
  ·subst e'
   obtain⟨its,r,pl,hz⟩:=I.list hx
   have hlen:=r.length
   exact wpAny_truthy_list pl.isList (by simp only[lJi];omega) ⟨H,I.tok _,by rw[kUo r];exact q⟩
  ·subst e'
   obtain⟨its,r,pl,hz⟩:=I.tuple hx
   have hlen:=r.length
   exact truthy_tuple pl (by simp only[lJi];omega) ⟨H,I.tok _,by rw[kUo r];exact q⟩
  ·subst e'
   obtain⟨hz,hS,vs,r,m⟩:kvs.length<=sizeLine/\(p == sysModules)=false/\∃vs,KV kvs vs/\s.heap.DictOf (jKo X.prog X.w) p vs:=I.hok p _ hx
   have hlen:kvs.length=vs.length:=Paired.length r
   exact wpAny_truthy_dict hS m (by omega) ⟨H,I.tok _,by rw[isEmpty_kv r];exact q⟩
 | _=>exact (show False from e).elim
theorem vals1 {x:V} {us:List Value} (r:Vals [x] us):∃u,us=[u]/\RelV x u:=by
 cases r with
 | cons r1 r2=>cases r2;exact⟨_,rfl,r1⟩
theorem vals2 {x y:V} {us:List Value} (r:Vals [x,y] us):∃u w',us=[u,w']/\RelV x u/\RelV y w':=by
 cases r with
 | cons r1 r2=>
  cases r2 with
  | cons r3 r4=>cases r4;exact⟨_,_,rfl,r1,r3⟩
theorem call_abs:kX1 X (.builtin "abs") (fun xs H Q=>∃i,xs=[.int i]/\Q (.int (if i<0 then -i else i)) H):=by
 intro pins s σ H xs us Q I r h
 obtain⟨i,rfl,q⟩:=h
 obtain⟨u,rfl,t,rfl⟩:=vals1 r
 exact call_abs_int fun u tk=>⟨.int (if i<0 then -i else i),H,I.tok _,⟨_,rfl⟩,q⟩
theorem call_max2 (hc:X.calm=true):kX1 X (.builtin "max") (fun xs H Q=>∃i j,xs=[.int i,.int j]/\Q (.int (if j>i then j else i)) H):=by
 intro pins s σ H xs us Q I r h
 obtain⟨i,j,rfl,q⟩:=h
 obtain⟨u,w',rfl,⟨t,rfl⟩,⟨t',rfl⟩⟩:=vals2 r
 refine max_two_ints (I.ok.hd hc) fun h' tk k=>⟨_,H,I.kept k,?_,q⟩
 by_cases hj:j>i
 ·rw[if_pos hj,if_pos hj];exact⟨_,rfl⟩
 ·rw[if_neg hj,if_neg hj];exact⟨_,rfl⟩
theorem call_int1:kX1 X (.type "int") (fun xs H Q=>(∃i,xs=[.int i]/\Q (.int i) H)\/∃k,xs=[.bl k]/\Q (.int (if k then 1 else 0)) H):=by
 intro pins s σ H xs us Q I r h
 rcases h with ⟨i,rfl,q⟩ | ⟨k,rfl,q⟩
 ·obtain⟨u,rfl,t,rfl⟩:=vals1 r
  exact call_int_int ⟨.int i,H,I,⟨_,rfl⟩,q⟩
 ·obtain⟨u,rfl,r1⟩:=vals1 r
  cases r1
  exact call_int_bool ⟨.int (if k then 1 else 0),H,I.tok _,⟨_,rfl⟩,q⟩
theorem call_divmod:kX1 X (.builtin "divmod") (fun xs H Q=>∃i j,xs=[.int i,.int j]/\CDiv i j/\∀p,H p=none->Q (.ref p) (upd H p (.tup [.int (i / j),.int (i%j)]))):=by
 intro pins s σ H xs us Q I r h
 obtain⟨i,j,rfl,⟨h1,h2⟩,q⟩:=h
 obtain⟨u,w',rfl,⟨t,rfl⟩,⟨t',rfl⟩⟩:=vals2 r
 refine divmod_int (by omega) ?_ (.inl (PyProof.noPylong_small (by omega)))
 rw[Int.fdiv_eq_ediv_of_nonneg i (by omega),Int.fmod_eq_emod_of_nonneg i (by omega)]
 have hn:H s.heap.objs.size=none:=I.hok.fresh (lJd _)
 refine⟨.ref s.heap.objs.size,_,?_,rfl,q _ hn⟩
 refine I.laid (fun b o e=>Heap.get?_push_of_some _ e) (lJd _) ⟨by simp only[lJ4,List.length_nil];rw[sizeLine_eq];decide,[.int (i / j) s.toks,.int (i%j) (s.toks+1)],.cons ⟨_,rfl⟩ (.cons ⟨_,rfl⟩ .nil),?_⟩
 exact⟨_,Heap.get?_push_size s.heap rfl,rfl,0,rfl,rfl⟩
end
structure ObjM (h:Heap) (x dx C:Addr) (mA:Str->Option Value):Prop where
 obj:h.get? x=some (PySem.W.instObj C dx)
 ns:h.Ns1 dx mA
 ne:dx≠x
theorem lookIn_ns {h:Heap} {dx:Addr} {mA:Str->Option Value} (n:h.Ns1 dx mA):∃od,h.get? dx=some od/\∀name,PySem.W.lookIn name od=some (mA name):=by
 obtain⟨o,es,ep,ho,hd,hk,_,hm⟩:=n
 refine⟨o,ho,fun name=> ?_⟩
 have e:=hm name
 unfold nsFind findBy at e
 rw[<-Array.find?_toList] at e
 unfold PySem.W.lookIn
 rw[hd]
 dsimp only
 split
 ·rename_i y q
  rw[q] at e
  exact congrArg some e
 ·rename_i q
  rw[q] at e
  have a:es.toList.any (·.refKey)=false:=by
   rw[List.any_eq_false]
   intro y hy
   obtain⟨z,t,hkey⟩:=hk y (Array.mem_toList_iff.mp hy)
   simp[DictEntry.refKey,hkey]
  have a':¬ es.toList.any (·.refKey)=true:=by rw[a];exact lJf
  rw[if_neg a']
  exact congrArg some e
theorem ObjM.look {h:Heap} {x dx C:Addr} {mA:Str->Option Value} (I:ObjM h x dx C mA):∃od,PySem.W.InstAt h x (PySem.W.instObj C dx) C (some od)/\∀name,PySem.W.lookIn name od=some (mA name):=
 let ⟨od,ho,hl⟩:=lookIn_ns I.ns
 ⟨od,⟨I.obj,rfl,rfl,ho⟩,hl⟩
section
variable {prog:Program} {w:World} {A:Around} {E:Value->Shared->Prop} {s:Shared} {K:PySem.W.Frag} {x dx C f:Addr} {mA:Str->Option Value} {name:Str} {v:Value}
theorem get_map {expr:Bool} {Q:Value->Shared->Prop} (X:K.In s.heap) (I:ObjM s.heap x dx C mA) (hg:PySem.W.plainGet K C name=true) (hh:PySem.W.hasDictIn K C=true)
  (ha:PySem.W.findIn K (.ref C) name=some none) (hv:mA name=some v) (hv':PySem.W.handedIn v=true) (h:Q v {s with toks:=s.toks+1}):
  wpAny (model prog w) A (getAttr (.ref x) name expr) Q E s:=by
 obtain⟨od,J,hl⟩:=I.look
 exact PySem.W.get_value X J (PySem.W.plainGet_of hg).1 (PySem.W.findObj_own hh ha rfl (by rw[hl,hv])) hv' h
theorem get_meth {pl:Sem Bool} {Q:Value×List Value->Shared->Prop} (X:K.In s.heap) (I:ObjM s.heap x dx C mA) (hg:PySem.W.plainGet K C name=true)
  (hf:PySem.W.findIn K (.ref C) name=some (some (.ref f))) (ht:PySem.W.isFn K (.ref f)=true) (hv:mA name=none) (h:Q (.ref f,[.ref x]) s):
  wpAny (model prog w) A (getMethod (.ref x) name pl) Q E s:=by
 obtain⟨od,J,hl⟩:=I.look
 exact PySem.W.method_fn X J (PySem.W.plainGet_of hg).1 (PySem.W.plainGet_of hg).2 hf (beq_iff_eq.mp ht) (by show (PySem.W.lookIn name od).map (·.isSome)=some false;rw[hl,hv];rfl) h
theorem set_map {ns:List Str} {Q:Unit->Shared->Prop} (X:K.In s.heap) (I:ObjM s.heap x dx C mA)
  (hs:PySem.W.findIn K (.ref C) "__setattr__"=some (some (.builtin "object.__setattr__"))) (hp:PySem.W.plainOver K C=true) (ht:PySem.W.takerIn K C name=some none) (hh:PySem.W.hasDictIn K C=true)
  (hw:PySem.Within mA ns) (hsz:ns.length<=sizeLine)
  (h:∀h',ObjM h' x dx C (fun y=>if y=name then some v else mA y)->Heap.SameBut dx s.heap h'->Q () {s with heap:=h',toks:=s.toks+2}):
  wpAny (model prog w) A (setAttr (.ref x) name v) Q E s:=by
 obtain⟨od,J,hl⟩:=I.look
 refine PySem.W.set_plain X J hs (PySem.W.osa_open (s:={s with toks:=s.toks+1}) (r:=none) X J hp ht fun b=> ?_)
 obtain⟨cd,hc,hd'⟩:=PySem.W.any_some hh
 have hx:s.heap.get? x=some ⟨.ref C,some dx,.plain,#[]⟩:=I.obj
 refine wpAny_bind (wpAny_pure (wpAny_bind (wpAny_bind (wpAny_loadPart hx (wpAny_bind (PySem.W.Looks.here (s:={s with toks:=s.toks+1}) (PySem.W.looks_clsIn X hc) ?_))))))
 rw[hd']
 refine wpAny_pure (a:=some dx) (wpAny_bind (wpAny_pure (wpAny_bind ?_)))
 refine wpAny_nsSet1 (s:={s with toks:=s.toks+1}) I.ns fun h' hn2 hs2=> ?_
 obtain⟨oD,esD,epD,hoD,hdD,hcD⟩:=hn2.count (PySem.Within.cons name v hw)
 refine wpAny_bind (wpAny_lookBehind hoD (by rw[hdD];exact pastItsLine_dict (lJs hcD (by rw[lJ4];omega))) ?_)
 exact wpAny_pure (h _ ⟨(hs2.2 _ (Ne.symm I.ne)).trans I.obj,hn2,I.ne⟩ hs2)
theorem make_map {R:Result->Shared->Prop} {vs:List Value} {kw:List (Str×Value)} (X:K.In s.heap) (hm:PySem.W.makesIn K C=true)
  (hi:PySem.W.findIn K (.ref C) "__init__"=some (some (.ref f))) (hf:PySem.W.typeIn K (.ref f)=some (.type "function"))
  (h:codeAny (model prog w) (A.under (.builtin "type.__call__" ⟨.ref C::vs,kw⟩)) (.call (.ref f) ⟨.ref (s.heap.objs.size+1)::vs,kw⟩) (PySem.W.InitBack (s.heap.objs.size+1) R)
   {s with heap:=(s.heap.push PySem.W.emptyDict).push (PySem.W.instObj C s.heap.objs.size)}):
  codeAny (model prog w) A (.call (.ref C) ⟨vs,kw⟩) R s:=by
 obtain⟨hh,g,d,t,os⟩:=s
 exact PySem.W.make_core (PySem.W.makes_of X hm) (PySem.W.looks_findIn X hi) (fun self=>PySem.W.bind_fn X self hf) (.inl rfl) h
end
noncomputable def putF (f:Str) (v:V):List (Str×V)->List (Str×V)
 | []=>[(f,v)]
 | (g,x)::r=>if g=f then (g,v)::r else (g,x)::putF f v r
theorem kKt (f g:Str) (v:V):∀fs:List (Str×V),(putF f v fs).lookup g=if g=f then some v else fs.lookup g
 | []=>by
  show List.lookup g [(f,v)]=_
  by_cases h:g=f
  ·have hb:(g == f)=true:=beq_iff_eq.mpr h
   simp only[List.lookup,hb,if_pos h]
  ·have hb:(g == f)=false:=beq_eq_false_iff_ne.mpr h
   simp only[List.lookup,hb,if_neg h]
 | (k,x)::r=>by
  have ih:=kKt f g v r
  rw[show putF f v ((k,x)::r)=(if k=f then (k,v)::r else (k,x)::putF f v r) from rfl]
  by_cases hk:k=f
  ·rw[if_pos hk]
   by_cases h:g=k
   ·have hb:(g == k)=true:=beq_iff_eq.mpr h
    simp only[List.lookup,hb,if_pos (h.trans hk)]
   ·have hb:(g == k)=false:=beq_eq_false_iff_ne.mpr h
    simp only[List.lookup,hb,if_neg (fun e:g=f=>h (e.trans hk.symm))]
  ·rw[if_neg hk]
   by_cases h:g=k
   ·have hb:(g == k)=true:=beq_iff_eq.mpr h
    simp only[List.lookup,hb,if_neg (fun e:g=f=>hk (h.symm.trans e))]
   ·have hb:(g == k)=false:=beq_eq_false_iff_ne.mpr h
    simp only[List.lookup,hb]
    exact ih
theorem kK2 (f:Str) (v:V):∀fs:List (Str×V),f∈(putF f v fs).map (·.1)/\∀g,g∈fs.map (·.1)->g∈(putF f v fs).map (·.1)
 | []=>⟨by simp[putF],fun g h=>by simp at h⟩
 | (k,x)::r=>by
  obtain⟨i1,i2⟩:=kK2 f v r
  rw[show putF f v ((k,x)::r)=(if k=f then (k,v)::r else (k,x)::putF f v r) from rfl]
  by_cases hk:k=f
  ·rw[if_pos hk]
   subst hk
   exact⟨by simp,fun g h=>by simpa using h⟩
  ·rw[if_neg hk]
   refine⟨?_,fun g h=> ?_⟩
   ·rw[lJm]
    exact lJ1 _ i1
   ·rw[lJm] at h ⊢
    rcases (lJn.mp h) with e | e
    ·exact lJn.mpr (.inl e)
    ·exact lJ1 _ (i2 g e)
theorem kKv (f:Str) (v:V):∀fs:List (Str×V),(putF f v fs).length<=fs.length+1
 | []=>by simp[putF]
 | (k,x)::r=>by
  have ih:=kKv f v r
  rw[show putF f v ((k,x)::r)=(if k=f then (k,v)::r else (k,x)::putF f v r) from rfl]
  by_cases hk:k=f
  ·rw[if_pos hk,lJ4,lJ4];omega
  ·rw[if_neg hk,lJ4,lJ4];omega
theorem RelO.some_of {v:V} {o:Option Value} (r:RelO (some v) o):∃u,o=some u/\RelV v u:=by
 cases o with
 | none=>exact (show False from r).elim
 | some u=>exact⟨u,rfl,r⟩
theorem RelO.none_of {o:Option Value} (r:RelO none o):o=none:=by
 cases o with
 | none=>rfl
 | some u=>exact (show False from r).elim
theorem handed_of {v:V} {u:Value} (r:RelV v u):PySem.W.handedIn u=true:=by
 cases v with
 | non=>cases (show u=Value.none from r);rfl
 | bl b=>cases (show u=Value.bool b from r);rfl
 | int i=>obtain⟨t,e⟩:=(show ∃t,u=Value.int i t from r);cases e;rfl
 | str x=>obtain⟨t,e⟩:=(show ∃t,u=Value.str x t from r);cases e;rfl
 | byt b=>obtain⟨t,e⟩:=(show ∃t,u=Value.bytes b t from r);cases e;rfl
 | flt b=>obtain⟨t,e⟩:=(show ∃t,u=Value.float b t from r);cases e;rfl
 | ref a=>cases (show u=Value.ref a from r);rfl
 | ty n=>cases (show u=Value.type n from r);rfl
section
variable {P:Program} {w:World} {H H':Hp} {h h':Heap} {a C dx:Addr} {fs fs':List (Str×V)}
theorem ins_get (hok:HOk P w H h) (e:H a=some (.ins C dx fs)):∃mA,ObjM h a dx C mA/\(∀f,RelO (fs.lookup f) (mA f))/\PySem.Within mA (fs.map (·.1))/\fs.length<=1000/\H dx=some (.own a):=by
 obtain⟨d,z,ne,ob,mA,n,r,q⟩:=(show ObjOk P w H h a (.ins C dx fs) from hok a _ e)
 exact⟨mA,⟨ob,n,ne⟩,r,q,z,d⟩
end
structure Cls (K:PySem.W.Frag) (C:Addr):Prop where
 pg:PySem.W.plainGet K C Str.empty=true
 hd:PySem.W.hasDictIn K C=true
 po:PySem.W.plainOver K C=true
 sa:PySem.W.findIn K (.ref C) "__setattr__"=some (some (.builtin "object.__setattr__"))
theorem Cls.get {K:PySem.W.Frag} {C:Addr} (c:Cls K C) (f:Str):PySem.W.plainGet K C f=true:=c.pg
def NoAttr (K:PySem.W.Frag) (C:Addr) (f:Str):Prop:=PySem.W.findIn K (.ref C) f=some none
theorem NoAttr.taker {K:PySem.W.Frag} {C:Addr} {f:Str} (n:NoAttr K C f):PySem.W.takerIn K C f=some none:=by
 unfold PySem.W.takerIn
 rw[show PySem.W.findIn K (.ref C) f=some none from n]
 rfl
structure Meth (K:PySem.W.Frag) (C:Addr) (m:Str) (f:Addr):Prop where
 at_:PySem.W.findIn K (.ref C) m=some (some (.ref f))
 fn:PySem.W.isFn K (.ref f)=true
 kp:PySem.W.keepIn K (.ref f)=true
section
variable {X:Cx} {pins:List (Addr×Obj)} {σ:St} {H:Hp} {s:Shared} {a C dx:Addr} {fs:List (Str×V)} {f:Str} {v:V} {A:Around} {E:Value->Shared->Prop}
theorem getattr_ok {b:Bool} {Q:Value->Shared->Prop} (I:Inv X pins σ H s) (e:H a=some (.ins C dx fs)) (c:Cls X.K C) (n:NoAttr X.K C f) (l:fs.lookup f=some v)
  (h:∀u s',Inv X pins σ H s'->RelV v u->Q u s'):wpAny (model X.prog X.w) A (getAttr (.ref a) f b) Q E s:=by
 obtain⟨mA,O,r,_,_,_⟩:=ins_get I.hok e
 obtain⟨u,hu,ru⟩:=RelO.some_of (v:=v) (o:=mA f) (by rw[<-l];exact r f)
 exact get_map I.kIn O (c.get f) c.hd n hu (handed_of ru) (h u _ (I.tok _) ru)
theorem kUt {m:Str} {g:Addr} {pl:Sem Bool} {Q:Value×List Value->Shared->Prop} (I:Inv X pins σ H s) (e:H a=some (.ins C dx fs)) (c:Cls X.K C) (k:Meth X.K C m g) (l:fs.lookup m=none)
  (h:Q (.ref g,[.ref a]) s):wpAny (model X.prog X.w) A (getMethod (.ref a) m pl) Q E s:=by
 obtain⟨mA,O,r,_,_,_⟩:=ins_get I.hok e
 have hn:mA m=none:=RelO.none_of (by rw[<-l];exact r m)
 exact get_meth I.kIn O (c.get m) k.at_ k.fn hn h
theorem setattr_ok {y:V} {u:Value} {Q:Unit->Shared->Prop} (I:Inv X pins σ H s) (e:H a=some (.ins C dx fs)) (c:Cls X.K C) (n:NoAttr X.K C f) (hl:fs.length<1000) (ry:RelV y u)
  (h:∀s',Inv X pins σ (upd H a (.ins C dx (putF f y fs))) s'->Q () s'):wpAny (model X.prog X.w) A (setAttr (.ref a) f u) Q E s:=by
 obtain⟨mA,O,r,wi,_,ho⟩:=ins_get I.hok e
 have hz:(fs.map (·.1)).length<=sizeLine:=by rw[lJb,sizeLine_eq];omega
 refine set_map I.kIn O c.sa c.po n.taker c.hd wi hz fun h' O' sb=>h _ ?_
 have hd:∃o,h'.get? dx=some o:=let ⟨o,_,_,e',_⟩:=O'.ns;⟨o,e'⟩
 refine I.write (x:=a) (e:=dx) (by rw[e];exact True.intro) (.inr ho) (fun b q hb z=>(sb.2 b hb).trans z) hd ?_
 refine⟨by rw[jKp O.ne];exact ho,?_,O.ne,O'.obj,_,O'.ns,fun g=> ?_,fun g hg=> ?_⟩
 ·have:=kKv f y fs;omega
 ·show RelO ((putF f y fs).lookup g) (if g=f then some u else mA g)
  rw[kKt]
  by_cases q:g=f
  ·rw[if_pos q,if_pos q];exact ry
  ·rw[if_neg q,if_neg q];exact r g
 ·by_cases q:g=f
  ·rw[q];exact (kK2 f y fs).1
  ·refine (kK2 f y fs).2 g (wi g fun z=>hg ?_)
   show (if g=f then some u else mA g)=none
   rw[if_neg q];exact z
theorem Inv.made (I:Inv X pins σ H s):Inv X pins σ (upd (upd H s.heap.objs.size (.own (s.heap.objs.size+1))) (s.heap.objs.size+1) (.ins C s.heap.objs.size []))
  {s with heap:=(s.heap.push PySem.W.emptyDict).push (PySem.W.instObj C s.heap.objs.size)}:=by
 have e1:(s.heap.push PySem.W.emptyDict).get? s.heap.objs.size=some PySem.W.emptyDict:=Heap.get?_push_size s.heap rfl
 have e2:((s.heap.push PySem.W.emptyDict).push (PySem.W.instObj C s.heap.objs.size)).get? (s.heap.objs.size+1)=some (PySem.W.instObj C s.heap.objs.size):=by
  have:=Heap.get?_push_size (s.heap.push PySem.W.emptyDict) (o:=PySem.W.instObj C s.heap.objs.size) rfl
  rwa [Heap.size_push] at this
 have e3:(s.heap.push PySem.W.emptyDict).Ns s.heap.objs.size (fun _=>none):=⟨PySem.W.emptyDict,#[],_,e1,rfl,(fun e he=>absurd he (by simp)),fun _=>rfl⟩
 have I1:=I.laid (a:=s.heap.objs.size) (o:= .own (s.heap.objs.size+1)) (h':=s.heap.push PySem.W.emptyDict) (t':=s.toks) (fun b u q=>Heap.get?_push_of_some _ q) (lJd _) ⟨_,e1⟩
 refine I1.laid (a:=s.heap.objs.size+1) (o:= .ins C s.heap.objs.size []) (t':=s.toks) (fun b u q=>Heap.get?_push_of_some _ q) (Nat.le_of_eq (Heap.size_push _ _)) ?_
 have ne:s.heap.objs.size≠s.heap.objs.size+1:=lJl (Nat.lt_succ_self _)
 refine⟨by rw[jKp ne,jK7],lJg _,ne,e2,fun _=>none,(Heap.Ns1.of_empty e3).at fun o q=>Heap.get?_push_of_some _ q,fun _=>True.intro,fun y hy=>absurd rfl hy⟩
theorem attr_of {prog:Program} {w:World} {env:Env} {e:Expr} {f:Str} {pos:Pos} {s:Shared} {Q:Value->Shared->Prop} (hb:attributeBase e f env (eval e env)=eval e env)
  (h:wpAny (model prog w) A (eval e env) (fun o s₁=>wpAny (model prog w) A (getAttr o f true) Q E s₁) E s):wpAny (model prog w) A (eval (.Attribute e f pos) env) Q E s:=
 Attribute_any_ h (by rw[arm_eval_Attribute,hb])
end
noncomputable def tFld (K:PySem.W.Frag) (ta:TE) (f:Str):TE:=fun σ H Q=>ta σ H fun x H1=>∃a C dx fs v,x= .ref a/\H1 a=some (.ins C dx fs)/\Cls K C/\NoAttr K C f/\fs.lookup f=some v/\Q v H1
section
variable {X:Cx} {o e value:Expr} {f:Str} {pos pos' tpos:Pos} {ta tv:TE}
noncomputable def rSub:V->V->Hp->VK->Prop:=fun x y H Q=>∃i j,x= .int i/\y= .int j/\Q (.int (i-j)) H
end
section
variable {X:Cx} {pins:List (Addr×Obj)} {σ:St} {H:Hp} {s:Shared} {A:Around} {E:Value->Shared->Prop} {Q:Value->Shared->Prop} {c:Value} {b:Bool}
end
structure Room (k:Nat) (A:Around):Prop where
 hd:A.handled=none
 gd:A.guards=some []
 dp:A.depth+3*k+5<recursionLimit
 un:A.units+16*k+200<cLine
theorem Room.mono {j k:Nat} {A:Around} (r:Room k A) (h:j<=k):Room j A:=⟨r.hd,r.gd,by have:=r.dp;omega,by have:=r.un;omega⟩
theorem Room.deeper {k:Nat} {A:Around} (r:Room (k+1) A) (env:Env):Room k (A.deeper env):=
 ⟨r.hd,r.gd,by have:=r.dp;show A.depth+1+3*k+5<_;omega,by have:=r.un;show A.units+3+16*k+200<_;omega⟩
theorem make_depth {A:Around} {C:Addr} {us:List Value} {kw:List (Str×Value)}:(A.under (.builtin "type.__call__" ⟨.ref C::us,kw⟩)).depth=A.depth+1:=by
 first | rfl | simp[Around.under,Code.weight,Code.isCreation,Code.isGuard,Code.isCaller,Code.frames,Code.isFrame,guardIds]
theorem make_units {A:Around} {C:Addr} {us:List Value} {kw:List (Str×Value)}:(A.under (.builtin "type.__call__" ⟨.ref C::us,kw⟩)).units=A.units+1:=by
 first | rfl | simp[Around.under,Code.cUnits,Code.frames,Code.isFrame]
theorem Room.make {k:Nat} {A:Around} (r:Room (k+1) A) (C:Addr) (us:List Value) (kw:List (Str×Value)):Room k (A.under (.builtin "type.__call__" ⟨.ref C::us,kw⟩)):=
 ⟨r.hd,r.gd,by have:=r.dp;rw[make_depth];omega,by have:=r.un;rw[make_units];omega⟩
theorem Room.depth {k:Nat} {A:Around} (r:Room k A):A.depth<recursionLimit:=by have:=r.dp;omega
theorem Room.units {k:Nat} {A:Around} (r:Room k A):A.units+64<cLine:=by have:=r.un;omega
noncomputable def tNil:TA:=fun _ H Q=>Q [] H
noncomputable def jJb (ta:TE) (tr:TA):TA:=fun σ H Q=>ta σ H fun x H1=>tr σ H1 fun xs H2=>Q (x::xs) H2
section
variable {X:Cx} {e:Expr} {es:List Expr} {te:TE} {t:TA} {pos:Pos}
noncomputable def tTup (t:TA):TE:=fun σ H Q=>t σ H fun xs H1=>xs.length<=sizeLine/\∀p,H1 p=none->Q (.ref p) (upd H1 p (.tup xs))
noncomputable def tLst (t:TA):TE:=fun σ H Q=>t σ H fun xs H1=>xs.length<=sizeLine/\∀p,H1 p=none->Q (.ref p) (upd H1 p (.lst xs))
end
noncomputable abbrev Sp:=List V->Hp->VK->XK->Prop
noncomputable abbrev CXT:=List Env->Hp->Shared->XK->Value->Shared->Prop
structure Env0 (P:Program) (w:World) (K:PySem.W.Frag) (mg:Str->Option Value) (base:Heap) (A:Around) (outer:List Env) (s:Shared) (H:Hp):Prop where
 frames:A.frames=some outer
 mod:Mod K mg base
 bs:∀b o,base.get? b=some o->s.heap.get? b=some o/\H b=none
 bsz:base.objs.size<=s.heap.objs.size
 funs:s.heap.FunFrames base outer
 frf:∀b∈frs outer,H b=none
 hok:HOk P w H s.heap
 bare:AllBare s.gens
def CE (outer:List Env) (P:Program) (w:World) (H:Hp) (s:Shared) (Q:VK) (u:Value) (s':Shared):Prop:=
 ∃v H',s'.os=s.os/\AllBare s'.gens/\Un (frs outer) [] H H' s.heap s'.heap/\HOk P w H' s'.heap/\RelV v u/\Q v H'
def CR (CX:CXT) (outer:List Env) (P:Program) (w:World) (H:Hp) (s:Shared) (Q:VK) (E:XK) (r:Result) (s':Shared):Prop:=
 match r with
 | .ok (.ret u)=>CE outer P w H s Q u s'
 | .ok _=>False
 | .error e=>CX outer H s E e s'
structure FnOk (P:Program) (w:World) (K:PySem.W.Frag) (mg:Str->Option Value) (base:Heap) (CX:CXT) (k:Nat) (f:Addr) (fd:FuncData) (ps:List Str) (sp:Sp):Prop where
 len:∀vs H Q E,sp vs H Q E->vs.length=ps.length
 run:∀(A:Around) (outer:List Env) (s:Shared) (H:Hp) (args:Args) (us:List Value) (vs:List V) (Q:VK) (E:XK),Room k A->Env0 P w K mg base A outer s H->BindsTo s fd args (ps.zip us)->Vals vs us->sp vs H Q E->
  codeAny (model P w) A (.call (.ref f) args) (CR CX outer P w H s Q E) s
theorem Env0.make {P:Program} {w:World} {K:PySem.W.Frag} {mg:Str->Option Value} {base:Heap} {A:Around} {outer:List Env} {s:Shared} {H:Hp} (e:Env0 P w K mg base A outer s H) (C:Addr) (us:List Value) (kw:List (Str×Value)):
  Env0 P w K mg base (A.under (.builtin "type.__call__" ⟨.ref C::us,kw⟩)) outer s H:=⟨by first | exact e.frames | (simpa[Around.under,Code.envs,Code.isFrame,pushEnvs] using e.frames),e.mod,e.bs,e.bsz,e.funs,e.frf,e.hok,e.bare⟩
section
variable {X:Cx} {pins:List (Addr×Obj)} {σ:St} {H:Hp} {s s':Shared}
theorem Inv.env0 (I:Inv X pins σ H s):Env0 X.prog X.w X.K X.mg X.base X.A X.stack s H:=
 ⟨I.ok.frames,I.ok.mod,I.bs,lJs I.ok.bsz I.sz,I.stack,I.stkFree,I.hok,I.bare⟩
theorem Inv.after {Q:VK} {u:Value} (I:Inv X pins σ H s) (h:CE X.stack X.prog X.w H s Q u s'):EP X pins σ Q u s':=by
 obtain⟨v,H',os,bare,un,hok,r,q⟩:=h
 obtain⟨hh,g,d,t,os'⟩:=s'
 obtain rfl:os'=s.os:=os
 exact⟨v,H',I.call (h':=hh) (g':=g) (d':=d) (t':=t) (ch:=[]) un hok bare (fun b z=>absurd z (by simp)),r,q⟩
end
noncomputable def jJw (sp:Sp) (dvs:List V) (E:XK) (t:TA):TE:=fun σ H Q=>t σ H fun vs H1=>sp (vs++dvs) H1 Q E
noncomputable def jUb (C:Addr) (m:Str) (sp:Sp) (dvs:List V) (E:XK) (ta:TE) (t:TA):TE:=fun σ H Q=>ta σ H fun x H1=>∃a dx fs,x= .ref a/\H1 a=some (.ins C dx fs)/\fs.lookup m=none/\
 t σ H1 fun vs H2=>sp (x::(vs++dvs)) H2 Q E
noncomputable def kVd (C:Addr) (sp:Sp) (dvs:List V) (E:XK) (t:TA):TE:=fun σ H Q=>t σ H fun vs H1=>∀x dx,H1 x=none->H1 dx=none->dx≠x->
 sp (.ref x::(vs++dvs)) (upd (upd H1 dx (.own x)) x (.ins C dx [])) (fun v H2=>v= .non/\Q (.ref x) H2) E
def Binds (K:PySem.W.Frag) (fd:FuncData) (ps:List Str) (ds:List Value):Prop:=
 ∀(s:Shared) (us:List Value),K.In s.heap->(us++ds).length=ps.length->BindsTo s fd ⟨us,[]⟩ (ps.zip (us++ds))
theorem Binds.all {K:PySem.W.Frag} {fd:FuncData} {ps:List Str} (h:∀us:List Value,us.length=ps.length->bindArgs fd ⟨us,[]⟩=pure (ps.zip us)):Binds K fd ps []:=fun s us _ hl=>by
 rw[lKh] at hl ⊢
 exact .of_eq (h us hl)
def Passes (CX:CXT) (X:Cx) (E:XK):Prop:=∀(pins:List (Addr×Obj)) (σ:St) (H:Hp) (s:Shared) (e:Value) (s':Shared),Inv X pins σ H s->CX X.stack H s E e s'->X.xe e s'
section
variable {X:Cx} {CX:CXT} {k:Nat} {f C:Addr} {fd:FuncData} {ps:List Str} {sp:Sp} {dvs:List V} {ds:List Value} {E:XK} {x m:Str} {p pos apos:Pos} {e o:Expr} {es:List Expr} {ta:TE} {t:TA}
theorem run_fn {pins:List (Addr×Obj)} {σ:St} {H:Hp} {s:Shared} {Q:VK} {us:List Value} {vs:List V} (F:FnOk X.prog X.w X.K X.mg X.base CX k f fd ps sp) (hr:Room k X.A) (hb:Binds X.K fd ps ds) (hd:Vals dvs ds) (hx:Passes CX X E)
  (I:Inv X pins σ H s) (r:Vals vs us) (h:sp (vs++dvs) H Q E):wpAny (model X.prog X.w) X.A (call (.ref f) us) (EP X pins σ Q) X.xe s:=by
 have r2:Vals (vs++dvs) (us++ds):=r.append hd
 have hl:(us++ds).length=ps.length:=by rw[<-r2.length];exact F.len _ _ _ _ h
 refine wpAny_call (codeAny_mono (F.run X.A X.stack s H ⟨us,[]⟩ (us++ds) (vs++dvs) Q E hr I.env0 (hb s us I.kIn hl) r2 h) fun r s' hq=> ?_)
 cases r with
 | error e=>exact hx pins σ H s e s' I hq
 | ok fl=>
  cases fl with
  | ret u=>exact I.after hq
  | next=>exact False.elim hq
  | brk=>exact False.elim hq
  | cont=>exact False.elim hq
structure Mk (K:PySem.W.Frag) (C f:Addr):Prop where
 makes:PySem.W.makesIn K C=true
 init:PySem.W.findIn K (.ref C) "__init__"=some (some (.ref f))
 fn:PySem.W.isFn K (.ref f)=true
 kp:PySem.W.keepIn K (.ref C)=true
theorem run_make {pins:List (Addr×Obj)} {σ:St} {H:Hp} {s:Shared} {Q:VK} {us:List Value} {vs:List V} (M:Mk X.K C f) (F:FnOk X.prog X.w X.K X.mg X.base CX k f fd ps sp) (hr:Room (k+1) X.A) (hb:Binds X.K fd ps ds) (hd:Vals dvs ds)
  (hx:Passes CX X E) (I:Inv X pins σ H s) (r:Vals vs us)
  (h:∀x dx,H x=none->H dx=none->dx≠x->sp (.ref x::(vs++dvs)) (upd (upd H dx (.own x)) x (.ins C dx [])) (fun v H2=>v= .non/\Q (.ref x) H2) E):
  wpAny (model X.prog X.w) X.A (call (.ref C) us) (EP X pins σ Q) X.xe s:=by
 have hq:=h (s.heap.objs.size+1) s.heap.objs.size (I.hok.fresh (Nat.le_succ _)) (I.hok.fresh (lJd _)) (lJl (Nat.lt_succ_self _))
 have I2:=Inv.made (C:=C) I
 have r2:Vals (V.ref (s.heap.objs.size+1)::(vs++dvs)) (Value.ref (s.heap.objs.size+1)::(us++ds)):= .cons rfl (r.append hd)
 have hl:(Value.ref (s.heap.objs.size+1)::us++ds).length=ps.length:=by
  have e:=r2.length
  rw[F.len _ _ _ _ hq] at e
  exact e.symm
 refine wpAny_call (make_map (f:=f) I.kIn M.makes M.init (beq_iff_eq.mp M.fn) (codeAny_mono (F.run _ X.stack _ _ ⟨Value.ref (s.heap.objs.size+1)::us,[]⟩ (Value.ref (s.heap.objs.size+1)::(us++ds)) _ _ E (hr.make C us [])
  (I2.env0.make C us []) (hb _ (Value.ref (s.heap.objs.size+1)::us) I2.kIn hl) r2 hq) fun r s' hq'=> ?_))
 cases r with
 | error e=>exact hx pins σ _ _ e s' I2 hq'
 | ok fl=>
  cases fl with
  | ret u=>
   obtain⟨v,H',I3,rv,ev,q3⟩:=I2.after hq'
   subst ev
   exact⟨rv,⟨V.ref (s.heap.objs.size+1),H',I3,rfl,q3⟩⟩
  | next=>exact False.elim hq'
  | brk=>exact False.elim hq'
  | cont=>exact False.elim hq'
end
section
variable {X:Cx} {CX:CXT} {k:Nat} {f C:Addr} {fd:FuncData} {ps ks:List Str} {sp:Sp} {E:XK} {x m:Str} {p pos apos kpos:Pos} {e o:Expr} {es:List Expr} {kws:List Keyword} {te ta:TE} {t tk:TA} {nm:Option Str}
variable {g:List Value->List Value->List Value} {gV:List V->List V->List V}
end
structure FnScope (N P:List Str) (sc:Scope):Prop where
 kind:sc.kind= .function
 co:sc.isCoroutine=false
 gen:sc.isGenerator=false
 nd:N.Nodup
 pre:N.take P.length=P
 par:∀x∈P,sc.names.lookup x=some .local\/sc.names.lookup x=some .cell
 nofree:∀y∈sc.names,y.2≠ .free
theorem bindL_out {kindOf:Str->Option NameKind} {x:Str}:∀ {binds:List (Str×Value)} {m:Str->Option Value},(∀v,(x,v)∉binds)->bindL kindOf binds m x=m x
 | [],_,_=>rfl
 | (n,v)::r,m,h=>by
  unfold bindL
  rw[bindL_out fun w hw=>h w (lJ1 _ hw)]
  split
  ·have:x≠n:=by rintro rfl;exact h v lKe
   simp[this]
  ·rfl
theorem bindC_out {kindOf:Str->Option NameKind} {x:Str}:∀ {binds:List (Str×Value)} {m:Str->Option Value},(∀v,(x,v)∉binds)->bindC kindOf binds m x=m x
 | [],_,_=>rfl
 | (n,v)::r,m,h=>by
  unfold bindC
  rw[bindC_out fun w hw=>h w (lJ1 _ hw)]
  split
  ·rfl
  ·have:x≠n:=by rintro rfl;exact h v lKe
   simp[this]
theorem bindL_get {kindOf:Str->Option NameKind} {x:Str} {v:Value}:∀ {P:List Str} {vs:List Value} {i:Nat} {m:Str->Option Value},P.Nodup->P[i]? =some x->vs[i]? =some v->kindOf x=some .local->
  bindL kindOf (P.zip vs) m x=some v
 | [],_,_,_,_,h,_,_=>by simp at h
 | _::_,[],_,_,_,_,h,_=>by simp at h
 | p::P,w::vs,0,m,nd,h1,h2,hk=>by
  simp at h1 h2;subst h1;subst h2
  show bindL kindOf ((p,w)::P.zip vs) m p=_
  unfold bindL
  rw[bindL_out fun v hv=>(lKj.mp nd).1 (List.of_mem_zip hv).1,if_pos hk]
  simp
 | p::P,w::vs,i+1,m,nd,h1,h2,hk=>by
  show bindL kindOf ((p,w)::P.zip vs) m x=_
  unfold bindL
  exact bindL_get (i:=i) (lKj.mp nd).2 (by simpa using h1) (by simpa using h2) hk
theorem bindC_get {kindOf:Str->Option NameKind} {x:Str} {v:Value}:∀ {P:List Str} {vs:List Value} {i:Nat} {m:Str->Option Value},P.Nodup->P[i]? =some x->vs[i]? =some v->kindOf x≠some .local->
  bindC kindOf (P.zip vs) m x=some v
 | [],_,_,_,_,h,_,_=>by simp at h
 | _::_,[],_,_,_,_,h,_=>by simp at h
 | p::P,w::vs,0,m,nd,h1,h2,hk=>by
  simp at h1 h2;subst h1;subst h2
  show bindC kindOf ((p,w)::P.zip vs) m p=_
  unfold bindC
  rw[bindC_out fun v hv=>(lKj.mp nd).1 (List.of_mem_zip hv).1,if_neg hk]
  simp
 | p::P,w::vs,i+1,m,nd,h1,h2,hk=>by
  show bindC kindOf ((p,w)::P.zip vs) m x=_
  unfold bindC
  exact bindC_get (i:=i) (lKj.mp nd).2 (by simpa using h1) (by simpa using h2) hk
noncomputable def start (N:List Str) (vs:List V):St:=vs.map some++List.replicate (N.length-vs.length) none
noncomputable def cxOf (CX:CXT) (P:Program) (w:World) (K:PySem.W.Frag) (mg:Str->Option Value) (base:Heap) (N:List Str) (qual:Str) (scope:Scope) (f:Addr) (cd:Value) (A:Around) (outer:List Env) (s:Shared) (H:Hp) (E:XK):Cx where
 prog:=P
 w:=w
 K:=K
 mg:=mg
 base:=base
 A:=A.deeper (envOfC qual scope s.heap.objs.size f cd)
 N:=N
 s₀:=s
 H₀:=H
 env:=envOfC qual scope s.heap.objs.size f cd
 outer:=outer
 stack:=envOfC qual scope s.heap.objs.size f cd::outer
 ex:=[]
 calm:=true
 fn:=fun _=>true
 pn:=[]
 xe:=fun e s'=>wpAny (model P w) (A.deeper (envOfC qual scope s.heap.objs.size f cd)) (leaving (envOfC qual scope s.heap.objs.size f cd) e) (fun _ s''=>CX outer H s E e s'') (fun e' s''=>CX outer H s E e' s'') s'
theorem cell_has {sc:Scope} {n:Nat} {x:Str} (h:sc.names.lookup x=some .cell):∃c,(cellsFrom n sc.names []).lookup x=some c:=by
 have q:=PySem.W.cellsFrom_some sc.names n [] (.inl h)
 exact Option.isSome_iff_exists.mp q
theorem inv_start {CX:CXT} {P:Program} {w:World} {K:PySem.W.Frag} {mg:Str->Option Value} {base:Heap} {N ps:List Str} {qual:Str} {scope:Scope} {f:Addr} {cd:Value} {A:Around} {outer:List Env} {s s1:Shared} {H:Hp} {E:XK} {us:List Value} {vs:List V}
  (S:FnScope N ps scope) (hd:A.handled=none/\A.guards=some []) (e0:Env0 P w K mg base A outer s H) (hl:vs.length=ps.length) (r:Vals vs us)
  (x:InCallC s s.heap.objs.size (bindL (envOfC qual scope s.heap.objs.size f cd).kindOf (ps.zip us) fun _=>none) (cellsFrom (s.heap.objs.size+1) scope.names []) (bindC (envOfC qual scope s.heap.objs.size f cd).kindOf (ps.zip us) fun _=>none) s1):
  Inv (cxOf CX P w K mg base N qual scope f cd A outer s H E) [] (start N vs) H s1:=by
 have hpl:ps.length<=N.length:=by have:=congrArg List.length S.pre;rw[lKk] at this;omega
 obtain⟨h1,tk,rfl,hk⟩:=x.done
 have noA:∀b:Addr,b∉(cxOf CX P w K mg base N qual scope f cd A outer s H E).ex:=fun b z=>absurd (show b∈([]:List Addr) from z) (by simp)
 refine⟨⟨e0.mod,S.kind,rfl,rfl,lJd _,fun y z c h1 h2=> ?_,fun y hy=> ?_,fun y c _ h=> ?_,fun _=>hd.1,fun _=>hd.2,Around.frames_deeper e0.frames,.inr ⟨rfl,rfl⟩,fun b z=>absurd z (noA b),e0.bs,e0.bsz,fun b _ _=>noA b,fun b z=>absurd z (noA b),e0.funs,e0.frf⟩,
  rfl,e0.bare,Un.kept hk,⟨_,x.toInCall.ns,fun i y v h1 h2 h3=> ?_⟩,fun y c h=>⟨_,x.cell y c h⟩,e0.hok.fresh (lJd _),fun y c h=> ?_,fun p hp=>absurd (show p∈([]:List (Addr×Obj)) from hp) (by simp),e0.hok.kept hk,?_⟩
 ·exact name_of_addr x.apart (PySem.mem_of_lookup h1) (PySem.mem_of_lookup h2)
 ·have hy:scope.names.lookup y=some .cell\/scope.names.lookup y=some .free:=hy
  rcases hy with hy | hy
  ·exact cell_has hy
  ·exact absurd rfl (S.nofree _ (PySem.mem_of_lookup hy))
 ·exact Nat.le_of_lt (x.above y c (PySem.mem_of_lookup h))
 ·have hi:i<vs.length:=by
   unfold start at h2
   by_cases hi:i<vs.length
   ·exact hi
   ·rw[lK7 (by simpa using hi)] at h2
    rw[lQj] at h2
    split at h2<;>cases h2
  have ha:vs[i]? =some v:=by
   unfold start at h2
   rw[lJ0 (by simpa using hi),lJj] at h2
   cases e:vs[i]? with
   | none=>rw[e] at h2;cases h2
   | some a=>rw[e] at h2;cases h2;rfl
  obtain⟨u,hu,rv⟩:=r.get ha
  have hp:ps[i]? =some y:=by
   rw[<-S.pre,List.getElem?_take_of_lt (by omega)];exact h1
  have ndP:ps.Nodup:=by rw[<-S.pre];exact S.nd.sublist (List.take_sublist _ _)
  refine⟨u,rv,?_⟩
  rcases S.par y (lJe hp) with k | k
  ·exact .inl ⟨k,bindL_get ndP hp hu k⟩
  ·obtain⟨c,e⟩:=cell_has (n:=s.heap.objs.size+1) k
   refine .inr ⟨.inl k,c,e,?_⟩
   have q:=x.cell y c e
   rw[bindC_get ndP hp hu (by show scope.names.lookup y≠_;rw[k];decide)] at q
   exact q
 ·exact e0.hok.fresh (Nat.le_of_lt (x.above y c (PySem.mem_of_lookup h)))
 ·unfold start
  show _=N.length
  rw[lJo,lJb,List.length_replicate]
  omega
theorem fn_of {CX:CXT} {P:Program} {w:World} {K:PySem.W.Frag} {mg:Str->Option Value} {base:Heap} {k:Nat} {f:Addr} {name qual:Str} {params:Arguments} {body:List Stmt} {scope:Scope} {dV kV doc pm cdv ct oc:Value} {an od:Option Addr}
  {osl:Array (Option Value)} {N ps:List Str} {sp:Sp} (lk:K.lookup f=some ⟨oc,od,.func (PySem.W.fnOf name qual params body scope dV kV doc pm an cdv ct),osl⟩) (hcd:PySem.W.codeIn K cdv qual=true) (S:FnScope N ps scope)
  (len:∀vs H Q E,sp vs H Q E->vs.length=ps.length)
  (hbody:∀(A:Around) (outer:List Env) (s:Shared) (H:Hp) (vs:List V) (Q:VK) (E:XK),Room k (A.deeper (envOfC qual scope s.heap.objs.size f cdv))->sp vs H Q E->
   ∃t,PSs (cxOf CX P w K mg base N qual scope f cdv A outer s H E) body t/\t {nx:=fun _ H'=>Q .non H',rt:=Q} (start N vs) H):
  FnOk P w K mg base CX (k+1) f (PySem.W.fnOf name qual params body scope dV kV doc pm an cdv ct) ps sp:=by
 refine⟨len,fun A outer s H args us vs Q E hr e0 hb r hsp=> ?_⟩
 have hl:=len _ _ _ _ hsp
 have KX:K.In s.heap:=e0.mod.kin.keeps fun b o e=>(e0.bs b o e).1
 have lim:s.heap.NoLimit:=e0.mod.nolimit.keeps fun b o e=>(e0.bs b o e).1
 have hkind:∀y∈ps.zip us,scope.names.lookup y.1=some .local\/(scope.names.lookup y.1=some .cell/\((cellsFrom (s.heap.objs.size+1) scope.names []).lookup y.1).isSome=true):=fun ⟨n,v⟩ hy=>by
  rcases S.par n (List.of_mem_zip hy).1 with q | q
  ·exact .inl q
  ·exact .inr ⟨q,PySem.W.cellsFrom_some _ _ _ (.inl q)⟩
 refine codeAny_call_function hr.depth (KX _ _ lk) rfl S.co S.gen rfl (PySem.W.codeRec_of KX hcd) (hb _ _ _ _ ?_)
 refine wpAny_newFunctionEnv_cells S.kind hkind fun env he s1 x=> ?_
 subst he
 refine⟨lim.keeps x.toInCall.keep,codeAny_func ?_⟩
 obtain⟨t,ht,hq⟩:=hbody A outer s H vs Q E (hr.deeper _) hsp
 have I:Inv (cxOf CX P w K mg base N qual scope f cdv A outer s H E) [] (start N vs) H s1:=inv_start S ⟨hr.hd,hr.gd⟩ e0 hl r x
 refine wpAny_mono (ht [] s1 (start N vs) H _ I hq) (fun fl s' hs=> ?_) fun e s' hs=>hs
 have fin:∀ {σ':St} {H':Hp} {v:V} {u:Value},Inv (cxOf CX P w K mg base N qual scope f cdv A outer s H E) [] σ' H' s'->RelV v u->Q v H'->CE outer P w H s Q u s':=
  fun {σ' H' v u} J rv q=>⟨v,H',J.os,J.bare,J.base,J.hok,rv,q⟩
 cases fl with
 | ret u=>
  obtain⟨v,σ',H',J,rv,q⟩:=hs
  exact fin J rv q
 | next=>
  obtain⟨σ',H',J,q⟩:=hs
  exact fin (v:=V.non) (u:=Value.none) J rfl q
 | brk=>
  obtain⟨_,_,_,q⟩:=hs
  exact False.elim q
 | cont=>
  obtain⟨_,_,_,q⟩:=hs
  exact False.elim q
section
variable {X:Cx} {x:Str} {p pos:Pos} {e:Expr} {es:List Expr} {t:TA} {id T:String} {r:List V->Hp->VK->Prop}
noncomputable def tCB (r:List V->Hp->VK->Prop) (t:TA):TE:=fun σ H Q=>t σ H fun vs H1=>r vs H1 Q
end
end L2
namespace HT
open PySem PyProof.Rows
theorem eqAt_int (A:Around) (s:Shared) (a:Int) (t:Tok) (c:Int) (u:Tok):∃e,SeqAt.EqAt A s (.int a t) (.int c u) e/\(e=true↔a=c):=
 ⟨(a == c),SeqAt.EqAt.int_int a t c u,by simp⟩
section
open PySem.SeqAt
open PySem.AutoSeq1 (wpAny_loadPart')
open PySem.MeetsSeq PySem.MeetsSeq2 PySem.MeetsSeq3
end
section
variable {prog:Program} {w:World} {A:Around} {E:Value->Shared->Prop} {s:Shared}
theorem cat_tup {t b:Addr} {vs ws:List Value} {Q:Value->Shared->Prop} (ht:IsTup s.heap t vs.toArray) (hb:IsTup s.heap b ws.toArray) (hv:vs≠[])
  (h1:ws=[]->Q (.ref t) s) (h2:ws≠[]->Q (.ref s.heap.objs.size) {s with heap:=s.heap.push {cls:= .type "tuple",data:= .seq (vs++ws).toArray} })
  (hsz:vs.length+ws.length<=sizeLine):wpAny (model prog w) A (binaryOp .Add (.ref t) (.ref b)) Q E s:=by
 obtain⟨⟨cls,dd,data,sl⟩,ho,hc,n,hd⟩:=id ht
 obtain⟨⟨cls2,dd2,data2,sl2⟩,ho2,hc2,n2,hd2⟩:=id hb
 simp only at hc hd hc2 hd2
 subst hc hd hc2 hd2
 have e:vs.toArray++ws.toArray=(vs++ws).toArray:=by simp
 by_cases hw:ws=[]
 ·exact concat_meets ⟨_,ho,rfl⟩ ⟨_,ho2,rfl⟩ noFill_tuple_add seq_tuple_add PySem.F.slot_tuple_add PySem.F.entry_tuple_add (PySem.F.args_tuple_add_2 _ _)
   (tuple_addW1 t b vs.toArray ws.toArray n n2 dd dd2 sl sl2 (by simpa using hv) (by simp[hw])) ⟨ho,ho2,h1 hw⟩
 ·refine concat_meets ⟨_,ho,rfl⟩ ⟨_,ho2,rfl⟩ noFill_tuple_add seq_tuple_add PySem.F.slot_tuple_add PySem.F.entry_tuple_add (PySem.F.args_tuple_add_2 _ _)
   (tuple_addW2 t b vs.toArray ws.toArray n n2 dd dd2 sl sl2 (by simpa using hv) (by simpa using hw) (by rw[lJi,lJi];exact hsz)) ⟨ho,ho2,?_⟩
  rw[e]
  exact h2 hw
noncomputable def sIx (n d:Nat):Option Int->Nat
 | none=>d
 | some v=>if v<0 then (v+(n:Int)).toNat else min v.toNat n
theorem sIx_le (n d:Nat) (hd:d<=n) (o:Option Int):sIx n d o<=n:=by
 cases o with
 | none=>exact hd
 | some v=>
  show (if v<0 then (v+(n:Int)).toNat else min v.toNat n)<=n
  by_cases hv:v<0
  ·rw[if_pos hv];omega
  ·rw[if_neg hv];exact Nat.min_le_right _ _
theorem clip_eq (v:Int) (n d:Nat):(if v<0 then max (v+(n:Int)) 0 else min v (n:Int))=((sIx n d (some v):Nat):Int):=by
 show (if v<0 then max (v+(n:Int)) 0 else min v (n:Int))=(((if v<0 then (v+(n:Int)).toNat else min v.toNat n):Nat):Int)
 by_cases hv:v<0
 ·simp only[if_pos hv];omega
 ·simp only[if_neg hv];omega
theorem adjust_gen (lo hi:Option Int) (n:Nat):Builtin.Slice.sliceAdjust lo hi 1 (n:Int)=(((sIx n 0 lo:Nat):Int),((sIx n n hi:Nat):Int)):=by
 have h1:¬ ((1:Int)<0):=by omega
 unfold Builtin.Slice.sliceAdjust
 simp only[h1,if_false]
 refine Prod.ext ?_ ?_
 ·cases lo with
  | none=>rfl
  | some v=>exact clip_eq v n 0
 ·cases hi with
  | none=>rfl
  | some v=>exact clip_eq v n n
theorem places_gen (i j:Nat):Builtin.Slice.slicePlaces (i:Int) (j:Int) 1=j-i:=by
 unfold Builtin.Slice.slicePlaces
 have h1:(1:Int)>0:=by omega
 simp only[h1,if_true,Int.ediv_one]
 split<;>omega
theorem kUi {v:Value} {o:Option Int} {Q:Option Int->Shared->Prop} (p:IsPart v o) (h:Q o s):wpAny (model prog w) A (Builtin.Slice.slicePartIndex v) Q E s:=by
 cases p with
 | none=>exact slicePart_none h
 | int i t=>exact slicePart_int h
theorem jXy {sl:Addr} {vl vu:Value} {lo hi:Option Int} {n:Nat} {Q:Int×Int×Nat->Shared->Prop} (hs:s.heap.IsSliceOf sl vl vu .none) (pl:IsPart vl lo) (pu:IsPart vu hi)
  (h:Q (((sIx n 0 lo:Nat):Int),1,sIx n n hi-sIx n 0 lo) s):wpAny (model prog w) A (Builtin.Slice.sliceApplied (.ref sl) (pure (n:Int))) Q E s:=by
 obtain⟨os,hos,hcs,hds⟩:=id hs
 unfold Builtin.Slice.sliceApplied Builtin.Slice.sliceFields
 refine wpAny_bind (wpAny_bind (wpAny_field hos hds (x:=vl) rfl (wpAny_bind (wpAny_field hos hds (x:=vu) rfl (wpAny_bind (wpAny_field hos hds (x:= .none) rfl (wpAny_pure ?_)))))))
 refine wpAny_bind (slicePart_none ?_)
 show wpAny _ _ (if ((1:Int) == 0)=true then _ else _) _ _ s
 rw[if_neg (by decide)]
 refine wpAny_bind (kUi pl (wpAny_bind (kUi pu (wpAny_bind (wpAny_pure ?_)))))
 show wpAny _ _ (match Builtin.Slice.sliceAdjust lo hi 1 (n:Int) with | (lo,hi)=>pure (lo,(1:Int),Builtin.Slice.slicePlaces lo hi 1)) _ _ s
 rw[adjust_gen lo hi n]
 show wpAny _ _ (pure (((sIx n 0 lo:Nat):Int),(1:Int),Builtin.Slice.slicePlaces ((sIx n 0 lo:Nat):Int) ((sIx n n hi:Nat):Int) 1)) _ _ s
 rw[places_gen]
 exact wpAny_pure h
theorem pick_gen (xs:Array Value) (i k:Nat):((List.range k).filterMap fun (m:Nat)=>xs[((i:Int)+(m:Int)*1).toNat]?).toArray=((xs.toList.drop i).take k).toArray:=by
 have e:(fun (m:Nat)=>xs[((i:Int)+(m:Int)*1).toNat]?)=fun m=>xs[i+m]? :=by
  funext m
  have:((i:Int)+(m:Int)*1).toNat=i+m:=by omega
  rw[this]
 rw[e]
 have:=pick_run xs i k
 rw[List.filterMap_map] at this
 have e2:((fun x=>xs[x]?)∘fun x=>i+x)=fun m=>xs[i+m]? :=rfl
 rw[e2] at this
 rw[this]
theorem getItem_tuple_cut {t sl:Addr} {items:Array Value} {vl vu:Value} {lo hi:Option Int} {Q:Value->Shared->Prop} (ht:IsTup s.heap t items) (hs:s.heap.IsSliceOf sl vl vu .none) (pl:IsPart vl lo) (pu:IsPart vu hi)
  (hw:¬ (sIx items.size 0 lo=0/\sIx items.size items.size hi=items.size))
  (h:Q (.ref s.heap.objs.size) {s with heap:=s.heap.push {cls:= .type "tuple",data:= .seq ((items.toList.drop (sIx items.size 0 lo)).take (sIx items.size items.size hi-sIx items.size 0 lo)).toArray} })
  (hsz:items.size<=sizeLine):wpAny (model prog w) A (getItem (.ref t) (.ref sl)) Q E s:=by
 have htake:sizeOk (.seq ((items.toList.drop (sIx items.size 0 lo)).take (sIx items.size items.size hi-sIx items.size 0 lo)).toArray):=by
  show ((items.toList.drop (sIx items.size 0 lo)).take (sIx items.size items.size hi-sIx items.size 0 lo)).toArray.size<=sizeLine
  rw[lJi,lKk,List.length_drop,Array.length_toList]
  omega
 have hj:sIx items.size items.size hi<=items.size:=sIx_le _ _ (lJd _) hi
 obtain⟨os,hos,hcs,hds⟩:=id hs
 have hTs:s.TypeIs (.ref sl) "slice":=⟨os,hos,hcs⟩
 unfold getItem
 try with_reducible refine wpAny_holding ?_
 first | refine wpAny_bind (wpAny_pure ?_) | skip
 refine wpAny_bind (wpAny_sequenceKey ht.typeIs (by decide) ?_)
 refine wpAny_bind (wpAny_callSpecial?_slot (name:=Str.ofString "__getitem__") ht.typeIs PyProof.Rows.slot_tuple_getitem
  (wpAny_call_entry PyProof.Rows.slot_tuple_getitem ht.typeIs entry_tuple_getitem ?_ (args_tuple_getitem _ _)))
 show wpAny _ _ (Builtin.Tuple.tupleItemsOf (.ref t) >>= _) _ _ s
 refine wpAny_bind (tupleItemsOf_ ht ?_)
 refine wpAny_bind (wpAny_typeOf hTs ?_)
 rw[if_pos (by decide)]
 refine wpAny_bind (jXy hs pl pu ?_)
 have hno:¬ ((((sIx items.size 0 lo:Nat):Int) == 0&&(1:Int) == 1&&(sIx items.size items.size hi-sIx items.size 0 lo) == items.size)=true):=by
  intro q
  rw[lJ8,lJ8] at q
  have q1:((sIx items.size 0 lo:Nat):Int)=0:=eq_of_beq q.1.1
  have q2:sIx items.size items.size hi-sIx items.size 0 lo=items.size:=eq_of_beq q.2
  exact hw ⟨by omega,by omega⟩
 show wpAny _ _ (if (((sIx items.size 0 lo:Nat):Int) == 0&&(1:Int) == 1&&(sIx items.size items.size hi-sIx items.size 0 lo) == items.size)=true then _ else _) _ _ s
 rw[if_neg hno,pick_gen]
 first
  | exact wpAny_bind (m:=Builtin.Tuple.tupleExact _) (wpAny_newObj_type (wpAny_pure ⟨_,rfl,wpAny_pure h⟩) htake)
  | exact wpAny_bind (m:=Builtin.Tuple.tupleExact _) (wpAny_newObj_type (wpAny_bind (wpAny_pure (wpAny_pure ⟨_,rfl,wpAny_pure h⟩))) htake)
  | exact wpAny_bind (wpAny_bind (m:=Builtin.Tuple.tupleExact _) (wpAny_newObj_type (wpAny_pure (wpAny_pure ⟨_,rfl,wpAny_pure h⟩)) htake))
  | exact wpAny_bind (wpAny_bind (m:=Builtin.Tuple.tupleExact _) (wpAny_newObj_type (wpAny_pure ⟨_,rfl,wpAny_pure h⟩) htake))
end
end HT
namespace L2
open PySem PySem.Spec PyProof.Rows
noncomputable abbrev TO:=St->Hp->(Option Int->Hp->Prop)->Prop
noncomputable def kVc:TO:=fun _ H Q=>Q none H
noncomputable def tPart (t:TE):TO:=fun σ H Q=>t σ H fun x H1=>∃i,x= .int i/\Q (some i) H1
theorem kUp {ns:List Int}:∀ {us:List Value},Vals (ns.map V.int) us->IntsAre us ns:=by
 induction ns with
 | nil=>intro us r;rw[List.map_nil] at r;cases r;exact .nil
 | cons n ns ih=>
  intro us r
  rw[lJm] at r
  cases r with
  | cons r1 r2=>
   obtain⟨t,e⟩:=r1
   subst e
   exact .cons n t (ih r2)
section
variable {X:Cx} {e:Expr} {te:TE} {lo hi:Option Expr} {tl th:TO} {pos p2:Pos}
def SlR (X:Cx) (r:V->Option Int->Option Int->Hp->VK->Prop):Prop:=
 ∀(pins:List (Addr×Obj)) (s:Shared) (σ:St) (H:Hp) (x:V) (v vl vu:Value) (lo hi:Option Int) (sl:Addr) (Q:VK),Inv X pins σ H s->RelV x v->s.heap.IsSliceOf sl vl vu .none->IsPart vl lo->IsPart vu hi->r x lo hi H Q->
  ∃T id,typeLookup (.type T) "__getitem__"=pure (some (.builtin id))/\s.TypeIs v T/\wpAny (model X.prog X.w) X.A (getItem v (.ref sl)) (EP X pins σ Q) X.xe s
noncomputable def tSl (r:V->Option Int->Option Int->Hp->VK->Prop) (te:TE) (tl th:TO):TE:=fun σ H Q=>te σ H fun x H1=>tl σ H1 fun l H2=>th σ H2 fun u H3=>r x l u H3 Q
noncomputable def cutV (xs:List V) (lo hi:Option Int):List V:=(xs.drop (HT.sIx xs.length 0 lo)).take (HT.sIx xs.length xs.length hi-HT.sIx xs.length 0 lo)
theorem kQe (xs:List V) (lo hi:Option Int):(cutV xs lo hi).length<=xs.length:=by
 unfold cutV
 rw[lKk,List.length_drop]
 omega
noncomputable def rSlT (K:PySem.W.Frag):V->Option Int->Option Int->Hp->VK->Prop:=fun x lo hi H Q=>∃a xs,x= .ref a/\SqT K H a xs/\
 ¬ (HT.sIx xs.length 0 lo=0/\HT.sIx xs.length xs.length hi=xs.length)/\∀p,H p=none->Q (.ref p) (upd H p (.tup (cutV xs lo hi)))
theorem sl_tup:SlR X (rSlT X.K):=by
 intro pins s σ H x v vl vu lo hi sl Q I rx hs pl pu h
 obtain⟨a,xs,rfl,hx,hw,q⟩:=h
 cases rx
 obtain⟨its,r,ht,hz⟩:=I.tuple hx
 have hlen:its.toArray.size=xs.length:=by rw[lJi];exact r.length.symm
 refine⟨"tuple",_,PyProof.Rows.slot_tuple_getitem.lookup,ht.typeIs,?_⟩
 refine HT.getItem_tuple_cut ht hs pl pu (by rw[hlen];exact hw) ?_ (by rw[hlen];exact hz)
 rw[hlen]
 refine⟨.ref s.heap.objs.size,_,I.laid (t':=s.toks) (o:= .tup (cutV xs lo hi)) (fun b ob q=>Heap.get?_push_of_some _ q) (lJd _) ?_,rfl,q _ (I.hok.fresh (lJd _))⟩
 exact⟨lJs (kQe xs lo hi) hz,_,(r.drop (HT.sIx xs.length 0 lo)).take (HT.sIx xs.length xs.length hi-HT.sIx xs.length 0 lo),TupD.new _ _⟩
noncomputable def rCatT (K:PySem.W.Frag):R2:=fun x y H Q=>∃a b xs ys,x= .ref a/\y= .ref b/\SqT K H a xs/\SqT K H b ys/\xs≠[]/\xs.length+ys.length<=sizeLine/\
 (ys=[]->Q (.ref a) H)/\(ys≠[]->∀p,H p=none->Q (.ref p) (upd H p (.tup (xs++ys))))
theorem Vals.nil_iff {xs:List V} {us:List Value} (r:Vals xs us):us=[]↔xs=[]:=by
 cases r with
 | nil=>simp
 | cons _ _=>simp
theorem op_catT:OpR X (binaryOp .Add) (rCatT X.K):=by
 intro pins s σ H x y v u Q I rx ry h
 obtain⟨a,b,xs,ys,rfl,rfl,ha,hb,hx,hz,q1,q2⟩:=h
 cases rx
 cases ry
 obtain⟨its,r1,p1,_⟩:=I.tuple ha
 obtain⟨its2,r2,p2,_⟩:=I.tuple hb
 refine HT.cat_tup p1 p2 (fun z=>hx (r1.nil_iff.mp z)) (fun z=>⟨.ref a,H,I,rfl,q1 (r2.nil_iff.mp z)⟩) (fun z=> ?_) (by rw[<-r1.length,<-r2.length];exact hz)
 refine⟨.ref s.heap.objs.size,_,I.laid (t':=s.toks) (o:= .tup (xs++ys)) (fun b ob q=>Heap.get?_push_of_some _ q) (lJd _) ?_,rfl,q2 (fun w=>z (r2.nil_iff.mpr w)) _ (I.hok.fresh (lJd _))⟩
 exact⟨by rw[lJo];exact hz,_,r1.append r2,TupD.new _ _⟩
end
noncomputable def ixN (n:Nat) (i:Int):Option Nat:=if 0<=i then (if i<n then some i.toNat else none) else if -(n:Int)<=i then some (i+n).toNat else none
noncomputable def atI {α:Type} (xs:List α) (i:Int):Option α:=(ixN xs.length i).bind fun j=>xs[j]?
theorem ixN_seq {n:Nat} {i:Int} {j:Nat} (h:ixN n i=some j):seqIndex? i n=some j/\j<n/\ -(n:Int)<=i/\i<n:=by
 unfold ixN at h
 by_cases h0:0<=i
 ·rw[if_pos h0] at h
  by_cases h1:i<n
  ·rw[if_pos h1] at h
   have e:i.toNat=j:=lJx h
   exact⟨by rw[seqIndex_of h0 h1,e],by omega,by omega,h1⟩
  ·rw[if_neg h1] at h;cases h
 ·rw[if_neg h0] at h
  by_cases h1: -(n:Int)<=i
  ·rw[if_pos h1] at h
   have e:(i+n).toNat=j:=lJx h
   exact⟨by rw[seqIndex_neg (by omega) h1,e],by omega,h1,by omega⟩
  ·rw[if_neg h1] at h;cases h
theorem atI_get {α:Type} {xs:List α} {i:Int} {v:α} (h:atI xs i=some v):∃j,seqIndex? i xs.length=some j/\xs[j]? =some v/\j<xs.length/\ -(xs.length:Int)<=i/\i<xs.length:=by
 unfold atI at h
 cases e:ixN xs.length i with
 | none=>rw[e] at h;cases h
 | some j=>
  rw[e] at h
  obtain⟨h1,h2,h3,h4⟩:=ixN_seq e
  exact⟨j,h1,h,h2,h3,h4⟩
theorem atI_nat {α:Type} {xs:List α} {j:Nat} {v:α} (h:xs[j]? =some v):atI xs (j:Int)=some v:=by
 have hj:j<xs.length:=(lJa.mp h).1
 have e:ixN xs.length (j:Int)=some j:=by
  unfold ixN
  rw[if_pos (by omega),if_pos (by omega)];simp
 unfold atI;rw[e];exact h
def PlainIx (b:Expr):Prop:=∀o i,subscripted b false o i=operate [o,i] (getItem o i)
def IxR (X:Cx) (r:R2):Prop:=
 ∀(value slice:Expr) (pins:List (Addr×Obj)) (s:Shared) (σ:St) (H:Hp) (x y:V) (v u:Value) (Q:VK),Inv X pins σ H s->RelV x v->RelV y u->r x y H Q->
  subscripted slice false v u=operate [v,u] (getItem v u)->wpAny (model X.prog X.w) X.A (subscriptTail value slice v u) (EP X pins σ Q) X.xe s
def MtR (X:Cx) (id:String) (r:V->List V->Hp->VK->Prop):Prop:=
 ∀(pins:List (Addr×Obj)) (s:Shared) (σ:St) (H:Hp) (x:V) (xs:List V) (v:Value) (us:List Value) (Q:VK),Inv X pins σ H s->RelV x v->Vals xs us->r x xs H Q->
  wpAny (model X.prog X.w) X.A (call (.builtin id) (v::us)) (EP X pins σ Q) X.xe s
section
variable {X:Cx} {a b:Expr} {ta tb:TE} {pos:Pos}
theorem IxR.or {r r':R2} (h:IxR X r) (h':IxR X r'):IxR X (fun x y H Q=>r x y H Q\/r' x y H Q):=by
 intro value slice pins s σ H x y v u Q I rx ry q hs
 rcases q with q | q
 ·exact h value slice pins s σ H x y v u Q I rx ry q hs
 ·exact h' value slice pins s σ H x y v u Q I rx ry q hs
noncomputable def rIxL (K:PySem.W.Frag):R2:=fun x y H Q=>∃p xs i v,x= .ref p/\y= .int i/\SqL K H p xs/\atI xs i=some v/\Q v H
noncomputable def rIxT (K:PySem.W.Frag):R2:=fun x y H Q=>∃p xs i v,x= .ref p/\y= .int i/\SqT K H p xs/\atI xs i=some v/\Q v H
noncomputable def rIxS:R2:=fun x y H Q=>∃z i c,x= .str z/\y= .int i/\z.length<=sizeLine/\atI z.cps.toList i=some c/\Q (.str ⟨#[c]⟩) H
theorem ix_list:IxR X (rIxL X.K):=by
 intro value slice pins s σ H x y v u Q I rx ry h hs
 obtain⟨p,xs,i,z,rfl,rfl,hq,he,q⟩:=h
 cases rx
 obtain⟨t,rfl⟩:=ry
 obtain⟨its,r,pl,hz⟩:=I.list hq
 obtain⟨j,h1,h2,h3,h4,h5⟩:=atI_get he
 obtain⟨w,ew,rw'⟩:=r.get h2
 have hl:=r.length
 have hn:=kUm
 have fin:EP X pins σ Q w s:=⟨z,H,I,rw',q⟩
 by_cases h0:0<=i
 ·have hj:i.toNat=j:=by
   rw[seqIndex_of h0 h5] at h1
   exact lJx h1
  exact item_listR pl.isList h0 (by omega) (by rw[hj];simpa using ew) fin hs
 ·have hj:(i+(its.toArray.size:Int)).toNat=j:=by
   rw[seqIndex_neg (by omega) h4] at h1
   rw[lJi,<-hl]
   exact lJx h1
  exact subscriptTail_builtinR (x:=w) pl.isList.typeIs slot_list_getitem.lookup
   (wpAny_getItem_list_neg (Q:=fun r s'=>r=w/\EP X pins σ Q r s') pl.isList (by omega) (by rw[lJi]<;>omega) (by omega) (by rw[hj];simpa using ew) ⟨rfl,fin⟩) hs
theorem ix_tup:IxR X (rIxT X.K):=by
 intro value slice pins s σ H x y v u Q I rx ry h hs
 obtain⟨p,xs,i,z,rfl,rfl,hq,he,q⟩:=h
 cases rx
 obtain⟨t,rfl⟩:=ry
 obtain⟨its,r,pl,hz⟩:=I.tuple hq
 obtain⟨j,h1,h2,h3,h4,h5⟩:=atI_get he
 obtain⟨w,ew,rw'⟩:=r.get h2
 have hl:=r.length
 have hn:=kUm
 have fin:EP X pins σ Q w s:=⟨z,H,I,rw',q⟩
 exact subscriptTail_builtinR (x:=w) pl.typeIs slot_tuple_getitem.lookup
  (getItem_tuple (j:=j) (Q:=fun r s'=>r=w/\EP X pins σ Q r s') pl (by omega) (by omega) (by rw[lJi,<-hl];exact h1) (by simpa using ew) ⟨rfl,fin⟩) hs
noncomputable def rIx (K:PySem.W.Frag):R2:=fun x y H Q=>rIxL K x y H Q\/rIxT K x y H Q\/rIxS x y H Q
theorem mapSeq_set (its:List Value) (n j:Nat) (u:Value):Obj.mapSeq (·.setIfInBounds j u) {cls:= .type "list",data:= .seq its.toArray n}={cls:= .type "list",data:= .seq (its.set j u).toArray n}:=by
 simp[Obj.mapSeq]
theorem Inv.lst {pins:List (Addr×Obj)} {σ:St} {H:Hp} {s:Shared} {p:Addr} {xs:List V} (I:Inv X pins σ H s) (h:H p=some (.lst xs)):
  ∃(its:List Value) (n:Nat),Vals xs its/\s.heap.get? p=some {cls:= .type "list",data:= .seq its.toArray n}/\xs.length<=sizeLine:=by
 obtain⟨z,its,n,r,e⟩:=I.hok p _ h
 exact⟨its,n,r,e,z⟩
theorem Inv.lstUpd {pins:List (Addr×Obj)} {σ:St} {H:Hp} {s:Shared} {p:Addr} {xs ys:List V} {its its':List Value} {n n':Nat} {f:Obj->Obj} (I:Inv X pins σ H s) (h:H p=some (.lst xs))
  (ho:s.heap.get? p=some {cls:= .type "list",data:= .seq its.toArray n}) (hf:f {cls:= .type "list",data:= .seq its.toArray n}={cls:= .type "list",data:= .seq its'.toArray n'}) (r:Vals ys its') (hz:ys.length<=sizeLine) (t:Nat):
  Inv X pins σ (upd H p (.lst ys)) {s with heap:=s.heap.update p f,toks:=t}:=by
 have e:(s.heap.update p f).get? p=some {cls:= .type "list",data:= .seq its'.toArray n'}:=by
  rw[Heap.get?_update_self f ho (by rw[hf]<;>rfl),hf]
 refine I.write (x:=p) (e:=p) (by rw[h];trivial) (.inl rfl) (fun b u hb q=>(Heap.get?_update_other _ _ (Ne.symm hb)).trans q) ⟨_,e⟩ ?_
 exact⟨hz,its',n',r,e⟩
noncomputable def rSetL:V->V->V->Hp->(Hp->Prop)->Prop:=fun o i v H Q=>∃p xs k j,o= .ref p/\i= .int k/\H p=some (.lst xs)/\ixN xs.length k=some j/\Q (upd H p (.lst (xs.set j v)))
theorem set_list:PSet X rSetL:=by
 intro pins s σ H o i v ov iv u Q I ro ri rv h
 obtain⟨p,xs,k,j,rfl,rfl,hp,hj,q⟩:=h
 cases ro
 obtain⟨t,rfl⟩:=ri
 obtain⟨its,n,r,ho,hz⟩:=I.lst hp
 obtain⟨h1,h2,h3,h4⟩:=ixN_seq hj
 have hl:=r.length
 have hn:=kUm
 have I':Inv X pins σ (upd H p (.lst (xs.set j v))) {s with heap:=s.heap.update p (Obj.mapSeq (·.setIfInBounds j u))}:=
  I.lstUpd hp ho (mapSeq_set its n j u) (r.set rv j) (by rw[lKo];exact hz) s.toks
 by_cases h0:0<=k
 ·have hk:k.toNat=j:=by
   rw[seqIndex_of h0 h4] at h1
   exact lJx h1
  exact PySem.W.ki_setAt ho h0 (by omega) (by rw[lJi,<-hl];exact h4) (by rw[hk];exact⟨_,I',q⟩)
 ·have hk:(k+(its.toArray.size:Int)).toNat=j:=by
   rw[seqIndex_neg (by omega) h3] at h1
   rw[lJi,<-hl]
   exact lJx h1
  exact PySem.W.ki_setBack ho (by omega) (by rw[lJi,<-hl];exact h3) (by omega) (by rw[hk];exact⟨_,I',q⟩)
theorem slice_bounds (lo hi:Option Int) (n:Nat):(sliceBounds lo hi none n).1=((HT.sIx n 0 lo:Nat):Int)/\(sliceBounds lo hi none n).2.1=((HT.sIx n n hi:Nat):Int)/\(sliceBounds lo hi none n).2.2=1:=by
 refine⟨?_,?_,rfl⟩
 ·cases lo with
  | none=>simp[sliceBounds,HT.sIx]
  | some i=>
   simp only[sliceBounds,HT.sIx,Option.getD_none,show (1:Int)>0 by decide,if_true]
   by_cases h:i<0
   ·simp only[h,if_true]<;>omega
   ·simp only[h,if_false]<;>omega
 ·cases hi with
  | none=>simp[sliceBounds,HT.sIx]
  | some i=>
   simp only[sliceBounds,HT.sIx,Option.getD_none,show (1:Int)>0 by decide,if_true]
   by_cases h:i<0
   ·simp only[h,if_true]<;>omega
   ·simp only[h,if_false]<;>omega
theorem kVg (its:List Value) (lo hi:Option Int):slicePick its.toArray lo hi none=((its.drop (HT.sIx its.length 0 lo)).take (HT.sIx its.length its.length hi-HT.sIx its.length 0 lo)).toArray:=by
 obtain⟨h1,h2,h3⟩:=slice_bounds lo hi its.toArray.size
 unfold slicePick
 rw[h1,h2,h3]
 simp only[sliceRange_one,pick_run,lJi]<;>rfl
noncomputable def rSlL (K:PySem.W.Frag):V->Option Int->Option Int->Hp->VK->Prop:=fun x lo hi H Q=>∃a xs,x= .ref a/\SqL K H a xs/\∀p,H p=none->Q (.ref p) (upd H p (.lst (cutV xs lo hi)))
theorem sl_list:SlR X (rSlL X.K):=by
 intro pins s σ H x v vl vu lo hi sl Q I rx hs pl pu h
 obtain⟨a,xs,rfl,hx,q⟩:=h
 cases rx
 obtain⟨its,r,ht,hz⟩:=I.list hx
 have hlen:=r.length
 refine⟨"list",_,slot_list_getitem.lookup,ht.isList.typeIs,?_⟩
 refine wpAny_getItem_list_slice ht.isList hs pl pu .none (by simp) ?_ (by rw[lJi]<;>omega)
 rw[kVg,<-hlen]
 refine⟨.ref s.heap.objs.size,_,I.laid (t':=s.toks) (o:= .lst (cutV xs lo hi)) (fun b ob q=>Heap.get?_push_of_some _ q) (lJd _) ?_,rfl,q _ (I.hok.fresh (lJd _))⟩
 exact⟨lJs (kQe xs lo hi) hz,_,0,(r.drop (HT.sIx xs.length 0 lo)).take (HT.sIx xs.length xs.length hi-HT.sIx xs.length 0 lo),Heap.get?_push_size _ rfl⟩
noncomputable def kUe:V->Bool
 | .non=>true
 | .bl _=>true
 | .int _=>true
 | .str _=>true
 | _=>false
noncomputable def eqV:V->V->Bool
 | .non,.non=>true
 | .bl a,.bl b=>a == b
 | .bl a,.int b=>(if a then 1 else 0) == b
 | .int a,.bl b=>a == (if b then 1 else 0)
 | .int a,.int b=>a == b
 | .str a,.str b=>a == b
 | _,_=>false
theorem eqAt_V {A:Around} {s:Shared} {y x:V} {u v:Value} (ry:RelV y u) (rx:RelV x v) (fy:kUe y=true) (fx:kUe x=true):SeqAt.EqAt A s u v (eqV y x):=by
 cases y with
 | non=>
  cases ry
  cases x with
  | non=>cases rx;exact SeqAt.EqAt.same _
  | bl b=>cases rx;exact SeqAt.EqAt.none_bool b
  | int b=>obtain⟨t,rfl⟩:=rx;exact SeqAt.EqAt.none_int b t
  | str b=>obtain⟨t,rfl⟩:=rx;exact SeqAt.EqAt.none_str b t
  | _=>exact absurd (show false=true from fx) lJf
 | bl a=>
  cases ry
  cases x with
  | non=>cases rx;exact SeqAt.EqAt.bool_none a
  | bl b=>cases rx;exact SeqAt.EqAt.bool_bool a b
  | int b=>obtain⟨t,rfl⟩:=rx;exact SeqAt.EqAt.bool_int a b t
  | str b=>obtain⟨t,rfl⟩:=rx;exact SeqAt.EqAt.bool_str a b t
  | _=>exact absurd (show false=true from fx) lJf
 | int a=>
  obtain⟨t',rfl⟩:=ry
  cases x with
  | non=>cases rx;exact SeqAt.EqAt.int_none a t'
  | bl b=>cases rx;exact SeqAt.EqAt.int_bool a t' b
  | int b=>obtain⟨t,rfl⟩:=rx;exact SeqAt.EqAt.int_int a t' b t
  | str b=>obtain⟨t,rfl⟩:=rx;exact SeqAt.EqAt.int_str a t' b t
  | _=>exact absurd (show false=true from fx) lJf
 | str a=>
  obtain⟨t',rfl⟩:=ry
  cases x with
  | non=>cases rx;exact SeqAt.EqAt.str_none a t'
  | bl b=>cases rx;exact SeqAt.EqAt.str_bool a t' b
  | int b=>obtain⟨t,rfl⟩:=rx;exact SeqAt.EqAt.str_int a t' b t
  | str b=>obtain⟨t,rfl⟩:=rx;exact SeqAt.EqAt.str_str a t' b t
  | _=>exact absurd (show false=true from fx) lJf
 | _=>exact absurd (show false=true from fy) lJf
noncomputable def eqU (x:V) (u:Value):Bool:=match u with
 | .none=>eqV .non x
 | .bool b=>eqV (.bl b) x
 | .int i _=>eqV (.int i) x
 | .str z _=>eqV (.str z) x
 | _=>false
theorem eqU_of {x y:V} {u:Value} (r:RelV y u) (f:kUe y=true):eqU x u=eqV y x:=by
 cases y with
 | non=>cases r;rfl
 | bl b=>cases r;rfl
 | int i=>obtain⟨t,rfl⟩:=r;rfl
 | str z=>obtain⟨t,rfl⟩:=r;rfl
 | _=>exact absurd (show false=true from f) lJf
theorem any_eqU {x:V}:∀ {xs:List V} {us:List Value},Vals xs us->xs.all kUe=true->us.any (eqU x)=xs.any fun y=>eqV y x
 | _,_,.nil,_=>rfl
 | y::xs,u::us,.cons r t,f=>by
  rw[lKw,lJ8] at f
  rw[lKp,lKp,eqU_of r f.1,any_eqU t f.2]
theorem kJ9 {A:Around} {s:Shared} {x:V} {v:Value} (rx:RelV x v) (fx:kUe x=true):∀ {xs:List V} {us:List Value},Vals xs us->xs.all kUe=true->∀u∈us,SeqAt.EqAt A s u v (eqU x u)
 | _,_,.nil,_=>fun u hu=>by cases hu
 | y::xs,u::us,.cons r t,f=>fun u' hu=>by
  rw[lKw,lJ8] at f
  rcases (lJn.mp hu) with rfl | hu
  ·rw[eqU_of r f.1];exact eqAt_V r rx f.1 fx
  ·exact kJ9 rx fx t f.2 u' hu
noncomputable def inV (x:V) (xs:List V):Bool:=xs.any fun y=>eqV y x
noncomputable def rIn (K:PySem.W.Frag) (neg:Bool):R2:=fun x y H Q=>∃p xs,y= .ref p/\(SqL K H p xs\/SqT K H p xs)/\kUe x=true/\xs.all kUe=true/\Q (.bl (if neg then !inV x xs else inV x xs)) H
theorem op_notIn_seq:OpR X (compareOp .NotIn) (rIn X.K true):=by
 intro pins s σ H x y v u Q I rx ry h
 obtain⟨p,xs,rfl,hq,fx,fs,q⟩:=h
 cases ry
 rcases hq with hq | hq
 ·obtain⟨its,r,pl,hz⟩:=I.list hq
  refine SeqAt.notIn_listAt (eqU x) pl.isList (fun w hw=>kJ9 rx fx r fs w (by simpa using hw)) ⟨.bl _,H,I,rfl,?_⟩
  rw[show its.toArray.any (eqU x)=its.any (eqU x) by simp,any_eqU r fs]
  exact q
 ·obtain⟨its,r,pl,hz⟩:=I.tuple hq
  refine SeqAt.notIn_tupleAt (eqU x) pl (fun w hw=>kJ9 rx fx r fs w (by simpa using hw)) ⟨.bl _,H,I,rfl,?_⟩
  rw[show its.toArray.any (eqU x)=its.any (eqU x) by simp,any_eqU r fs]
  exact q
theorem call_len_seq:kX1 X (.builtin "len") (fun xs H Q=>∃p ys,xs=[.ref p]/\(SqL X.K H p ys\/SqT X.K H p ys)/\Q (.int ys.length) H):=by
 intro pins s σ H xs us Q I r h
 obtain⟨p,ys,rfl,hq,q⟩:=h
 obtain⟨u,rfl,rx⟩:=vals1 r
 cases rx
 have hn:=kUm
 rcases hq with hq | hq
 ·obtain⟨its,r',pl,hz⟩:=I.list hq
  have hlen:=r'.length
  exact Calls.call_len_list pl.isList (by simp only[lJi]<;>omega) ⟨.int ys.length,H,I.tok _,⟨s.toks+1,by rw[lJi,hlen]⟩,q⟩
 ·obtain⟨its,r',pl,hz⟩:=I.tuple hq
  have hlen:=r'.length
  exact len_tuple pl (by simp only[lJi]<;>omega) ⟨.int ys.length,H,I.tok _,⟨s.toks+1,by rw[lJi,hlen]⟩,q⟩
theorem call_list_of:kX1 X (.type "list") (fun xs H Q=>∃p ys,xs=[.ref p]/\(SqL X.K H p ys\/SqT X.K H p ys)/\∀l,H l=none->Q (.ref l) (upd H l (.lst ys))):=by
 intro pins s σ H xs us Q I r h
 obtain⟨p,ys,rfl,hq,q⟩:=h
 obtain⟨u,rfl,rx⟩:=vals1 r
 cases rx
 have fin:∀(its:List Value),Vals ys its->ys.length<=sizeLine->∀(h':Heap) (c':Nat),(∀b o',s.heap.get? b=some o'->h'.get? b=some o')->
   h'.get? s.heap.objs.size=some {cls:= .type "list",dict:=none,data:= .seq its.toArray c',slots:= #[]}->EP X pins σ Q (.ref s.heap.objs.size) {s with heap:=h'}:=fun its r' hz h' c' kp e=>
  ⟨.ref s.heap.objs.size,_,I.laid (t':=s.toks) kp (lJd _) (show ObjOk X.prog X.w _ h' _ (.lst ys) from⟨hz,its,c',r',e⟩),rfl,q _ (I.hok.fresh (lJd _))⟩
 rcases hq with hq | hq
 ·obtain⟨its,r',pl,hz⟩:=I.list hq
  have hlen:=r'.length
  obtain⟨o,ho,hc,n,hd⟩:=pl.isList
  exact call_list_seq p (.inl rfl) ho hc hd (fun h' c' kp e=>fin its r' hz h' c' kp e) (by simp only[lJi]<;>omega)
 ·obtain⟨its,r',pl,hz⟩:=I.tuple hq
  have hlen:=r'.length
  obtain⟨o,ho,hc,n,hd⟩:=pl
  exact call_list_seq p (.inr rfl) ho hc hd (fun h' c' kp e=>fin its r' hz h' c' kp e) (by simp only[lJi]<;>omega)
theorem kXy:kX1 X (.type "tuple") (fun xs H Q=>∃p ys,xs=[.ref p]/\((SqL X.K H p ys/\∀l,H l=none->Q (.ref l) (upd H l (.tup ys)))\/(SqT X.K H p ys/\Q (.ref p) H))):=by
 intro pins s σ H xs us Q I r h
 obtain⟨p,ys,rfl,h⟩:=h
 obtain⟨u,rfl,rx⟩:=vals1 r
 cases rx
 rcases h with ⟨hq,q⟩ | ⟨hq,q⟩
 ·obtain⟨its,r',pl,hz⟩:=I.list hq
  have hlen:=r'.length
  refine call_tuple_list pl.isList (fun h' kp=> ?_) (by simp only[lJi]<;>omega)
  have I1:Inv X pins σ H {s with heap:=h'}:=I.kept (t':=s.toks) kp
  have I2:Inv X pins σ (upd H h'.objs.size (.tup ys)) {s with heap:=h'.push {cls:= .type "tuple",data:= .seq its.toArray} }:=
   I1.laid (t':=s.toks) (fun b o e=>Heap.get?_push_of_some _ e) (lJd _) (show ObjOk X.prog X.w _ _ _ (.tup ys) from⟨hz,its,r',TupD.new _ _⟩)
  exact⟨.ref h'.objs.size,_,I2,rfl,q _ (I1.hok.fresh (lJd _))⟩
 ·obtain⟨its,r',pl,hz⟩:=I.tuple hq
  exact call_tuple_same pl ⟨.ref p,H,I,rfl,q⟩
def tyV (K:PySem.W.Frag) (T:String) (x:V) (H:Hp):Prop:=match x with
 | .str _=>T="str"
 | .int _=>T="int"
 | .ref p=>(T="list"/\∃xs,SqL K H p xs)\/(T="tuple"/\∃o,K.lookup p=some o/\o.cls= .type "tuple"/\o.dict=none)\/
   (T="dict"/\((∃kvs,H p=some (.dK kvs))\/∃kvs,H p=some (.dT kvs)))\/(T="set"/\∃S n,H p=some (.set S n))
 | _=>False
theorem tyV_is {pins:List (Addr×Obj)} {σ:St} {H:Hp} {s:Shared} {T:String} {x:V} {v:Value} (I:Inv X pins σ H s) (r:RelV x v) (ty:tyV X.K T x H):
  s.TypeIs v T/\∀a,v= .ref a->∃ob,s.heap.get? a=some ob/\ob.dict=none:=by
 cases x with
 | str z=>
  obtain⟨t,rfl⟩:=r
  cases (show T="str" from ty)
  exact⟨typeIs_str s z t,fun _ e=>nomatch e⟩
 | int i=>
  obtain⟨t,rfl⟩:=r
  cases (show T="int" from ty)
  exact⟨typeIs_int s i t,fun _ e=>nomatch e⟩
 | ref p=>
  cases r
  rcases ty with ⟨rfl,xs,hq⟩ | ⟨rfl,o,hk,hc,hd⟩ | ⟨rfl,hk⟩ | ⟨rfl,S,n,hk⟩
  ·obtain⟨its,_,pl,_⟩:=I.list hq
   refine⟨pl.isList.typeIs,fun a e=> ?_⟩
   cases e
   obtain⟨o,n,e,c,hd,_⟩:=pl
   exact⟨o,e,hd⟩
  ·refine⟨⟨o,I.kIn p o hk,hc⟩,fun a e=> ?_⟩
   cases e
   exact⟨o,I.kIn _ o hk,hd⟩
  ·have z:∃o,s.heap.get? p=some o/\o.ExactDict:=by
    rcases hk with ⟨kvs,hk⟩ | ⟨kvs,hk⟩
    ·obtain⟨_,_,_,_,o,_,_,e,ex,_⟩:=I.hok p _ hk
     exact⟨o,e,ex⟩
    ·obtain⟨_,_,_,_,o,_,_,e,ex,_⟩:=I.hok p _ hk
     exact⟨o,e,ex⟩
   obtain⟨o,e,ex⟩:=z
   refine⟨⟨o,e,ex.1⟩,fun a e2=> ?_⟩
   cases e2
   exact⟨o,e,ex.2.1⟩
  ·obtain⟨o,_,_,_,e,ex,_⟩:=I.hok p _ hk
   refine⟨⟨o,e,ex.1⟩,fun a e2=> ?_⟩
   cases e2
   exact⟨o,e,ex.2.1⟩
 | _=>exact False.elim ty
noncomputable def tBM (K:PySem.W.Frag) (T:String) (r:V->List V->Hp->VK->Prop) (to:TE) (t:TA):TE:=fun σ H Q=>to σ H fun x H1=>tyV K T x H1/\t σ H1 fun xs H2=>r x xs H2 Q
variable {o e:Expr} {es:List Expr} {to:TE} {t:TA} {name:Str} {apos cpos:Pos} {T id:String} {r:V->List V->Hp->VK->Prop}
end
def MtM (X:Cx) (id:String) (r:V->List V->Hp->VK->Prop):Prop:=
 ∀(pins:List (Addr×Obj)) (s:Shared) (σ:St) (H:Hp) (x:V) (xs:List V) (v:Value) (us:List Value) (Q:VK),Inv X pins σ H s->RelV x v->Vals xs us->r x xs H Q->
  wpAny (model X.prog X.w) X.A (call (.builtin id) (v::us)) (EP X pins σ Q) X.xe s
theorem Vals.one {x:V} {us:List Value} (h:Vals [x] us):∃u,us=[u]/\RelV x u:=by
 cases h with | cons r t=>(cases t;exact⟨_,rfl,r⟩)
theorem Vals.two {x y:V} {us:List Value} (h:Vals [x,y] us):∃u v,us=[u,v]/\RelV x u/\RelV y v:=by
 cases h with | cons r t=>(cases t with | cons q t=>(cases t;exact⟨_,_,rfl,r,q⟩))
theorem Vals.reverse {xs:List V} {us:List Value} (h:Vals xs us):Vals xs.reverse us.reverse:=by
 induction h with
 | nil=>exact .nil
 | cons r t ih=>rw[lK2,lK2];exact Vals.append ih (.cons r .nil)
theorem Vals.rep {xs:List V} {us:List Value} (h:Vals xs us):∀k:Nat,Vals (List.replicate k xs).flatten (List.replicate k us).flatten
 | 0=> .nil
 | k+1=>by
  rw[lKs,lKs,lK3,lK3]
  exact Vals.append h (Vals.rep h k)
theorem foldl_rep (its:List Value):∀(k:Nat) (acc:List Value),
  List.foldl (fun x1 x2=>x1++x2) acc.toArray (List.replicate k its.toArray)=(acc++(List.replicate k its).flatten).toArray
 | 0,acc=>by simp
 | k+1,acc=>by
  have e:acc.toArray++its.toArray=(acc++its).toArray:=by simp
  have e2:(acc++its)++(List.replicate k its).flatten=acc++(List.replicate (k+1) its).flatten:=by
   rw[lKs,lK3,lKl]
  rw[<-e2,<-foldl_rep its k (acc++its),<-e,lKs,List.foldl_cons]
section
variable {X:Cx} {pins:List (Addr×Obj)} {σ:St} {H:Hp} {s:Shared} {l b:Addr} {xs ys zs:List V}
theorem Inv.lset {its its':List Value} {n:Nat} {f:Array Value->Array Value} {t':Nat} (I:Inv X pins σ H s) (hH:H l=some (.lst xs))
  (e:s.heap.get? l=some {cls:= .type "list",data:= .seq its.toArray n}) (hf:f its.toArray=its'.toArray) (hv:Vals ys its') (hz:ys.length<=sizeLine):
  Inv X pins σ (upd H l (.lst ys)) {s with heap:=s.heap.update l (Obj.mapSeq f),toks:=t'}:=by
 have q:=PySem.IsL.update e f
 rw[hf] at q
 refine I.write (x:=l) (e:=l) (by rw[hH];exact trivial) (.inl rfl) (fun b' u hb hu=>(Heap.get?_update_other s.heap (Obj.mapSeq f) (Ne.symm hb)).trans hu) ⟨_,q⟩ ?_
 exact⟨hz,its',_,hv,q⟩
theorem Inv.lnew {its:List Value} {t':Nat} (I:Inv X pins σ H s) (hv:Vals ys its) (hz:ys.length<=sizeLine):
  Inv X pins σ (upd H s.heap.objs.size (.lst ys)) {s with heap:=s.heap.push {cls:= .type "list",data:= .seq its.toArray},toks:=t'}:=
 I.laid (fun _ _ q=>Heap.get?_push_of_some _ q) (lJd _) ⟨hz,its,0,hv,Heap.get?_push_size _ rfl⟩
theorem Inv.fresh (I:Inv X pins σ H s):H s.heap.objs.size=none:=I.hok.fresh (lJd _)
theorem Inv.lstM (I:Inv X pins σ H s) (hH:H l=some (.lst xs)):xs.length<=sizeLine/\∃(its:List Value) (n:Nat),Vals xs its/\xs.length=its.length/\s.heap.get? l=some {cls:= .type "list",data:= .seq its.toArray n}:=by
 obtain⟨z,its,n,r,e⟩:=I.hok l _ hH
 exact⟨z,its,n,r,r.length,e⟩
theorem notLongL {n:Nat} (h:n<=sizeLine):Builtin.List.listTooLong n=false:=by
 unfold Builtin.List.listTooLong
 exact decide_eq_false (by omega)
end
section
variable {X:Cx}
noncomputable def jK3:V->List V->Hp->VK->Prop:=fun x vs H Q=>∃l xs y,x= .ref l/\vs=[y]/\H l=some (.lst xs)/\xs.length<sizeLine/\Q .non (upd H l (.lst (xs++[y])))
theorem mt_append:MtM X "list.append" jK3:=by
 intro pins s σ H x vs v us Q I rx rv h
 obtain⟨l,xs,y,rfl,rfl,hH,hz,q⟩:=h
 cases rx
 obtain⟨u,rfl,ru⟩:=rv.one
 obtain⟨z,its,n,r,hl,e⟩:=I.lstM hH
 refine call_meets F.slot_list_append ⟨_,e,rfl⟩ F.entry_list_append (F.args_list_append_2 _ _) (PySem.list_append l its.toArray n u (by rw[lJi];omega)) ⟨e,?_⟩
 refine⟨.non,_,I.lset (its':=its++[u]) hH e (by simp) (r.append (.cons ru .nil)) ?_,rfl,q⟩
 rw[lJo,List.length_singleton]
 omega
noncomputable def jZ1:V->List V->Hp->VK->Prop:=fun x vs H Q=>∃l b xs zs,x= .ref l/\vs=[.ref b]/\H l=some (.lst xs)/\H b=some (.lst zs)/\xs.length+zs.length<=sizeLine/\Q .non (upd H l (.lst (xs++zs)))
noncomputable def rCat:R2:=fun x y H Q=>∃l b xs zs,x= .ref l/\y= .ref b/\H l=some (.lst xs)/\H b=some (.lst zs)/\xs.length+zs.length<=sizeLine/\∀p,H p=none->Q (.ref p) (upd H p (.lst (xs++zs)))
theorem op_cat:OpR X (binaryOp .Add) rCat:=by
 intro pins s σ H x y v u Q I rx ry h
 obtain⟨l,b,xs,zs,rfl,rfl,hH,hB,hz,q⟩:=h
 cases rx
 cases ry
 obtain⟨z,its,n,r,hl,e⟩:=I.lstM hH
 obtain⟨z2,its2,n2,r2,hl2,e2⟩:=I.lstM hB
 refine PySem.P.add_list e e2 ?_ (by rw[lJi,lJi];omega)
 have ea:its.toArray++its2.toArray=(its++its2).toArray:=by simp
 rw[ea]
 exact⟨.ref _,_,I.lnew (t':=s.toks) (r.append r2) (by rw[lJo];omega),rfl,q _ I.fresh⟩
noncomputable def rRep:R2:=fun x y H Q=>∃l k xs,x= .ref l/\y= .int k/\H l=some (.lst xs)/\ -(2^63)<=k/\k<2^63/\xs.length*k.toNat<=sizeLine/\
 ∀p,H p=none->Q (.ref p) (upd H p (.lst (List.replicate k.toNat xs).flatten))
theorem len_rep {α:Type} (xs:List α) (k:Nat):(List.replicate k xs).flatten.length=k*xs.length:=by
 induction k with
 | zero=>simp
 | succ k ih=>rw[lKs,lK3,lJo,ih,lKx,Nat.add_comm]
theorem op_rep:OpR X (binaryOp .Mult) rRep:=by
 intro pins s σ H x y v u Q I rx ry h
 obtain⟨l,k,xs,rfl,rfl,hH,h1,h2,hz,q⟩:=h
 cases rx
 obtain⟨t,rfl⟩:=ry
 obtain⟨z,its,n,r,hl,e⟩:=I.lstM hH
 have hlen:its.toArray.size*k.toNat<=sizeLine:=by rw[lJi,<-hl];exact hz
 have hcap:¬ its.toArray.size*k.toNat>(2^63-1) / 8:=by
  have:(sizeLine:Nat)<=(2^63-1) / 8:=by decide
  omega
 have hfit:¬ (!Builtin.List.listFitsIndex k)=true:=by
  rw[fitsIndex_both h1 h2]
  exact lJf
 have hlong:¬ Builtin.List.listTooLong (its.toArray.size*k.toNat)=true:=by
  rw[notLongL hlen]
  exact lJf
 have hnew:List.foldl (fun x1 x2=>x1++x2) #[] (List.replicate (if its.toArray.isEmpty=true then 0 else k.toNat) its.toArray)=(List.replicate k.toNat its).flatten.toArray:=by
  have f0:∀m:Nat,List.foldl (fun x1 x2=>x1++x2) #[] (List.replicate m its.toArray)=(List.replicate m its).flatten.toArray:=fun m=>by
   have:=foldl_rep its m []
   rw[List.nil_append] at this
   exact this
  rw[f0]
  cases its with
  | nil=>simp
  | cons a r'=>rw[if_neg (by simp)]
 refine wpAny_binaryOp_repeat_ref (T:="list") (U:="int") (by decide) ⟨_,e,rfl⟩ (fun s'=>typeIs_int s' k t) noFill_list_mul F.fills_int_mul F.slot_int_rmul repeat_list F.slot_int_index.lookup
  (call_meets F.slot_int_rmul (typeIs_int s k t) F.entry_int_rmul (F.args_int_rmul_2 _ _) (int___rmul___int_list k t l its.toArray n)
   ⟨e,rfl,⟨_,e,rfl⟩,call_meets F.slot_list_mul ⟨_,e,rfl⟩ F.entry_list_mul (F.args_list_mul_2 _ _) (AutoListH.list___mul___list_int_3 l its.toArray n k t hfit hcap hlong) ⟨e,?_⟩⟩)
 rw[hnew]
 exact⟨.ref _,_,I.lnew (t':=s.toks) (r.rep k.toNat) (by rw[len_rep,Nat.mul_comm];exact hz),rfl,q _ I.fresh⟩
end
section
variable {prog:Program} {w:World} {A:Around} {E:Value->Shared->Prop} {s:Shared}
end
section
variable {X:Cx}
end
section
variable {κ:Type} [DecidableEq κ]
noncomputable def valV (kvs:List (κ×V)) (k:κ):Option V:=(kvs.find? fun kv=>decide (kv.1=k)).map (·.2)
noncomputable def putK (kvs:List (κ×V)) (k:κ) (v:V):List (κ×V):=
 if (kvs.any fun kv=>decide (kv.1=k))=true then kvs.map (fun kv=>if kv.1=k then (kv.1,v) else kv) else kvs++[(k,v)]
theorem kJ1 {p:κ×V} {r:List (κ×V)} {k:κ} (e:p.1=k):valV (p::r) k=some p.2:=by simp[valV,lKm,e]
theorem kJ2 {p:κ×V} {r:List (κ×V)} {k:κ} (e:¬ p.1=k):valV (p::r) k=valV r k:=by simp[valV,lKm,e]
theorem valV_any (k:κ):∀kvs:List (κ×V),(kvs.any fun kv=>decide (kv.1=k))=(valV kvs k).isSome
 | []=>rfl
 | p::r=>by
  rw[lKp]
  by_cases e:p.1=k
  ·simp only[kJ1 e,decide_eq_true e,Bool.true_or,Option.isSome_some]
  ·rw[kJ2 e,decide_eq_false e,Bool.false_or];exact valV_any k r
theorem kKu (kvs:List (κ×V)) (k:κ) (v:V):(putK kvs k v).length<=kvs.length+1:=by
 unfold putK
 split
 ·rw[lJb];omega
 ·rw[lJo,lJ4,List.length_nil];omega
theorem RelO.isSome_eq {o:Option V} {u:Option Value} (r:RelO o u):o.isSome=u.isSome:=by
 cases o with
 | none=>cases u with
  | none=>rfl
  | some _=>exact (show False from r).elim
 | some _=>cases u with
  | none=>exact (show False from r).elim
  | some _=>rfl
theorem KV.val {kvs:List (κ×V)} {vs:List (κ×Value)} (r:KV kvs vs) (k:κ):RelO (valV kvs k) (valueAt vs k):=by
 unfold KV at r
 induction r with
 | nil=>exact True.intro
 | @cons p q ps qs h t ih=>
  obtain⟨h1,h2⟩:=h
  by_cases e:p.1=k
  ·have e':q.1=k:=h1.symm.trans e
   have b:valueAt (q::qs) k=some q.2:=by simp[valueAt,lKm,e']
   rw[kJ1 e,b];exact h2
  ·have e':¬ q.1=k:=fun z=>e (h1.trans z)
   have b:valueAt (q::qs) k=valueAt qs k:=by simp[valueAt,lKm,e']
   rw[kJ2 e,b];exact ih
theorem KV.any {kvs:List (κ×V)} {vs:List (κ×Value)} (r:KV kvs vs) (k:κ):(kvs.any fun kv=>decide (kv.1=k))=vs.any fun kv=>decide (kv.1=k):=by
 unfold KV at r
 induction r with
 | nil=>rfl
 | cons h t ih=>rw[lKp,lKp,ih,h.1]
theorem KV.repl {kvs:List (κ×V)} {vs:List (κ×Value)} (r:KV kvs vs) (k:κ) {y:V} {u:Value} (ry:RelV y u):
  KV (kvs.map fun kv=>if kv.1=k then (kv.1,y) else kv) (vs.map fun kv=>if kv.1=k then (kv.1,u) else kv):=by
 unfold KV at r ⊢
 induction r with
 | nil=>exact .nil
 | @cons p q ps qs h t ih=>
  rw[lJm,lJm]
  refine .cons ?_ ih
  obtain⟨h1,h2⟩:=h
  by_cases e:p.1=k
  ·rw[if_pos e,if_pos (h1.symm.trans e)];exact⟨h1,ry⟩
  ·rw[if_neg e,if_neg (fun z=>e (h1.trans z))];exact⟨h1,h2⟩
theorem KV.put {kvs:List (κ×V)} {vs:List (κ×Value)} (r:KV kvs vs) (k:κ) {y:V} {u:Value} (ry:RelV y u):KV (putK kvs k y) (stored vs k u):=by
 unfold putK stored
 rw[r.any k]
 by_cases e:(vs.any fun kv=>decide (kv.1=k))=true
 ·rw[if_pos e,if_pos e];exact r.repl k ry
 ·rw[if_neg e,if_neg e];exact Paired.snoc r ⟨rfl,ry⟩
theorem KV.keys {kvs:List (κ×V)} {vs:List (κ×Value)} (r:KV kvs vs):kvs.map (·.1)=vs.map (·.1):=by
 unfold KV at r
 induction r with
 | nil=>rfl
 | cons h t ih=>rw[lJm,lJm,ih,h.1]
theorem KV.length {kvs:List (κ×V)} {vs:List (κ×Value)} (r:KV kvs vs):kvs.length=vs.length:=Paired.length r
end
theorem kV_is {P:Program} {w:World} {k:Key} {u:Value} (r:RelV (kV k) u):(jKo P w).is k u=true:=by
 cases k with
 | inl i=>obtain⟨t,e⟩:=(show ∃t,u=Value.int i t from r);subst e;exact jY2 P w i t
 | inr x=>obtain⟨t,e⟩:=(show ∃t,u=Value.str x t from r);subst e;exact mixKind_str P w x t
noncomputable abbrev KT (H:Hp):List (TKey×V)->List (TKey×Addr×Value)->Prop:=Paired fun p q=>p.1=q.1/\TKeyAt H p.1 q.2.1/\RelV p.2 q.2.2
theorem KT.val {H:Hp} {kvs:List (TKey×V)} {xs:List (TKey×Addr×Value)} (r:KT H kvs xs) (k:TKey):RelO (valV kvs k) ((atKey xs k).map (·.2)):=by
 induction r with
 | nil=>exact True.intro
 | @cons p q ps qs h t ih=>
  obtain⟨h1,_,h2⟩:=h
  by_cases e:p.1=k
  ·have e':q.1=k:=h1.symm.trans e
   have b:atKey (q::qs) k=some q.2:=by simp[atKey,lKm,e']
   rw[kJ1 e,b];exact h2
  ·have e':¬ q.1=k:=fun z=>e (h1.trans z)
   have b:atKey (q::qs) k=atKey qs k:=by simp[atKey,lKm,e']
   rw[kJ2 e,b];exact ih
theorem KT.repl {H:Hp} {kvs:List (TKey×V)} {xs:List (TKey×Addr×Value)} (r:KT H kvs xs) (k:TKey) {y:V} {u:Value} (ry:RelV y u):
  KT H (kvs.map fun kv=>if kv.1=k then (kv.1,y) else kv) (xs.map (putAt k u)):=by
 induction r with
 | nil=>exact .nil
 | @cons p q ps qs h t ih=>
  rw[lJm,lJm]
  refine .cons ?_ ih
  obtain⟨h1,h2,h3⟩:=h
  unfold putAt
  by_cases e:p.1=k
  ·rw[if_pos e,if_pos (h1.symm.trans e)];exact⟨h1,h2,ry⟩
  ·rw[if_neg e,if_neg (fun z=>e (h1.trans z))];exact⟨h1,h2,h3⟩
theorem KT.put {H:Hp} {kvs:List (TKey×V)} {xs:List (TKey×Addr×Value)} (r:KT H kvs xs) (k:TKey) {b:Addr} {y:V} {u:Value} (hb:TKeyAt H k b) (ry:RelV y u):
  KT H (putK kvs k y) (storedH xs k b u):=by
 have e:(kvs.any fun kv=>decide (kv.1=k))=(atKey xs k).isSome:=by
  rw[valV_any,(r.val k).isSome_eq,Option.isSome_map]
 unfold putK storedH
 rw[e]
 by_cases q:(atKey xs k).isSome=true
 ·rw[if_pos q,if_pos q];exact r.repl k ry
 ·rw[if_neg q,if_neg q];exact Paired.snoc r ⟨rfl,hb,ry⟩
theorem KT.keeps {H H':Hp} {kvs:List (TKey×V)} {xs:List (TKey×Addr×Value)} (r:KT H kvs xs) (ht:∀b ys,H b=some (.tup ys)->H' b=some (.tup ys)):KT H' kvs xs:=
 Paired.mapP r fun _ _ z=>⟨z.1,z.2.1.mono ht,z.2.2⟩
section
variable {P:Program} {w:World} {H:Hp} {h:Heap} {a:Addr}
theorem rd_of {u:HO} (ok:HOk P w H h) (e:Rd H a u):ObjOk P w H h a u:=e.ok ok
theorem dk_rd {kvs:List (Key×V)} (ok:HOk P w H h) (e:Rd H a (.dK kvs)):kvs.length<=sizeLine/\(a == sysModules)=false/\∃vs,KV kvs vs/\h.DictOf (jKo P w) a vs:=
 show ObjOk P w H h a (.dK kvs) from rd_of ok e
theorem dk_of {kvs:List (Key×V)} (ok:HOk P w H h) (e:H a=some (.dK kvs)):kvs.length<=sizeLine/\(a == sysModules)=false/\∃vs,KV kvs vs/\h.DictOf (jKo P w) a vs:=dk_rd ok (.inl e)
theorem items_of {K:Type} [DecidableEq K] {c:Nat} {T:KeyV P w K c} {R:K->V->Prop} (hR:∀k x u,R k x->RelV x u->T.is h k u):∀ {ks:List K} {xs:List V} {us:List Value},Paired R ks xs->Vals xs us->ItemsV T h ks us
 | _,_,_,.nil,.nil=> .nil
 | _,_,_,.cons r t,.cons q z=> .cons (hR _ _ _ r q) (items_of hR t z)
theorem tupV_of {K:Type} [DecidableEq K] {c:Nat} {T:KeyV P w K c} {R:K->V->Prop} {ks:List K} {xs:List V} {p:Addr} (ok:HOk P w H h) (hR:∀k x u,R k x->RelV x u->T.is h k u) (e:H p=some (.tup xs)) (r:Paired R ks xs):IsTupV T h ks (.ref p):=by
 obtain⟨_,its,q,o,h1,h2,n,h3,_⟩:=(show ObjOk P w H h p (.tup xs) from ok p _ e)
 exact⟨p,o,its.toArray,n,rfl,h1,h2,h3,by simpa using items_of hR r q⟩
theorem r1_of (ok:HOk P w H h) (k:K1) (x:V) (u:Value) (r:Rk1 H k x) (q:RelV x u):(vk1 P w).is h k u:=by
 cases k with
 | inl k=>cases (show x=kV k from r);exact kV_is (P:=P) (w:=w) q
 | inr ks=>
  obtain⟨p,vs,rfl,e,t⟩:=(show ∃p vs,x= .ref p/\H p=some (.tup vs)/\Paired (fun k v=>v=kV k) ks vs from r)
  cases (show u=Value.ref p from q)
  exact tupV_of (T:=atomVK P w) ok (fun k x u r q=>by subst r;exact kV_is (P:=P) (w:=w) q) e t
theorem r2_of (ok:HOk P w H h) (k:K2) (x:V) (u:Value) (r:Rk2 H k x) (q:RelV x u):(vk2 P w).is h k u:=by
 cases k with
 | inl k=>cases (show x=kV k from r);exact kV_is (P:=P) (w:=w) q
 | inr ks=>
  obtain⟨p,vs,rfl,e,t⟩:=(show ∃p vs,x= .ref p/\H p=some (.tup vs)/\Paired (Rk1 H) ks vs from r)
  cases (show u=Value.ref p from q)
  exact tupV_of (T:=vk1 P w) ok (r1_of ok) e t
theorem key_of {ks:TKey} (ok:HOk P w H h) (e:TKeyAt H ks a):(jVp P w).is h ks a:=by
 obtain⟨vs,h1,t⟩:=e
 exact tupV_of (T:=vk2 P w) ok (r2_of ok) h1 t
theorem dt_rd {kvs:List (TKey×V)} (ok:HOk P w H h) (e:Rd H a (.dT kvs)):kvs.length<=sizeLine/\(a == sysModules)=false/\
  ∃xs,KT H kvs xs/\h.DictOfH (jVp P w) a xs:=by
 obtain⟨z,y,xs,r,o,es,ep,h1,h2,h3,h4,h5⟩:=(show ObjOk P w H h a (.dT kvs) from rd_of ok e)
 refine⟨z,y,xs,r,o,es,ep,h1,h2,h3,h4,fun x hx=> ?_,h5⟩
 have all:∀ {l:List (TKey×V)} {m:List (TKey×Addr×Value)},KT H l m->∀x∈m,(jVp P w).is h x.1 x.2.1:=by
  intro l m q
  induction q with
  | nil=>intro x hx;exact nomatch hx
  | @cons p q ps qs hq t ih=>
   intro x hx
   rcases (lJn.mp hx) with e | hx
   ·subst e
    exact key_of ok (by rw[<-hq.1];exact hq.2.1)
   ·exact ih x hx
 exact all r x hx
theorem dt_of {kvs:List (TKey×V)} (ok:HOk P w H h) (e:H a=some (.dT kvs)):kvs.length<=sizeLine/\(a == sysModules)=false/\
  ∃xs,KT H kvs xs/\h.DictOfH (jVp P w) a xs:=dt_rd ok (.inl e)
end
def DGet (H:Hp) (a:Addr) (y:V) (r:Option V):Prop:=
 (∃kvs k,Rd H a (.dK kvs)/\y=kV k/\r=valV kvs k)\/∃kvs k b,Rd H a (.dT kvs)/\y= .ref b/\TKeyAt H k b/\r=valV kvs k
def DPut (H:Hp) (a:Addr) (y v:V) (H':Hp):Prop:=
 (∃kvs k,H a=some (.dK kvs)/\y=kV k/\kvs.length<sizeLine/\H'=upd H a (.dK (putK kvs k v)))\/
 ∃kvs k b,H a=some (.dT kvs)/\y= .ref b/\TKeyAt H k b/\kvs.length<sizeLine/\H'=upd H a (.dT (putK kvs k v))
theorem DGet.k {H:Hp} {a:Addr} {kvs:List (Key×V)} {k:Key} (e:H a=some (.dK kvs)):DGet H a (kV k) (valV kvs k):= .inl ⟨kvs,k,.inl e,rfl,rfl⟩
theorem DGet.t {H:Hp} {a b:Addr} {kvs:List (TKey×V)} {k:TKey} (e:H a=some (.dT kvs)) (eb:TKeyAt H k b):DGet H a (.ref b) (valV kvs k):= .inr ⟨kvs,k,b,.inl e,rfl,eb,rfl⟩
theorem DPut.k {H:Hp} {a:Addr} {kvs:List (Key×V)} {k:Key} {v:V} (e:H a=some (.dK kvs)) (hl:kvs.length<sizeLine):DPut H a (kV k) v (upd H a (.dK (putK kvs k v))):= .inl ⟨kvs,k,e,rfl,hl,rfl⟩
theorem DPut.t {H:Hp} {a b:Addr} {kvs:List (TKey×V)} {k:TKey} {v:V} (e:H a=some (.dT kvs)) (eb:TKeyAt H k b) (hl:kvs.length<sizeLine):
  DPut H a (.ref b) v (upd H a (.dT (putK kvs k v))):= .inr ⟨kvs,k,b,e,rfl,eb,hl,rfl⟩
section
variable {X:Cx} {pins:List (Addr×Obj)} {σ:St} {H:Hp} {s:Shared} {a:Addr} {y v:V} {u r:Value} {o:Option V} {A:Around} {E:Value->Shared->Prop}
theorem Inv.big (I:Inv X pins σ H s):sysModules<s.heap.objs.size:=by
 have h:mainGlobals<s.heap.objs.size:=(I.mod.glob.keeps I.bk).lt
 exact Nat.lt_trans (by decide) h
theorem d_getItem {Q:Value->Shared->Prop} (hu:A.units+20<cLine) (I:Inv X pins σ H s) (g:DGet H a y (some v)) (ry:RelV y u) (h:∀w' s',Inv X pins σ H s'->RelV v w'->Q w' s'):
  wpAny (model X.prog X.w) A (getItem (.ref a) u) Q E s:=by
 rcases g with ⟨kvs,k,e,ey,l⟩ | ⟨kvs,k,b,e,ey,eb,l⟩
 ·subst ey
  obtain⟨z,hd,vs,rel,dd⟩:=dk_rd I.hok e
  obtain⟨w',hw,rw'⟩:=RelO.some_of (v:=v) (o:=valueAt vs k) (by rw[l];exact rel.val k)
  exact wpAny_getItem_of (kV_is ry) dd.mapOf hw (h w' _ (I.tok _) rw')
 ·subst ey
  cases (show u=Value.ref b from ry)
  obtain⟨z,hd,xs,rel,dd⟩:=dt_rd I.hok e
  obtain⟨w',hw,rw'⟩:=RelO.some_of (v:=v) (o:=(atKey xs k).map (·.2)) (by rw[l];exact rel.val k)
  obtain⟨p,hp,hp2⟩:=lQg.mp hw
  refine wpAny_getItem_heap (jUn hu) (key_of I.hok eb) dd hp ?_
  rw[hp2]
  exact h w' _ (I.tok _) rw'
theorem d_notIn {Q:Value->Shared->Prop} (hu:A.units+20<cLine) (I:Inv X pins σ H s) (g:DGet H a y o) (ry:RelV y u) (h:∀s',Inv X pins σ H s'->Q (.bool (!o.isSome)) s'):
  wpAny (model X.prog X.w) A (compareOp .NotIn u (.ref a)) Q E s:=by
 rcases g with ⟨kvs,k,e,ey,l⟩ | ⟨kvs,k,b,e,ey,eb,l⟩
 ·subst ey
  obtain⟨z,hd,vs,rel,dd⟩:=dk_rd I.hok e
  refine wpAny_notIn_of (kV_is ry) hd dd.mapOf ?_
  rw[<-(rel.val k).isSome_eq,<-l]
  exact h _ (I.tok _)
 ·subst ey
  cases (show u=Value.ref b from ry)
  obtain⟨z,hd,xs,rel,dd⟩:=dt_rd I.hok e
  refine wpAny_notIn_heap (jUn hu) (key_of I.hok eb) hd dd ?_
  have q:=(rel.val k).isSome_eq
  rw[Option.isSome_map] at q
  rw[<-q,<-l]
  exact h _ (I.tok _)
theorem kXv {h':Heap} {t':Nat} {ob:HO} (I:Inv X pins σ H s) (mu:Mut (H a)) (hs:Heap.SameBut a s.heap h') (he:∃q,h'.get? a=some q) (new:ObjOk X.prog X.w (upd H a ob) h' a ob):
  Inv X pins σ (upd H a ob) {s with heap:=h',toks:=t'}:=
 I.write (x:=a) (e:=a) mu (.inl rfl) (fun b q hb z=>(hs.2 b hb).trans z) he new
theorem dk_new {P:Program} {w:World} {H':Hp} {h':Heap} {kvs:List (Key×V)} {vs:List (Key×Value)} (z:kvs.length<=sizeLine) (hd:(a == sysModules)=false) (rel:KV kvs vs) (dd:h'.DictOf (jKo P w) a vs):
  ObjOk P w H' h' a (.dK kvs):=⟨z,hd,vs,rel,dd⟩
theorem d_setItem {H':Hp} {Q:Unit->Shared->Prop} (hu:A.units+20<cLine) (I:Inv X pins σ H s) (g:DPut H a y v H') (ry:RelV y u) (rv:RelV v r) (h:∀s',Inv X pins σ H' s'->Q () s'):
  wpAny (model X.prog X.w) A (setItem (.ref a) u r) Q E s:=by
 rcases g with ⟨kvs,k,e,ey,l,eH⟩ | ⟨kvs,k,b,e,ey,eb,l,eH⟩
 ·subst ey eH
  obtain⟨z,hd,vs,rel,dd⟩:=dk_of I.hok e
  have hz:vs.length<=sizeLine:=by rw[<-rel.length];exact z
  have hl:(putK kvs k v).length<=sizeLine:=by have:=kKu kvs k v;omega
  refine wpAny_setItem_pairs (hsz:=hz) (kV_is ry) dd fun h' dd' hs=>h _ ?_
  have he:∃q,h'.get? a=some q:=let ⟨q,_,_,hq,_⟩:=dd';⟨q,hq⟩
  exact kXv I (by rw[e];exact True.intro) hs he (dk_new hl hd (rel.put k rv) dd')
 ·subst ey eH
  cases (show u=Value.ref b from ry)
  obtain⟨z,hd,xs,rel,dd⟩:=dt_of I.hok e
  have hz:xs.length<=sizeLine:=by rw[<-Paired.length rel];exact z
  have hl:(putK kvs k v).length<=sizeLine:=by have:=kKu kvs k v;omega
  refine wpAny_setItem_heap (hsz:=hz) (jUn hu) (key_of I.hok eb) dd fun h' dd' hs=>h _ ?_
  obtain⟨q,es,ep,hq,h2,h3,h4,_,h5⟩:=dd'
  refine kXv I (by rw[e];exact True.intro) hs ⟨q,hq⟩ ⟨hl,hd,_,(rel.put k eb rv).keeps fun c ys ec=> ?_,q,es,ep,hq,h2,h3,h4,h5⟩
  rw[jKp (ne_of ec e (fun z=>nomatch z))]
  exact ec
end
section
variable {X:Cx} {pins:List (Addr×Obj)} {σ:St} {H:Hp} {s:Shared} {a:Addr} {kvs:List (Key×V)} {k:Key} {u:Value} {A:Around} {E:Value->Shared->Prop}
end
theorem dict_typeIs {X:Cx} {pins:List (Addr×Obj)} {σ:St} {H:Hp} {s:Shared} {a:Addr} {y:V} {o:Option V} (I:Inv X pins σ H s) (g:DGet H a y o):s.TypeIs (.ref a) "dict":=by
 rcases g with ⟨kvs,k,e,_,_⟩ | ⟨kvs,k,b,e,_,_,_⟩
 ·obtain⟨_,_,vs,_,dd⟩:=dk_rd I.hok e
  exact dd.typeIs
 ·obtain⟨_,_,xs,_,dd⟩:=dt_rd I.hok e
  exact dd.typeIs
section
variable {X:Cx} {o i e value:Expr} {pos pos' tpos:Pos} {td ty tv:TE}
end
theorem dk_empty {P:Program} {w:World} {H:Hp} (h:Heap) (hb:sysModules<h.objs.size):ObjOk P w H (h.push {cls:= .type "dict",data:= .dict #[]}) h.objs.size (.dK []):=
 ⟨lJg _,beq_eq_false_iff_ne.mpr (Ne.symm (lJl hb)),[],.nil,Heap.DictOf.new h⟩
theorem dt_empty {P:Program} {w:World} {H:Hp} (h:Heap) (hb:sysModules<h.objs.size):ObjOk P w H (h.push {cls:= .type "dict",data:= .dict #[]}) h.objs.size (.dT []):=
 ⟨lJg _,beq_eq_false_iff_ne.mpr (Ne.symm (lJl hb)),[],.nil,_,#[],0,Heap.get?_push_size _ rfl,⟨rfl,rfl,rfl⟩,rfl,rfl,List.nodup_nil⟩
noncomputable def tDNewK:TE:=fun _ H Q=>∀p,H p=none->Q (.ref p) (upd H p (.dK []))
noncomputable def tDNewT:TE:=fun _ H Q=>∀p,H p=none->Q (.ref p) (upd H p (.dT []))
section
variable {X:Cx} {pos:Pos}
theorem pe_dnewK:PE X (.Dict [] [] pos) tDNewK:=fun pins s σ H Q I h=>
 wpAny_Dict_empty ⟨.ref s.heap.objs.size,_,I.laid (a:=s.heap.objs.size) (o:= .dK []) (t':=s.toks) (fun _ _ q=>Heap.get?_push_of_some _ q) (lJd _) (dk_empty s.heap I.big),rfl,h _ (I.hok.fresh (lJd _))⟩
theorem pe_dnewT:PE X (.Dict [] [] pos) tDNewT:=fun pins s σ H Q I h=>
 wpAny_Dict_empty ⟨.ref s.heap.objs.size,_,I.laid (a:=s.heap.objs.size) (o:= .dT []) (t':=s.toks) (fun _ _ q=>Heap.get?_push_of_some _ q) (lJd _) (dt_empty s.heap I.big),rfl,h _ (I.hok.fresh (lJd _))⟩
end
noncomputable abbrev VV:List (V×V)->List (Value×Value)->Prop:=Paired fun p q=>RelV p.1 q.1/\RelV p.2 q.2
noncomputable def mergeK (kvs more:List (Key×V)):List (Key×V):=more.foldl (fun acc kv=>putK acc kv.1 kv.2) kvs
theorem KV.merge:∀ {more:List (Key×V)} {rs:List (Key×Value)} {kvs:List (Key×V)} {vs:List (Key×Value)},KV more rs->KV kvs vs->KV (mergeK kvs more) (merged vs rs):=by
 intro more rs kvs vs r
 unfold KV at r
 induction r generalizing kvs vs with
 | nil=>intro q;exact q
 | @cons p q ps qs h t ih=>
  intro r0
  have e:KV (putK kvs p.1 p.2) (stored vs q.1 q.2):=by
   have:=r0.put p.1 h.2
   rw[<-h.1];exact this
  exact ih e
theorem kUy {P:Program} {w:World}:∀ {kvs:List (Key×V)} {ws:List (Value×Value)},VV (kvs.map fun kv=>(kV kv.1,kv.2)) ws->∃rs,Carries (jKo P w) ws rs/\KV kvs rs
 | [],_,r=>by rw[List.map_nil] at r;cases r;exact⟨[],True.intro,.nil⟩
 | p::kvs,_,r=>by
  rw[lJm] at r
  cases r with
  | @cons a b as bs h t=>
   obtain⟨rs,c,q⟩:=kUy (P:=P) (w:=w) t
   obtain⟨b1,b2⟩:=b
   exact⟨(p.1,b2)::rs,⟨kV_is h.1,rfl,c⟩,.cons ⟨rfl,h.2⟩ q⟩
section
variable {X:Cx} {pins:List (Addr×Obj)} {σ:St} {H:Hp} {s:Shared} {a:Addr} {y d:V} {u r:Value} {o:Option V} {A:Around} {E:Value->Shared->Prop}
end
section
variable {X:Cx} {o e f:Expr} {apos cpos:Pos} {td ty tx:TE}
end
section
variable {X:Cx} {pins:List (Addr×Obj)} {σ:St} {H:Hp} {s:Shared} {a:Addr} {kvs:List (Key×V)} {A:Around} {E:Value->Shared->Prop}
end
section
variable {X:Cx} {pins:List (Addr×Obj)} {σ:St} {H:Hp} {s:Shared} {a:Addr} {y:V} {u:Value} {A:Around} {E:Value->Shared->Prop}
end
end L2
namespace Att
open PySem PySem.W PySem.Calls PyProof.Rows
theorem kK4 {P:Params} {h:Heap}:∀(ns:List Int) (vs:List Value),WellAll P h vs (ns.map WData.int)->IntsAre vs ns:=by
 intro ns
 induction ns with
 | nil=>
  intro vs w
  rw[List.map_nil] at w
  cases w
  exact .nil
 | cons n ns ih=>
  intro vs w
  rw[lJm] at w
  cases w with
  | cons a b=>
   cases a
   exact .cons _ _ (ih _ b)
theorem script_of {l:OpenLaw} {n:Nat} (hn:l.most=some n) {P:Params} {h:Heap} {args:List WData} {vals:List Value}
  (hpre:l.row.toRowW.claim.pre args=true) (hwl:WellAll P h vals args):
  ∃a vs ns,vals=[Value.ref a]/\args=[WData.list (ns.map WData.int)]/\h.get? a=some {cls:= .type "list",data:= .seq vs.toArray}/\IntsAre vs ns/\ns.length<=n:=by
 have hsh:WShape.hasAll [] args [.list .int]=true:=(pre_splitW hpre).1
 have hc:l.pre.holds [] {args:=args}=true:=(pre_splitW hpre).2
 obtain⟨d,r,rfl,h1,h2⟩:=hasAllW_cons hsh
 obtain rfl:=hasAllW_nil h2
 obtain⟨xs,rfl,h3⟩:=hasW_list h1
 obtain⟨ns,rfl⟩:=items_int h3
 have hlen:ns.length<=n:=by
  unfold OpenLaw.pre at hc
  have h4:(WTm.not (.lt (.lit (.int (n:Int))) (.len (.arg 0)))).holds [] {args:=[.list (ns.map .int)]}=true:=by
   have h4:=(holds_andW hc).1
   rw[hn] at h4
   exact h4
  have h5:=condW_of h4 (w_not (w_lt w_lit (w_len_list (w_arg rfl))))
  rw[lJb] at h5
  refine Nat.le_of_not_lt fun q=> ?_
  have q':(n:Int)<((ns.length:Nat):Int):=by omega
  first
   | (rw[decide_eq_true q'] at h5;exact absurd h5 (by decide))
   | (simp at h5;omega)
 cases hwl with
 | cons w1 w2=>
  cases w2
  cases w1 with
  | list ho hall=>exact⟨_,_,ns,rfl,rfl,ho,kK4 ns _ hall,hlen⟩
theorem post_true (l:OpenLaw) (args:List WData):l.row.toRowW.claim.post args (.bool true) args=true:=
 postW_of (r:=l.row.toRowW) (X:=(true == true))
  (show WShape.has [] (.bool true) .bool=true by first | rfl | decide | simp[WShape.has,WShape.arms,WShape.armsAll])
  (show (WTm.eq .res (.lit (.bool true))).value [] {args:=args,res:=some (.bool true),after:=args}=some (.bool (true == true)) from w_eq_bool (w_res rfl) w_lit) rfl
theorem attach_call {l:OpenLaw} {n:Nat} {q:Program} {loose:List Str} {XP:(Str->Option Value)->Heap->Prop} {YP:World->Heap->Prop} {d:DefRec}
  (hn:l.most=some n) (hdf:d.params.defaults=[])
  (call:∀(w:World) (s₀ s₁:Shared) (mg mb:Str->Option Value) (fa:Addr) (o:Obj) (pm cd doc:Value) (a:Addr) (vs:List Value) (ns:List Int),
   Ground q loose [] XP w s₀ mg mb s₁.heap->YP w s₁.heap->
   s₁.heap.get? fa=some o->o.data= .func (docDef d.name d.params d.body d.scope pm cd doc)->s₁.heap.CodeRec cd d.name->mg d.name=some (.ref fa)->
   s₁.heap.get? a=some {cls:= .type "list",data:= .seq vs.toArray}->IntsAre vs ns->ns.length<=n->s₁.gens= #[]->
   codeAny (model l.prog w) callerA (.call (.ref fa) ⟨[.ref a],[]⟩) (fun r s'=>r= .ok (.ret (.bool true))/\OldK s₁.heap s'.heap/\s'.os=s₁.os/\AllBare s'.gens) s₁):
  WalkO q loose XP YP l.row.toRowW d [] (fun f vs=>PySem.call f vs):=by
 intro w s₀ s₁ mg mb G Y fa o pm cd doc dV kV ho hd hcd hD hmg hg args vals as hpre hlay hrd hwl hlo
 obtain rfl:dV= .none:=Dflts.none hD hdf
 obtain rfl:kV= .none:=Dflts.noKw hD
 obtain⟨a,vs,ns,rfl,rfl,hobj,hints,hlen⟩:=script_of hn hpre hwl
 refine enter_call (codeAny_mono (call w s₀ s₁ mg mb fa o pm cd doc a vs ns G Y ho (fd_plain hd) hcd hmg hobj hints hlen hg) fun r s' hq=> ?_)
 obtain⟨rfl,h2,h3,h4⟩:=hq
 exact⟨.inl ⟨.bool true,.bool true,[],rfl,fun _=>rfl,.bool true,post_true l _,fun _=>⟨List.Pairwise.nil,fun _ hm=>(nomatch hm)⟩⟩,h2,h3,h4⟩
section
variable {prog:Program} {w:World} {A:Around} {E:Value->Shared->Prop} {s:Shared} {K:Frag}
end
end Att
namespace L2
open PySem PySem.Spec PyProof.Rows
theorem jVj:∀ {vs:List Value} {ns:List Int},IntsAre vs ns->Vals (ns.map V.int) vs
 | _,_,.nil=> .nil
 | _,_,.cons n t h=> .cons ⟨t,rfl⟩ (jVj h)
def Only (H:Hp):Prop:=∀b,H b=none\/∃o xs,H b=some (.frz o (.lst xs))
theorem law_call {P:Program} {w:World} {K:PySem.W.Frag} {mg mb:Str->Option Value} {CX:CXT} {k:Nat} {fa a:Addr} {fd:FuncData} {x:Str} {sp:Sp} {s₁:Shared} {vs:List Value} {ns:List Int}
  (KX:K.In s₁.heap) (hns:s₁.heap.Ns mainGlobals mg) (hb:s₁.heap.Ns builtinsNs mb) (hbb:∀x:Str,x≠"__name__"->mb x=bootBuiltins x) (hlim:s₁.heap.NoLimit) (hg:s₁.gens= #[])
  (ha:s₁.heap.get? a=some {cls:= .type "list",data:= .seq vs.toArray}) (hi:IntsAre vs ns) (hl:ns.length<=sizeLine) (hr:Room k callerA)
  (F:∀base:Heap,K.In base->base.Ns mainGlobals mg->FnOk P w K mg base CX k fa fd [x] sp) (hbind:∀(s:Shared) (u:Value),BindsTo s fd ⟨[u],[]⟩ [(x,u)])
  (hsp:∀H:Hp,Only H->SqL K H a (ns.map V.int)->sp [.ref a] H (fun v _=>v= .bl true) fun _ _ _=>False)
  (hCX:∀H e s',CX [] H s₁ (fun _ _ _=>False) e s'->False):
  codeAny (model P w) callerA (.call (.ref fa) ⟨[.ref a],[]⟩) (fun r s'=>r= .ok (.ret (.bool true))/\OldK s₁.heap s'.heap/\s'.os=s₁.os/\AllBare s'.gens) s₁:=by
 have rv:=jVj hi
 have lenV:=hi.length
 have core:∀H:Hp,Only H->SqL K H a (ns.map V.int)->HOk P w H s₁.heap->(∀b,H b≠none->b=a)->(H a≠none->K.lookup a=none)->
   codeAny (model P w) callerA (.call (.ref fa) ⟨[.ref a],[]⟩) (fun r s'=>r= .ok (.ret (.bool true))/\OldK s₁.heap s'.heap/\s'.os=s₁.os/\AllBare s'.gens) s₁:=by
  intro H hO hS hok hA hK
  have base_of:∀ {b:Addr} {o:Obj},s₁.heap.get? b=some o->H b=none->(hidT s₁.heap H).get? b=some o:=fun e n=>hidT_get e n
  have noA:∀ {b:Addr} {o:Obj} {es:Array DictEntry} {ep:Nat},s₁.heap.get? b=some o->o.data= .dict es ep->H b=none:=fun {b o es ep} e d=>by
   cases q:H b with
   | none=>rfl
   | some u=>
    have e':b=a:=hA b (by rw[q];simp)
    subst e'
    rw[ha] at e;cases e
    have d':Data.seq vs.toArray _=Data.dict es ep:=d
    cases d'
  have nsK:∀ {b:Addr} {m:Str->Option Value},s₁.heap.Ns b m->(hidT s₁.heap H).Ns b m:=fun {b m} ⟨o,es,ep,e,d,r⟩=>⟨o,es,ep,base_of e (noA e d),d,r⟩
  have hKb:K.In (hidT s₁.heap H):=fun b o e=>base_of (KX b o e) (by
   cases q:H b with
   | none=>rfl
   | some u=>
    have e':b=a:=hA b (by rw[q];simp)
    subst e'
    rw[hK (by rw[q];simp)] at e;cases e)
  have hM:Mod K mg (hidT s₁.heap H):=⟨hKb,nsK hns,⟨mb,nsK hb,hbb⟩,let ⟨mc,h1,h2⟩:=hlim;⟨mc,nsK h1,h2⟩⟩
  have e0:Env0 P w K mg (hidT s₁.heap H) callerA [] s₁ H:=⟨rfl,hM,fun b o e=>of_hidT e,Nat.le_of_eq (hidT_size _ _),trivial,fun b hb=>absurd (show b∈([]:List Addr) from hb) (by simp),hok,.of_eq hg⟩
  refine codeAny_mono ((F _ hKb (nsK hns)).run callerA [] s₁ H ⟨[.ref a],[]⟩ [.ref a] [.ref a] _ _ hr e0 (hbind s₁ (.ref a)) (.cons rfl .nil) (hsp H hO hS)) fun r s' h=> ?_
  cases r with
  | error e=>exact (hCX H e s' h).elim
  | ok fl=>
   cases fl with
   | next=>exact False.elim h
   | brk=>exact False.elim h
   | cont=>exact False.elim h
   | ret u=>
    obtain⟨v,H',os,bare,un,hok',r',q⟩:=h
    have q':v= .bl true:=q
    subst q'
    obtain rfl:u=Value.bool true:=r'
    refine⟨rfl,OldK.of_keep fun b o e=> ?_,os,bare⟩
    cases q:H b with
    | none=>exact un.keep b o e q (by intro z;exact absurd (show b∈([]:List Addr) from z) (by simp)) (by simp)
    | some u=>
     rcases hO b with z | ⟨ob,xs,z⟩
     ·rw[q] at z;cases z
     ·have z2:=un.frzs b ob _ z
      obtain⟨e1,_⟩:=hok b _ z
      obtain⟨e2,_⟩:=hok' b _ z2
      rw[e] at e1;cases e1
      exact e2
 cases hk:K.lookup a with
 | some o=>
  have e:=KX a o hk
  rw[ha] at e
  cases e
  refine core (fun _=>none) (fun _=> .inl rfl) (.inr ⟨_,vs.toArray,_,hk,rfl,rfl,rfl,by rw[lJi,lenV];exact hl,by simpa using rv⟩) (fun b u z=>by have z':(none:Option HO)=some u:=z;cases z') (fun b z=>absurd rfl z) fun z=>absurd rfl z
 | none=>
  refine core (fun b=>if b=a then some (.frz {cls:= .type "list",data:= .seq vs.toArray} (.lst (ns.map V.int))) else none) (fun b=> ?_) (.inl (.inr ⟨{cls:= .type "list",data:= .seq vs.toArray},if_pos rfl⟩)) (fun b u z=> ?_) (fun b z=> ?_) fun _=>hk
  ·by_cases hb:b=a
   ·exact .inr ⟨_,_,if_pos hb⟩
   ·exact .inl (if_neg hb)
  ·by_cases hb:b=a
   ·have z':=(if_pos hb).symm.trans z
    cases z'
    subst hb
    exact⟨ha,by rw[lJb];exact hl,vs,_,rv,ha⟩
   ·have z':=(if_neg hb).symm.trans z
    cases z'
  ·by_cases hb:b=a
   ·exact hb
   ·exact absurd (if_neg hb) z
theorem walk_of {l:PySem.W.OpenLaw} {n k:Nat} {q:Program} {loose:List Str} {XP:(Str->Option Value)->Heap->Prop} {YP:World->Heap->Prop} {d:DefRec} {K:Params->PySem.W.Frag} {CX:World->CXT} {sp:World->Sp} {x:Str}
  (hn:l.most=some n) (hn2:n<=sizeLine) (hdf:d.params.defaults=[]) (hr:Room k callerA)
  (hY:∀(w:World) (h:Heap),YP w h->(K w.params).In h)
  (F:∀(w:World) (mg:Str->Option Value) (fa:Addr) (h:Heap),(K w.params).In h->h.Ns mainGlobals mg->mg d.name=some (.ref fa)->
   ∃fd:FuncData,(∀(s:Shared) (u:Value),BindsTo s fd ⟨[u],[]⟩ [(x,u)])/\
    ∀base:Heap,(K w.params).In base->base.Ns mainGlobals mg->FnOk l.prog w (K w.params) mg base (CX w) k fa fd [x] (sp w))
  (hsp:∀(w:World) (H:Hp) (a:Addr) (ns:List Int),ns.length<=n->Only H->SqL (K w.params) H a (ns.map V.int)->sp w [.ref a] H (fun v _=>v= .bl true) fun _ _ _=>False)
  (hCX:∀(w:World) (H:Hp) (s:Shared) (e:Value) (s':Shared),CX w [] H s (fun _ _ _=>False) e s'->False):
  PySem.W.WalkO q loose XP YP l.row.toRowW d [] (fun f vs=>PySem.call f vs):=by
 refine Att.attach_call hn hdf fun w s₀ s₁ mg mb fa o pm cd doc a vs ns G Y ho hd hcd hmg hobj hints hlen hg=> ?_
 have KX:=hY w _ Y
 obtain⟨fd,hb,hF⟩:=F w mg fa _ KX G.T.g hmg
 exact law_call KX G.T.g G.T.b G.T.builtins G.T.nolimit hg hobj hints (lJs hlen hn2) hr hF hb (fun H hO hS=>hsp w H a ns hlen hO hS) fun H e s'=>hCX w H s₁ e s'
noncomputable def kJb (s:Stmt) (j:Nat):Stmt:=match s with
 | .ClassDef _ _ _ body _ _ _ _ _ _ _=>body.getD j (.Pass ⟨0,0,0,0⟩)
 | _=> .Pass ⟨0,0,0,0⟩
noncomputable def jJ0 (s:Stmt):Arguments:=match s with
 | .FunctionDef _ a _ _ _ _ _ _ _ _=>a
 | _=>{posonlyargs:=[],args:=[],vararg:=none,kwonlyargs:=[],kw_defaults:=[],kwarg:=none,defaults:=[]}
noncomputable def jJx (s:Stmt):List Stmt:=match s with
 | .FunctionDef _ _ b _ _ _ _ _ _ _=>b
 | _=>[]
noncomputable def jJh (s:Stmt):Scope:=match s with
 | .FunctionDef _ _ _ _ _ _ sc _ _ _=>sc
 | _=>{kind:= .function,names:=[],isGenerator:=false,isCoroutine:=false}
noncomputable abbrev CX0:CXT:=fun _ _ _ _ _ _=>False
noncomputable abbrev E0:XK:=fun _ _ _=>False
theorem pass0 {X:Cx}:Passes CX0 X E0:=fun _ _ _ _ _ _ _ h=>h.elim
structure Fun (K:PySem.W.Frag) (x qual:Str) (st:Stmt) (f:Addr) (fd:FuncData):Prop where
 ex:∃(oc:Value) (od:Option Addr) (kV doc pm:Value) (an:Option Addr) (cdv ct:Value) (osl:Array (Option Value)),
  fd=PySem.W.fnOf x qual (jJ0 st) (jJx st) (jJh st) .none kV doc pm an cdv ct/\K.lookup f=some ⟨oc,od,.func fd,osl⟩/\PySem.W.codeIn K cdv qual=true
 kp:PySem.W.keepIn K (.ref f)=true
section
variable {P:Program} {w:World} {K:PySem.W.Frag} {mg:Str->Option Value} {base:Heap}
theorem Fun.ok {x qual:Str} {st:Stmt} {f:Addr} {fd:FuncData} {N ps:List Str} {k:Nat} {sp:Sp} (F:Fun K x qual st f fd) (S:FnScope N ps (jJh st)) (len:∀vs H Q E,sp vs H Q E->vs.length=ps.length)
  (hbody:∀(cdv:Value) (A:Around) (outer:List Env) (s:Shared) (H:Hp) (vs:List V) (Q:VK) (E:XK),Room k (A.deeper (envOfC qual (jJh st) s.heap.objs.size f cdv))->sp vs H Q E->
   ∃t,PSs (cxOf CX0 P w K mg base N qual (jJh st) f cdv A outer s H E).nox (jJx st) t/\t {nx:=fun _ H'=>Q .non H',rt:=Q} (start N vs) H):FnOk P w K mg base CX0 (k+1) f fd ps sp:=by
 obtain⟨oc,od,kV,doc,pm,an,cdv,ct,osl,rfl,lk,hcd⟩:=F.ex
 refine fn_of lk hcd S len fun A outer s H vs Q E hr hsp=> ?_
 obtain⟨t,h,q⟩:=hbody cdv A outer s H vs Q E hr hsp
 exact⟨t,h.nox,q⟩
theorem Fun.binds {x qual:Str} {st:Stmt} {f:Addr} {fd:FuncData} {ps:List Str} (F:Fun K x qual st f fd)
  (h:∀(kV doc pm:Value) (an:Option Addr) (cdv ct:Value) (us:List Value),us.length=ps.length->bindArgs (PySem.W.fnOf x qual (jJ0 st) (jJx st) (jJh st) .none kV doc pm an cdv ct) ⟨us,[]⟩=pure (ps.zip us)):Binds K fd ps []:=by
 obtain⟨oc,od,kV,doc,pm,an,cdv,ct,osl,rfl,lk,hcd⟩:=F.ex
 exact .all (h kV doc pm an cdv ct)
theorem jKb {x qual:Str} {st:Stmt} {f:Addr} {oc:Value} {od an:Option Addr} {osl:Array (Option Value)} {kV doc pm cdv ct:Value} (l:K.lookup f=some ⟨oc,od,.func (PySem.W.fnOf x qual (jJ0 st) (jJx st) (jJh st) .none kV doc pm an cdv ct),osl⟩)
  (c:PySem.W.codeIn K cdv qual=true) (k:PySem.W.keepIn K (.ref f)=true):Fun K x qual st f (PySem.W.fnOf x qual (jJ0 st) (jJx st) (jJh st) .none kV doc pm an cdv ct):=⟨⟨oc,od,kV,doc,pm,an,cdv,ct,osl,rfl,l,c⟩,k⟩
end
theorem jQj {A:Around} {k:Nat} (hr:Room k A):A.units+20<cLine:=Nat.lt_of_le_of_lt (Nat.add_le_add_left (by decide:20<=64) _) hr.units
section
variable {X:Cx}
end
end L2
set_option Elab.async false
set_option linter.all false
set_option maxRecDepth 100000
set_option maxHeartbeats 5000000
namespace L3
open PySem PySem.Spec PyProof.Rows L2
inductive T where
 | non | bl (b:Bool) | int (i:Int) | str (x:Str) | tup (xs:List T) | scr (xs:List T) | ref (a:Addr) | ty (n:String)
structure Ext (H H':Hp):Prop where
 tup:∀b xs,H b=some (.tup xs)->H' b=some (.tup xs)
 frz:∀b ob u,H b=some (.frz ob u)->H' b=some (.frz ob u)
theorem Ext.refl (H:Hp):Ext H H:=⟨fun _ _ h=>h,fun _ _ _ h=>h⟩
theorem Ext.trans {H H1 H2:Hp} (a:Ext H H1) (b:Ext H1 H2):Ext H H2:=⟨fun c o h=>b.tup c o (a.tup c o h),fun c o u h=>b.frz c o u (a.frz c o u h)⟩
def FrL (K:PySem.W.Frag) (H:Hp) (a:Addr) (xs:List V):Prop:=
 (∃ob,H a=some (.frz ob (.lst xs)))\/
  ∃(o:Obj) (its:Array Value) (n:Nat),K.lookup a=some o/\o.cls= .type "list"/\o.dict=none/\o.data= .seq its n/\its.size<=sizeLine/\Vals xs its.toList
theorem FrL.sq {K:PySem.W.Frag} {H:Hp} {a:Addr} {xs:List V} (h:FrL K H a xs):SqL K H a xs:=by
 rcases h with ⟨ob,h⟩ | h
 ·exact .inl (.inr ⟨ob,h⟩)
 ·exact .inr h
theorem FrL.mono {K:PySem.W.Frag} {H H':Hp} {a:Addr} {xs:List V} (e:Ext H H') (h:FrL K H a xs):FrL K H' a xs:=by
 rcases h with ⟨ob,h⟩ | h
 ·exact .inl ⟨ob,e.frz _ _ _ h⟩
 ·exact .inr h
mutual
noncomputable def Rep (K:PySem.W.Frag) (H:Hp):T->V->Prop
 | .non,v=>v= .non
 | .bl b,v=>v= .bl b
 | .int i,v=>v= .int i
 | .str x,v=>v= .str x
 | .ref a,v=>v= .ref a
 | .ty n,v=>v= .ty n
 | .tup xs,v=>∃a vs,v= .ref a/\H a=some (.tup vs)/\Reps K H xs vs
 | .scr xs,v=>∃a vs,v= .ref a/\FrL K H a vs/\Reps K H xs vs
noncomputable def Reps (K:PySem.W.Frag) (H:Hp):List T->List V->Prop
 | [],vs=>vs=[]
 | x::xs,vs=>∃v ws,vs=v::ws/\Rep K H x v/\Reps K H xs ws
end
mutual
theorem Rep.mono {K:PySem.W.Frag} {H H':Hp} (e:Ext H H'):∀(x:T) {v:V},Rep K H x v->Rep K H' x v
 | .non,_,h=>h
 | .bl _,_,h=>h
 | .int _,_,h=>h
 | .str _,_,h=>h
 | .ref _,_,h=>h
 | .ty _,_,h=>h
 | .tup xs,_,⟨a,vs,r1,r2,r3⟩=>⟨a,vs,r1,e.tup _ _ r2,Reps.mono e xs r3⟩
 | .scr xs,_,⟨a,vs,r1,r2,r3⟩=>⟨a,vs,r1,r2.mono e,Reps.mono e xs r3⟩
theorem Reps.mono {K:PySem.W.Frag} {H H':Hp} (e:Ext H H'):∀(xs:List T) {vs:List V},Reps K H xs vs->Reps K H' xs vs
 | [],_,h=>h
 | x::xs,_,⟨v,ws,r1,r2,r3⟩=>⟨v,ws,r1,Rep.mono e x r2,Reps.mono e xs r3⟩
end
section
variable {K:PySem.W.Frag} {H:Hp}
theorem Reps.length:∀ {xs:List T} {vs:List V},Reps K H xs vs->xs.length=vs.length
 | [],_,h=>by cases h;rfl
 | _::_,_,⟨_,_,r1,_,r3⟩=>by subst r1;simp[Reps.length r3]
theorem Reps.get:∀ {xs:List T} {vs:List V} {i:Nat} {x:T},Reps K H xs vs->xs[i]? =some x->∃v,vs[i]? =some v/\Rep K H x v
 | [],_,_,_,_,e=>by simp at e
 | y::ys,_,0,x,⟨v,ws,r1,r2,r3⟩,e=>by subst r1;simp at e;subst e;exact⟨v,rfl,r2⟩
 | y::ys,_,i+1,x,⟨v,ws,r1,r2,r3⟩,e=>by subst r1;simpa using Reps.get r3 (by simpa using e)
theorem Reps.get':∀ {xs:List T} {vs:List V} {i:Nat} {v:V},Reps K H xs vs->vs[i]? =some v->∃x,xs[i]? =some x/\Rep K H x v
 | [],_,_,_,h,e=>by cases h;simp at e
 | y::ys,_,0,x,⟨v,ws,r1,r2,r3⟩,e=>by subst r1;simp at e;subst e;exact⟨y,rfl,r2⟩
 | y::ys,_,i+1,x,⟨v,ws,r1,r2,r3⟩,e=>by subst r1;simpa using Reps.get' r3 (by simpa using e)
theorem Reps.append:∀ {xs ys:List T} {vs ws:List V},Reps K H xs vs->Reps K H ys ws->Reps K H (xs++ys) (vs++ws)
 | [],_,_,_,h,h2=>by cases h;exact h2
 | _::_,_,_,_,⟨v,ws,r1,r2,r3⟩,h2=>by subst r1;exact⟨v,_,rfl,r2,Reps.append r3 h2⟩
theorem Reps.one {x:T} {v:V} (r:Rep K H x v):Reps K H [x] [v]:=⟨v,[],rfl,r,rfl⟩
theorem Reps.set {x:T} {v:V} (r:Rep K H x v):∀ {xs:List T} {vs:List V} (i:Nat),Reps K H xs vs->Reps K H (xs.set i x) (vs.set i v)
 | [],_,_,e=>by cases e;rfl
 | _::_,_,0,⟨_,ws,r1,r2,r3⟩=>by subst r1;exact⟨v,ws,rfl,r,r3⟩
 | _::_,_,i+1,⟨u,ws,r1,r2,r3⟩=>by subst r1;exact⟨u,_,rfl,r2,Reps.set r i r3⟩
theorem Reps.take:∀ {xs:List T} {vs:List V} (n:Nat),Reps K H xs vs->Reps K H (xs.take n) (vs.take n)
 | _,_,0,_=>by simp[Reps]
 | [],_,_+1,h=>by cases h;simp[Reps]
 | _::_,_,n+1,⟨u,ws,r1,r2,r3⟩=>by subst r1;exact⟨u,_,rfl,r2,Reps.take n r3⟩
theorem Reps.drop:∀ {xs:List T} {vs:List V} (n:Nat),Reps K H xs vs->Reps K H (xs.drop n) (vs.drop n)
 | _,_,0,h=>h
 | [],_,_+1,h=>by cases h;simp[Reps]
 | _::_,_,n+1,⟨u,ws,r1,r2,r3⟩=>by subst r1;exact Reps.drop n r3
theorem Reps.reverse:∀ {xs:List T} {vs:List V},Reps K H xs vs->Reps K H xs.reverse vs.reverse
 | [],_,h=>by cases h;simp[Reps]
 | _::_,_,⟨u,ws,r1,r2,r3⟩=>by
  subst r1;rw[lK2,lK2];exact (Reps.reverse r3).append ⟨u,[],rfl,r2,rfl⟩
theorem Reps.rep {xs:List T} {vs:List V} (r:Reps K H xs vs):∀n:Nat,Reps K H (List.replicate n xs).flatten (List.replicate n vs).flatten
 | 0=>by simp[Reps]
 | n+1=>by simpa[lKs] using r.append (Reps.rep r n)
theorem Reps.atI {xs:List T} {vs:List V} {i:Int} {x:T} (r:Reps K H xs vs) (h:atI xs i=some x):∃v,atI vs i=some v/\Rep K H x v:=by
 unfold L2.atI at h ⊢
 rw[<-r.length]
 cases e:ixN xs.length i with
 | none=>rw[e] at h;cases h
 | some j=>rw[e] at h;exact r.get h
end
inductive GO where
 | lst (xs:List T) | dct (kvs:List (TKey×T)) | dck (kvs:List (Key×T)) | fdc (kvs:List (TKey×T)) | ins (cn:Str) (fs:List (Str×T))
noncomputable abbrev Gp:=Addr->Option GO
noncomputable def gup (G:Gp) (a:Addr) (o:GO):Gp:=fun b=>if b=a then some o else G b
theorem jJg {G:Gp} {a:Addr} {o:GO}:gup G a o a=some o:=by simp[gup]
theorem jJi {G:Gp} {a b:Addr} {o:GO} (h:b≠a):gup G a o b=G b:=by simp[gup,h]
theorem kK8 {G:Gp} {a:Addr} {o o':GO}:gup (gup G a o) a o'=gup G a o':=by funext b;by_cases h:b=a<;>simp[gup,h]
noncomputable def asL:Option GO->Option (List T)
 | some (.lst xs)=>some xs
 | _=>none
noncomputable def seqT (G:Gp):T->Option (List T)
 | .tup xs=>some xs
 | .scr xs=>some xs
 | .ref a=>asL (G a)
 | _=>none
noncomputable def PKV {κ:Type} (K:PySem.W.Frag) (H:Hp):List (κ×T)->List (κ×V)->Prop:=Paired fun p q=>p.1=q.1/\Rep K H p.2 q.2
noncomputable def GOk (K:PySem.W.Frag) (H:Hp) (a:Addr):GO->Prop
 | .lst xs=>∃vs,H a=some (.lst vs)/\Reps K H xs vs
 | .dct kvs=>∃ws,H a=some (.dT ws)/\PKV K H kvs ws
 | .dck kvs=>∃ws,H a=some (.dK ws)/\PKV K H kvs ws
 | .fdc kvs=>∃ob ws,H a=some (.frz ob (.dT ws))/\PKV K H kvs ws
 | .ins cn fs=>∃C dx ws,H a=some (.ins C dx ws)/\PySem.W.nsIn K mainGlobals cn=some (some (.ref C))/\PKV K H fs ws
def GRel (K:PySem.W.Frag) (H:Hp) (G:Gp):Prop:=∀a o,G a=some o->GOk K H a o
section
variable {K:PySem.W.Frag} {H H':Hp} {G:Gp} {a:Addr}
theorem PKV.mono {κ:Type} {kvs:List (κ×T)} {ws:List (κ×V)} (e:Ext H H') (h:PKV K H kvs ws):PKV K H' kvs ws:=Paired.mapP h fun _ _ z=>⟨z.1,Rep.mono e _ z.2⟩
theorem GOk.move {o:GO} (h:GOk K H a o) (e:Ext H H') (ha:H' a=H a):GOk K H' a o:=by
 cases o with
 | lst xs=>obtain⟨vs,h1,h2⟩:=h;exact⟨vs,ha.trans h1,Reps.mono e _ h2⟩
 | dct kvs=>obtain⟨vs,h1,h2⟩:=h;exact⟨vs,ha.trans h1,h2.mono e⟩
 | dck kvs=>obtain⟨vs,h1,h2⟩:=h;exact⟨vs,ha.trans h1,h2.mono e⟩
 | fdc kvs=>obtain⟨ob,vs,h1,h2⟩:=h;exact⟨ob,vs,ha.trans h1,h2.mono e⟩
 | ins cn fs=>obtain⟨C,dx,ws,h1,h2,h3⟩:=h;exact⟨C,dx,ws,ha.trans h1,h2,h3.mono e⟩
theorem GOk.some {o:GO} (h:GOk K H a o):H a≠none:=by
 cases o with
 | lst xs=>obtain⟨vs,h1,h2⟩:=h;rw[h1];simp
 | dct kvs=>obtain⟨vs,h1,h2⟩:=h;rw[h1];simp
 | dck kvs=>obtain⟨vs,h1,h2⟩:=h;rw[h1];simp
 | fdc kvs=>obtain⟨ob,vs,h1,h2⟩:=h;rw[h1];simp
 | ins cn fs=>obtain⟨C,dx,ws,h1,h2,h3⟩:=h;rw[h1];simp
theorem GRel.fresh (g:GRel K H G) (h:H a=none):G a=none:=by
 cases e:G a with
 | none=>rfl
 | some o=>exact absurd h (g a o e).some
def Soft (o:Option HO):Prop:=o=none\/(∃xs,o=some (.lst xs))\/(∃kvs,o=some (.dK kvs))\/(∃kvs,o=some (.dT kvs))\/∃C dx fs,o=some (.ins C dx fs)
theorem Ext.upd {o:HO} (h:Soft (H a)):Ext H (L2.upd H a o):=by
 refine⟨fun b xs e=> ?_,fun b ob u e=> ?_⟩
 ·rw[jKp];exact e
  rintro rfl;rw[e] at h;rcases h with h | ⟨_,h⟩ | ⟨_,h⟩ | ⟨_,h⟩ | ⟨_,_,_,h⟩<;>cases h
 ·rw[jKp];exact e
  rintro rfl;rw[e] at h;rcases h with h | ⟨_,h⟩ | ⟨_,h⟩ | ⟨_,h⟩ | ⟨_,_,_,h⟩<;>cases h
theorem GRel.upd {o:HO} {go:GO} (g:GRel K H G) (h:Soft (H a)) (n:GOk K (L2.upd H a o) a go):GRel K (L2.upd H a o) (gup G a go):=by
 intro b u e
 by_cases hb:b=a
 ·subst hb;rw[jJg] at e;cases e;exact n
 ·rw[jJi hb] at e;exact (g b u e).move (Ext.upd h) (jKp hb)
theorem Soft.none (h:H a=none):Soft (H a):= .inl h
theorem Soft.lst {xs:List V} (h:H a=some (.lst xs)):Soft (H a):= .inr (.inl ⟨xs,h⟩)
theorem Soft.dT {xs:List (TKey×V)} (h:H a=some (.dT xs)):Soft (H a):= .inr (.inr (.inr (.inl ⟨xs,h⟩)))
theorem Soft.dK {xs:List (Key×V)} (h:H a=some (.dK xs)):Soft (H a):= .inr (.inr (.inl ⟨xs,h⟩))
theorem Soft.ins {C dx:Addr} {fs:List (Str×V)} (h:H a=some (.ins C dx fs)):Soft (H a):= .inr (.inr (.inr (.inr ⟨C,dx,fs,h⟩)))
theorem GRel.tupNew {vs:List V} (g:GRel K H G) (h:H a=Option.none):GRel K (L2.upd H a (.tup vs)) G:=by
 intro b u e
 have hb:b≠a:=by rintro rfl;exact (g b u e).some h
 exact (g b u e).move (Ext.upd (.none h)) (jKp hb)
theorem Rep.tupNew {xs:List T} {vs:List V} (r:Reps K H xs vs) (h:H a=Option.none):Rep K (L2.upd H a (.tup vs)) (.tup xs) (.ref a):=
 ⟨a,vs,rfl,jK7,Reps.mono (Ext.upd (.none h)) _ r⟩
theorem GRel.lstNew {xs:List T} {vs:List V} (g:GRel K H G) (r:Reps K H xs vs) (h:Soft (H a)):GRel K (L2.upd H a (.lst vs)) (gup G a (.lst xs)):=
 g.upd h ⟨vs,jK7,Reps.mono (Ext.upd h) _ r⟩
theorem GRel.lst {xs:List T} (g:GRel K H G) (h:G a=some (.lst xs)):∃vs,H a=some (.lst vs)/\Reps K H xs vs:=g a _ h
end
noncomputable abbrev St3:=List (Option T)
def SRel (K:PySem.W.Frag) (H:Hp) (σ:L2.St) (τ:St3):Prop:=σ.length=τ.length/\∀(i:Nat) (t:T),τ[i]? =some (some t)->∃v,σ[i]? =some (some v)/\Rep K H t v
theorem SRel.mono {K:PySem.W.Frag} {H H':Hp} {σ:L2.St} {τ:St3} (e:Ext H H') (h:SRel K H σ τ):SRel K H' σ τ:=
 ⟨h.1,fun i t q=>let ⟨v,h1,h2⟩:=h.2 i t q;⟨v,h1,Rep.mono e _ h2⟩⟩
theorem SRel.set {K:PySem.W.Frag} {H:Hp} {σ:L2.St} {τ:St3} {t:T} {v:V} (h:SRel K H σ τ) (i:Nat) (r:Rep K H t v):SRel K H (σ.set i (some v)) (τ.set i (some t)):=by
 refine⟨by simp[h.1],fun j u q=> ?_⟩
 by_cases hj:i=j
 ·subst hj
  have hl:i<τ.length:=by
   rcases lJw i τ.length with z | z
   ·exact z
   ·rw[lJh (by simpa using z)] at q;cases q
  rw[lJ2 hl] at q
  cases q
  exact⟨v,by rw[lJ2 (by rw[h.1];exact hl)],r⟩
 ·rw[lJz hj] at q ⊢
  exact h.2 j u q
def Inv3 (X:Cx) (pins:List (Addr×Obj)) (τ:St3) (G:Gp) (H:Hp) (s:Shared):Prop:=∃ σ,Inv X pins σ H s/\SRel X.K H σ τ/\GRel X.K H G
noncomputable abbrev VK3:=T->Gp->Prop
noncomputable abbrev TE3:=St3->Gp->VK3->Prop
noncomputable abbrev TT3:=St3->Gp->(Bool->Gp->Prop)->Prop
noncomputable abbrev TA3:=St3->Gp->(List T->Gp->Prop)->Prop
structure Ends3 where
 nx:St3->Gp->Prop
 rt:VK3
 bk:St3->Gp->Prop:=fun _ _=>False
 ct:St3->Gp->Prop:=fun _ _=>False
noncomputable abbrev TS3:=Ends3->St3->Gp->Prop
def RU (K:PySem.W.Frag) (H:Hp) (t:T) (u:Value):Prop:=∃v,Rep K H t v/\RelV v u
def RUs (K:PySem.W.Frag) (H:Hp) (ts:List T) (us:List Value):Prop:=∃vs,Reps K H ts vs/\Vals vs us
theorem RU.mono {K:PySem.W.Frag} {H H':Hp} {t:T} {u:Value} (e:Ext H H') (h:RU K H t u):RU K H' t u:=let ⟨v,h1,h2⟩:=h;⟨v,Rep.mono e _ h1,h2⟩
def EP3 (X:Cx) (pins:List (Addr×Obj)) (τ:St3) (H:Hp) (Q:VK3) (u:Value) (s':Shared):Prop:=∃t G' H',Ext H H'/\Inv3 X pins τ G' H' s'/\RU X.K H' t u/\Q t G'
def TP3 (X:Cx) (pins:List (Addr×Obj)) (τ:St3) (H:Hp) (Q:Bool->Gp->Prop) (b:Bool) (s':Shared):Prop:=∃G' H',Ext H H'/\Inv3 X pins τ G' H' s'/\Q b G'
def AP3 (X:Cx) (pins:List (Addr×Obj)) (τ:St3) (H:Hp) (Q:List T->Gp->Prop) (us:List Value) (s':Shared):Prop:=∃ts G' H',Ext H H'/\Inv3 X pins τ G' H' s'/\RUs X.K H' ts us/\Q ts G'
def SP3 (X:Cx) (pins:List (Addr×Obj)) (H:Hp) (D:Ends3) (f:Flow) (s':Shared):Prop:=
 match f with
 | .next=>∃ τ' G' H',Ext H H'/\Inv3 X pins τ' G' H' s'/\D.nx τ' G'
 | .brk=>∃ τ' G' H',Ext H H'/\Inv3 X pins τ' G' H' s'/\D.bk τ' G'
 | .cont=>∃ τ' G' H',Ext H H'/\Inv3 X pins τ' G' H' s'/\D.ct τ' G'
 | .ret u=>∃t τ' G' H',Ext H H'/\Inv3 X pins τ' G' H' s'/\RU X.K H' t u/\D.rt t G'
def PE3 (X:Cx) (e:Expr) (t:TE3):Prop:=∀(pins:List (Addr×Obj)) (s:Shared) (τ:St3) (G:Gp) (H:Hp) (Q:VK3),Inv3 X pins τ G H s->t τ G Q->wpAny (model X.prog X.w) X.A (eval e X.env) (EP3 X pins τ H Q) X.xe s
def PT3 (X:Cx) (e:Expr) (t:TT3):Prop:=∀(pins:List (Addr×Obj)) (s:Shared) (τ:St3) (G:Gp) (H:Hp) (Q:Bool->Gp->Prop),Inv3 X pins τ G H s->t τ G Q->wpAny (model X.prog X.w) X.A (isTrue e X.env (eval e X.env)) (TP3 X pins τ H Q) X.xe s
def PW3 (X:Cx) (e:Expr) (t:TT3):Prop:=∀(whole:Sem Value) (pins:List (Addr×Obj)) (s:Shared) (τ:St3) (G:Gp) (H:Hp) (Q:Bool->Gp->Prop),Inv3 X pins τ G H s->t τ G Q->wpAny (model X.prog X.w) X.A (isTrue e X.env whole) (TP3 X pins τ H Q) X.xe s
theorem PW3.pt {X:Cx} {e:Expr} {t:TT3} (h:PW3 X e t):PT3 X e t:=h _
def PA3 (X:Cx) (es:List Expr) (t:TA3):Prop:=∀(pos:Pos) (pins:List (Addr×Obj)) (s:Shared) (τ:St3) (G:Gp) (H:Hp) (Q:List T->Gp->Prop),Inv3 X pins τ G H s->t τ G Q->wpAny (model X.prog X.w) X.A (spliced (backTo pos (starEach es X.env))) (AP3 X pins τ H Q) X.xe s
def PS3 (X:Cx) (st:Stmt) (t:TS3):Prop:=∀(pins:List (Addr×Obj)) (s:Shared) (τ:St3) (G:Gp) (H:Hp) (D:Ends3),Inv3 X pins τ G H s->t D τ G->wpAny (model X.prog X.w) X.A (exec st X.env) (SP3 X pins H D) X.xe s
def PSs3 (X:Cx) (st:List Stmt) (t:TS3):Prop:=∀(pins:List (Addr×Obj)) (s:Shared) (τ:St3) (G:Gp) (H:Hp) (D:Ends3),Inv3 X pins τ G H s->t D τ G->wpAny (model X.prog X.w) X.A (execs st X.env) (SP3 X pins H D) X.xe s
section
variable {X:Cx} {pins:List (Addr×Obj)} {τ:St3} {G:Gp} {H H1:Hp} {s:Shared} {C:Prop}
theorem EP3.el {Q:VK3} {u:Value} (h:EP3 X pins τ H Q u s) (k:∀t G' H',Ext H H'->Inv3 X pins τ G' H' s->RU X.K H' t u->Q t G'->C):C:=let ⟨t,G',H',a,b,c,d⟩:=h;k t G' H' a b c d
theorem AP3.el {Q:List T->Gp->Prop} {u:List Value} (h:AP3 X pins τ H Q u s) (k:∀t G' H',Ext H H'->Inv3 X pins τ G' H' s->RUs X.K H' t u->Q t G'->C):C:=let ⟨t,G',H',a,b,c,d⟩:=h;k t G' H' a b c d
theorem TP3.el {Q:Bool->Gp->Prop} {u:Bool} (h:TP3 X pins τ H Q u s) (k:∀G' H',Ext H H'->Inv3 X pins τ G' H' s->Q u G'->C):C:=let ⟨G',H',a,b,c⟩:=h;k G' H' a b c
theorem Inv3.el (h:Inv3 X pins τ G H s) (k:∀ σ,Inv X pins σ H s->SRel X.K H σ τ->GRel X.K H G->C):C:=let ⟨σ,a,b,c⟩:=h;k σ a b c
theorem RU.el {K:PySem.W.Frag} {t:T} {u:Value} (h:RU K H t u) (k:∀v,Rep K H t v->RelV v u->C):C:=let ⟨v,a,b⟩:=h;k v a b
theorem RUs.el {K:PySem.W.Frag} {t:List T} {u:List Value} (h:RUs K H t u) (k:∀v,Reps K H t v->Vals v u->C):C:=let ⟨v,a,b⟩:=h;k v a b
end
section
variable {X:Cx} {pins:List (Addr×Obj)} {τ:St3} {G:Gp} {H H1:Hp} {s:Shared}
theorem EP3.ext {Q:VK3} {u:Value} (e:Ext H H1) (h:EP3 X pins τ H1 Q u s):EP3 X pins τ H Q u s:=let ⟨t,G',H',a,b⟩:=h;⟨t,G',H',e.trans a,b⟩
theorem TP3.ext {Q:Bool->Gp->Prop} {u:Bool} (e:Ext H H1) (h:TP3 X pins τ H1 Q u s):TP3 X pins τ H Q u s:=let ⟨G',H',a,b⟩:=h;⟨G',H',e.trans a,b⟩
theorem SP3.ext {D:Ends3} {f:Flow} (e:Ext H H1) (h:SP3 X pins H1 D f s):SP3 X pins H D f s:=by
 cases f with
 | next=>obtain⟨τ',G',H',a,b⟩:=h;exact⟨τ',G',H',e.trans a,b⟩
 | brk=>obtain⟨τ',G',H',a,b⟩:=h;exact⟨τ',G',H',e.trans a,b⟩
 | cont=>obtain⟨τ',G',H',a,b⟩:=h;exact⟨τ',G',H',e.trans a,b⟩
 | ret u=>obtain⟨t,τ',G',H',a,b⟩:=h;exact⟨t,τ',G',H',e.trans a,b⟩
theorem bin3 {a b:Expr} {ta tb:TE3} (ha:PE3 X a ta) (hb:PE3 X b tb) {R:T->T->Gp->Prop} (I:Inv3 X pins τ G H s) (h:ta τ G fun x G1=>tb τ G1 fun y G2=>R x y G2)
  {α:Type} {Q:α->Shared->Prop} {f:Value->Value->Sem α}
  (hf:∀v u s2 x y G2 H2,Ext H H2->Inv3 X pins τ G2 H2 s2->RU X.K H2 x v->RU X.K H2 y u->R x y G2->wpAny (model X.prog X.w) X.A (f v u) Q X.xe s2):
  wpAny (model X.prog X.w) X.A (eval a X.env) (fun v s₁=>wpAny (model X.prog X.w) X.A (eval b X.env) (fun u s₂=>wpAny (model X.prog X.w) X.A (f v u) Q X.xe s₂) X.xe s₁) X.xe s:=by
 refine thn (ha pins s τ G H _ I h) fun v s1 w_=>w_.el fun x G1 H1 e1 I1 r1 q1=> ?_
 refine thn (hb pins s1 τ G1 H1 _ I1 q1) fun u s2 w_=>w_.el fun y G2 H2 e2 I2 r2 q2=> ?_
 exact hf v u s2 x y G2 H2 (e1.trans e2) I2 (r1.mono e2) r2 q2
noncomputable def up (K:PySem.W.Frag) (H:Hp) (Q:VK3):VK:=fun v H'=>∃t G',Ext H H'/\GRel K H' G'/\Rep K H' t v/\Q t G'
theorem jX7 {σ:L2.St} {Q:VK3} {u:Value} (hs:SRel X.K H σ τ) (h:EP X pins σ (up X.K H Q) u s):EP3 X pins τ H Q u s:=
 let ⟨v,H',I',r',t,G',e,g',rt,q⟩:=h
 ⟨t,G',H',e,⟨σ,I',hs.mono e,g'⟩,⟨v,rt,r'⟩,q⟩
end
section
variable {X:Cx} {pos:Pos}
noncomputable def tVar (i:Nat):TE3:=fun τ G Q=>∃t,τ[i]? =some (some t)/\Q t G
noncomputable def tC (t:T):TE3:=fun _ G Q=>Q t G
theorem jJc (i:Nat) {x:Str} (hN:X.N[i]? =some x:=by rfl) (hv:Vis X.env.scope x:=by first | exact Or.inl rfl | exact Or.inr (Or.inl rfl) | exact Or.inr (Or.inr rfl))
  (hd:(x == ("__debug__":Str))=false:=by decide) (hcd:(x == ("__classdict__":Str))=false:=by decide):PE3 X (.Name x pos) (tVar i):=by
 rintro pins s τ G H Q ⟨σ,I,hs,hg⟩ ⟨t,e,q⟩
 obtain⟨v,ev,rv⟩:=hs.2 i t e
 exact thn (pe_var hN hv hd hcd pins s σ H (up X.K H Q) I ⟨v,ev,t,G,.refl H,hg,rv,q⟩) fun u s' h=>jX7 hs h
theorem jJo {i j}:PE3 X (.Constant (.int i) j pos) (tC (.int i)):=fun pins s τ G H Q ⟨σ,I,hs,hg⟩ q=>
 thn (pe_int pins s σ H (up X.K H Q) I ⟨.int i,G,.refl H,hg,rfl,q⟩) fun u s' h=>jX7 hs h
theorem e_bl {b j}:PE3 X (.Constant (.bool b) j pos) (tC (.bl b)):=fun pins s τ G H Q ⟨σ,I,hs,hg⟩ q=>
 thn (pe_bl pins s σ H (up X.K H Q) I ⟨.bl b,G,.refl H,hg,rfl,q⟩) fun u s' h=>jX7 hs h
theorem jZq {j}:PE3 X (.Constant .none j pos) (tC .non):=fun pins s τ G H Q ⟨σ,I,hs,hg⟩ q=>
 thn (pe_non pins s σ H (up X.K H Q) I ⟨.non,G,.refl H,hg,rfl,q⟩) fun u s' h=>jX7 hs h
end
noncomputable abbrev R3:=T->T->Gp->VK3->Prop
def Op3 (X:Cx) (f:Value->Value->Sem Value) (r:R3):Prop:=
 ∀(pins:List (Addr×Obj)) (s:Shared) (τ:St3) (G:Gp) (H:Hp) (x y:T) (v u:Value) (Q:VK3),Inv3 X pins τ G H s->RU X.K H x v->RU X.K H y u->r x y G Q->wpAny (model X.prog X.w) X.A (f v u) (EP3 X pins τ H Q) X.xe s
def Un3 (X:Cx) (f:Value->Sem Value) (r:T->Gp->VK3->Prop):Prop:=
 ∀(pins:List (Addr×Obj)) (s:Shared) (τ:St3) (G:Gp) (H:Hp) (x:T) (v:Value) (Q:VK3),Inv3 X pins τ G H s->RU X.K H x v->r x G Q->wpAny (model X.prog X.w) X.A (f v) (EP3 X pins τ H Q) X.xe s
def Call3 (X:Cx) (f:Value) (r:List T->Gp->VK3->Prop):Prop:=
 ∀(pins:List (Addr×Obj)) (s:Shared) (τ:St3) (G:Gp) (H:Hp) (xs:List T) (us:List Value) (Q:VK3),Inv3 X pins τ G H s->RUs X.K H xs us->r xs G Q->wpAny (model X.prog X.w) X.A (call f us) (EP3 X pins τ H Q) X.xe s
def Mt3 (X:Cx) (id:String) (r:T->List T->Gp->VK3->Prop):Prop:=
 ∀(pins:List (Addr×Obj)) (s:Shared) (τ:St3) (G:Gp) (H:Hp) (x:T) (xs:List T) (v:Value) (us:List Value) (Q:VK3),Inv3 X pins τ G H s->RU X.K H x v->RUs X.K H xs us->r x xs G Q->
  wpAny (model X.prog X.w) X.A (call (.builtin id) (v::us)) (EP3 X pins τ H Q) X.xe s
def Ix3 (X:Cx) (r:R3):Prop:=
 ∀(value slice:Expr) (pins:List (Addr×Obj)) (s:Shared) (τ:St3) (G:Gp) (H:Hp) (x y:T) (v u:Value) (Q:VK3),Inv3 X pins τ G H s->RU X.K H x v->RU X.K H y u->r x y G Q->
  subscripted slice false v u=operate [v,u] (getItem v u)->wpAny (model X.prog X.w) X.A (subscriptTail value slice v u) (EP3 X pins τ H Q) X.xe s
def Set3 (X:Cx) (r:T->T->T->Gp->(Gp->Prop)->Prop):Prop:=
 ∀(pins:List (Addr×Obj)) (s:Shared) (τ:St3) (G:Gp) (H:Hp) (o i v:T) (ov iv u:Value) (Q:Gp->Prop),Inv3 X pins τ G H s->RU X.K H o ov->RU X.K H i iv->RU X.K H v u->r o i v G Q->
  wpAny (model X.prog X.w) X.A (setItem ov iv u) (fun _ s'=>∃G' H',Ext H H'/\Inv3 X pins τ G' H' s'/\Q G') X.xe s
def Tru3 (X:Cx) (r:T->Gp->(Bool->Gp->Prop)->Prop):Prop:=
 ∀(pins:List (Addr×Obj)) (s:Shared) (τ:St3) (G:Gp) (H:Hp) (x:T) (v:Value) (Q:Bool->Gp->Prop),Inv3 X pins τ G H s->RU X.K H x v->r x G Q->wpAny (model X.prog X.w) X.A (truthy v) (TP3 X pins τ H Q) X.xe s
section
variable {X:Cx}
theorem Op3.of {f:Value->Value->Sem Value} {r:R2} {r3:R3} (h:OpR X f r)
  (hr:∀H G x y a b Q,GRel X.K H G->Rep X.K H x a->Rep X.K H y b->r3 x y G Q->r a b H (up X.K H Q)):Op3 X f r3:=by
 rintro pins s τ G H x y v u Q ⟨σ,I,hs,hg⟩ ⟨a,ra,rv⟩ ⟨b,rb,ru⟩ q
 exact thn (h pins s σ H a b v u _ I rv ru (hr H G x y a b Q hg ra rb q)) fun u s' h=>jX7 hs h
theorem Un3.of {f:Value->Sem Value} {r:V->Hp->VK->Prop} {r3:T->Gp->VK3->Prop} (h:UnR X f r)
  (hr:∀H G x a Q,GRel X.K H G->Rep X.K H x a->r3 x G Q->r a H (up X.K H Q)):Un3 X f r3:=by
 rintro pins s τ G H x v Q ⟨σ,I,hs,hg⟩ ⟨a,ra,rv⟩ q
 exact thn (h pins s σ H a v _ I rv (hr H G x a Q hg ra q)) fun u s' h=>jX7 hs h
theorem Call3.of {f:Value} {r:List V->Hp->VK->Prop} {r3:List T->Gp->VK3->Prop} (h:kX1 X f r)
  (hr:∀H G xs as Q,GRel X.K H G->Reps X.K H xs as->r3 xs G Q->r as H (up X.K H Q)):Call3 X f r3:=by
 rintro pins s τ G H xs us Q ⟨σ,I,hs,hg⟩ ⟨as,ra,rv⟩ q
 exact thn (h pins s σ H as us _ I rv (hr H G xs as Q hg ra q)) fun u s' h=>jX7 hs h
theorem Mt3.of {id:String} {r:V->List V->Hp->VK->Prop} {r3:T->List T->Gp->VK3->Prop} (h:MtR X id r)
  (hr:∀H G x xs a as Q,GRel X.K H G->Rep X.K H x a->Reps X.K H xs as->r3 x xs G Q->r a as H (up X.K H Q)):Mt3 X id r3:=by
 rintro pins s τ G H x xs v us Q ⟨σ,I,hs,hg⟩ ⟨a,ra,rv⟩ ⟨as,ras,rvs⟩ q
 exact thn (h pins s σ H a as v us _ I rv rvs (hr H G x xs a as Q hg ra ras q)) fun u s' h=>jX7 hs h
theorem Ix3.of {r:R2} {r3:R3} (h:IxR X r)
  (hr:∀H G x y a b Q,GRel X.K H G->Rep X.K H x a->Rep X.K H y b->r3 x y G Q->r a b H (up X.K H Q)):Ix3 X r3:=by
 rintro value slice pins s τ G H x y v u Q ⟨σ,I,hs,hg⟩ ⟨a,ra,rv⟩ ⟨b,rb,ru⟩ q hh
 exact thn (h value slice pins s σ H a b v u _ I rv ru (hr H G x y a b Q hg ra rb q) hh) fun u s' h=>jX7 hs h
theorem Set3.of {t:TSet} {r3:T->T->T->Gp->(Gp->Prop)->Prop} (h:PSet X t)
  (hr:∀H G o i v a b c Q,GRel X.K H G->Rep X.K H o a->Rep X.K H i b->Rep X.K H v c->r3 o i v G Q->t a b c H (fun H'=>∃G',Ext H H'/\GRel X.K H' G'/\Q G')):Set3 X r3:=by
 rintro pins s τ G H o i v ov iv u Q ⟨σ,I,hs,hg⟩ ⟨a,ra,rv⟩ ⟨b,rb,ru⟩ ⟨c,rc,rw'⟩ q
 exact thn (h pins s σ H a b c ov iv u _ I rv ru rw' (hr H G o i v a b c Q hg ra rb rc q)) fun _ s' ⟨H',I',G',e,g',q'⟩=>⟨G',H',e,⟨σ,I',hs.mono e,g'⟩,q'⟩
theorem Tru3.of {r:V->Hp->(Bool->Hp->Prop)->Prop} {r3:T->Gp->(Bool->Gp->Prop)->Prop} (h:TruR X r)
  (hr:∀H G x a Q,GRel X.K H G->Rep X.K H x a->r3 x G Q->r a H (fun b H'=>H'=H/\Q b G)):Tru3 X r3:=by
 rintro pins s τ G H x v Q ⟨σ,I,hs,hg⟩ ⟨a,ra,rv⟩ q
 exact thn (h pins s σ H a v _ I rv (hr H G x a Q hg ra q)) fun b s' ⟨H',I',e,q'⟩=>by
  subst e;exact⟨G,H',.refl _,⟨σ,I',hs,hg⟩,q'⟩
theorem Op3.or {f:Value->Value->Sem Value} {r r':R3} (h:Op3 X f r) (h':Op3 X f r'):Op3 X f (fun x y G Q=>r x y G Q\/r' x y G Q):=by
 intro pins s τ G H x y v u Q I rx ry q
 rcases q with q | q
 ·exact h pins s τ G H x y v u Q I rx ry q
 ·exact h' pins s τ G H x y v u Q I rx ry q
noncomputable def rI (C:Int->Int->Prop) (g:Int->Int->T):R3:=fun x y G Q=>∃i j,x= .int i/\y= .int j/\C i j/\Q (g i j) G
noncomputable def rI0 (g:Int->Int->T):R3:=fun x y G Q=>∃i j,x= .int i/\y= .int j/\Q (g i j) G
theorem o_I {f:Value->Value->Sem Value} {C:Int->Int->Prop} {g:Int->Int->V} {g':Int->Int->T} (h:OpR X f (L2.rI C g)) (hg':∀K H i j,Rep K H (g' i j) (g i j)):Op3 X f (rI C g'):=
 Op3.of h fun H G x y a b Q hg ra rb ⟨i,j,ex,ey,c,q⟩=>by
  subst ex;subst ey
  cases (show a= .int i from ra);cases (show b= .int j from rb)
  exact⟨i,j,rfl,rfl,c,g' i j,G,.refl H,hg,hg' _ _ i j,q⟩
theorem o_I0 {f:Value->Value->Sem Value} {g:Int->Int->V} {g':Int->Int->T} (h:OpR X f (L2.rI0 g)) (hg':∀K H i j,Rep K H (g' i j) (g i j)):Op3 X f (rI0 g'):=
 Op3.of h fun H G x y a b Q hg ra rb ⟨i,j,ex,ey,q⟩=>by
  subst ex;subst ey
  cases (show a= .int i from ra);cases (show b= .int j from rb)
  exact⟨i,j,rfl,rfl,g' i j,G,.refl H,hg,hg' _ _ i j,q⟩
theorem o_add:Op3 X (binaryOp .Add) (rI0 fun i j=> .int (i+j)):=o_I0 op_add fun _ _ _ _=>rfl
theorem o_sub:Op3 X (binaryOp .Sub) (rI0 fun i j=> .int (i-j)):=o_I0 op_sub fun _ _ _ _=>rfl
theorem o_mul:Op3 X (binaryOp .Mult) (rI CMul fun i j=> .int (i*j)):=o_I op_mul fun _ _ _ _=>rfl
theorem o_fdiv:Op3 X (binaryOp .FloorDiv) (rI CDiv fun i j=> .int (i / j)):=o_I op_fdiv fun _ _ _ _=>rfl
theorem jZj:Op3 X (binaryOp .Mod) (rI (fun _ j=>0<j) fun i j=> .int (i%j)):=o_I op_mod fun _ _ _ _=>rfl
theorem o_pow:Op3 X (binaryOp .Pow) (rI CPow fun i j=> .int (i^j.toNat)):=o_I op_pow fun _ _ _ _=>rfl
theorem o_lt:Op3 X (compareOp .Lt) (rI0 fun i j=> .bl (decide (i<j))):=o_I0 op_lt fun _ _ _ _=>rfl
theorem o_le:Op3 X (compareOp .LtE) (rI0 fun i j=> .bl (decide (i<=j))):=o_I0 op_le fun _ _ _ _=>rfl
theorem o_gt:Op3 X (compareOp .Gt) (rI0 fun i j=> .bl (decide (j<i))):=o_I0 op_gt fun _ _ _ _=>rfl
theorem o_ge:Op3 X (compareOp .GtE) (rI0 fun i j=> .bl (decide (j<=i))):=o_I0 op_ge fun _ _ _ _=>rfl
noncomputable def isNon:T->Bool
 | .non=>true
 | _=>false
theorem Rep.non_iff {K:PySem.W.Frag} {H:Hp} {x:T} {a:V} (r:Rep K H x a):decide (a= .non)=isNon x:=by
 cases x with
 | non=>cases (show a= .non from r);rfl
 | bl b=>cases (show a= .bl b from r);rfl
 | int b=>cases (show a= .int b from r);rfl
 | str b=>cases (show a= .str b from r);rfl
 | ref b=>cases (show a= .ref b from r);rfl
 | ty b=>cases (show a= .ty b from r);rfl
 | tup b=>obtain⟨_,_,e,_⟩:=(show ∃c vs,a= .ref c/\_ from r);subst e;rfl
 | scr b=>obtain⟨_,_,e,_⟩:=(show ∃c vs,a= .ref c/\_ from r);subst e;rfl
theorem o_isN:Op3 X (compareOp .Is) (fun x y G Q=>y= .non/\Q (.bl (isNon x)) G):=
 Op3.of op_isN fun H G x y a b Q hg ra rb ⟨ey,q⟩=>by
  subst ey;cases (show b= .non from rb)
  exact⟨rfl,.bl (isNon x),G,.refl H,hg,by rw[ra.non_iff];rfl,q⟩
theorem o_notN:Op3 X (compareOp .IsNot) (fun x y G Q=>y= .non/\Q (.bl (!isNon x)) G):=
 Op3.of op_notN fun H G x y a b Q hg ra rb ⟨ey,q⟩=>by
  subst ey;cases (show b= .non from rb)
  exact⟨rfl,.bl (!isNon x),G,.refl H,hg,by rw[ra.non_iff];rfl,q⟩
end
noncomputable def tOp (r:R3) (ta tb:TE3):TE3:=fun τ G Q=>ta τ G fun x G1=>tb τ G1 fun y G2=>r x y G2 Q
noncomputable def tUn (r:T->Gp->VK3->Prop) (ta:TE3):TE3:=fun τ G Q=>ta τ G fun x G1=>r x G1 Q
noncomputable def jJ7 (t:TE3):TT3:=fun τ G Q=>t τ G fun x G1=>∃c,x= .bl c/\Q c G1
noncomputable def tAnd (t u:TT3):TT3:=fun τ G Q=>t τ G fun c G1=>if c=true then u τ G1 Q else Q false G1
noncomputable def tOr (t u:TT3):TT3:=fun τ G Q=>t τ G fun c G1=>if c=true then Q true G1 else u τ G1 Q
noncomputable def tNot (t:TT3):TT3:=fun τ G Q=>t τ G fun c G1=>Q (!c) G1
noncomputable def tAndV (ta tb:TE3):TE3:=fun τ G Q=>ta τ G fun x G1=>∃c,x= .bl c/\if c=true then tb τ G1 Q else Q (.bl false) G1
noncomputable def tOrV (ta tb:TE3):TE3:=fun τ G Q=>ta τ G fun x G1=>∃c,x= .bl c/\if c=true then Q (.bl true) G1 else tb τ G1 Q
noncomputable def tNotV (ta:TE3):TE3:=fun τ G Q=>ta τ G fun x G1=>∃c,x= .bl c/\Q (.bl (!c)) G1
noncomputable def tIf (t:TT3) (ta tb:TE3):TE3:=fun τ G Q=>t τ G fun c G1=>if c=true then ta τ G1 Q else tb τ G1 Q
noncomputable def kUg (r r':R3) (ta tb tc:TE3):TE3:=fun τ G Q=>ta τ G fun x G1=>tb τ G1 fun y G2=>r x y G2 fun z G3=>∃k,z= .bl k/\if k=true then tc τ G3 (fun w G4=>r' y w G4 Q) else Q (.bl false) G3
noncomputable def tNil:TA3:=fun _ G Q=>Q [] G
noncomputable def jJb (ta:TE3) (tr:TA3):TA3:=fun τ G Q=>ta τ G fun x G1=>tr τ G1 fun xs G2=>Q (x::xs) G2
noncomputable def tTup (t:TA3):TE3:=fun τ G Q=>t τ G fun xs G1=>xs.length<=sizeLine/\Q (.tup xs) G1
noncomputable def tLst (t:TA3):TE3:=fun τ G Q=>t τ G fun xs G1=>xs.length<=sizeLine/\∀p,G1 p=none->Q (.ref p) (gup G1 p (.lst xs))
noncomputable def tCB (r:List T->Gp->VK3->Prop) (t:TA3):TE3:=fun τ G Q=>t τ G fun xs G1=>r xs G1 Q
section
variable {X:Cx} {a b c:Expr} {ta tb tc:TE3} {tA tB:TT3} {pos:Pos} {rest es:List Expr} {t:TA3}
theorem e_op {op:Operator} {r:R3} (ho:Op3 X (binaryOp op) r) (ha:PE3 X a ta) (hb:PE3 X b tb):PE3 X (.BinOp a op b pos) (tOp r ta tb):=by
 intro pins s τ G H Q I h
 exact wpAny_BinOp (bin3 ha hb I h fun v u s2 x y G2 H2 e I2 rx ry q=>thn (ho pins s2 τ G2 H2 x y v u Q I2 rx ry q) fun _ _ z=>z.ext e)
theorem e_un {op:UnaryOp} {r:T->Gp->VK3->Prop} (ho:Un3 X (unaryOp op) r) (ha:PE3 X a ta):PE3 X (.UnaryOp op a pos) (tUn r ta):=by
 intro pins s τ G H Q I h
 exact UnaryOp_ (thn (ha pins s τ G H _ I h) fun v s1 w_=>w_.el fun x G1 H1 e I1 r1 q1=>thn (ho pins s1 τ G1 H1 x v Q I1 r1 q1) fun _ _ z=>z.ext e)
theorem kQb {op:CmpOp} {r:R3} (ho:Op3 X (compareOp op) r) (ha:PE3 X a ta) (hb:PE3 X b tb) (hm:behindInMarks op b=false):PE3 X (.Compare a [op] [b] pos) (tOp r ta tb):=by
 intro pins s τ G H Q I h
 exact wpAny_Compare1 (bin3 ha hb I h fun v u s2 x y G2 H2 e I2 rx ry q=>thn (ho pins s2 τ G2 H2 x y v u Q I2 rx ry q) fun _ _ z=>z.ext e) hm
theorem jQv {op:CmpOp} {r:R3} (ho:Op3 X (compareOp op) r) (ha:PE3 X a ta) (hb:PE3 X b tb) (hm:behindInMarks op b=false):PT3 X (.Compare a [op] [b] pos) (jJ7 (tOp r ta tb)):=by
 intro pins s τ G H Q I h
 refine wpAny_isTrue_Compare1 (bin3 ha hb I h fun v u s2 x y G2 H2 e I2 rx ry q=>thn (ho pins s2 τ G2 H2 x y v u _ I2 rx ry q) fun w' s3 w_=>w_.el fun z G3 H3 e3 I3 r3 ⟨k,ez,q3⟩=> ?_) hm
 subst ez
 obtain⟨v',rv',ru'⟩:=r3
 cases (show v'= .bl k from rv');cases ru'
 exact wpAny_truthy_bool ⟨G3,H3,e.trans e3,I3,q3⟩
theorem t_val {e:Expr} {t:TE3} (h:PE3 X e t) (he:∀whole,isTrue e X.env whole=(do let v <-whole;standAt e.pos;holding [v] (truthy v)):=by intro _;rfl):PT3 X e (jJ7 t):=by
 intro pins s τ G H Q I hw
 refine isTrue_plain (thn (h pins s τ G H _ I hw) fun v s1 w_=>w_.el fun x G1 H1 e1 I1 r1 ⟨k,ez,q1⟩=> ?_) (he _)
 subst ez
 obtain⟨v',rv',ru'⟩:=r1
 cases (show v'= .bl k from rv');cases ru'
 exact wpAny_truthy_bool ⟨G1,H1,e1,I1,q1⟩
noncomputable def tTru (r:T->Gp->(Bool->Gp->Prop)->Prop) (t:TE3):TT3:=fun τ G Q=>t τ G fun x G1=>r x G1 Q
theorem t_tru {e:Expr} {t:TE3} {r:T->Gp->(Bool->Gp->Prop)->Prop} (hr:Tru3 X r) (h:PE3 X e t) (he:∀whole,isTrue e X.env whole=(do let v <-whole;standAt e.pos;holding [v] (truthy v)):=by intro _;rfl):PT3 X e (tTru r t):=by
 intro pins s τ G H Q I hw
 exact isTrue_plain (thn (h pins s τ G H _ I hw) fun v s1 w_=>w_.el fun x G1 H1 e1 I1 r1 q1=>thn (hr pins s1 τ G1 H1 x v Q I1 r1 q1) fun _ _ z=>z.ext e1) (he _)
theorem w_and1 (ha:PT3 X a tA):PW3 X (.BoolOp .And [a] pos) tA:=by
 intro wh pins s τ G H Q I h
 refine isTrue_and (thn (ha pins s τ G H Q I h) fun c s1 e=> ?_)
 cases c with
 | true=>exact isTrue_and_nil e
 | false=>exact e
theorem w_or1 (ha:PT3 X a tA):PW3 X (.BoolOp .Or [a] pos) tA:=by
 intro wh pins s τ G H Q I h
 refine isTrue_or (thn (ha pins s τ G H Q I h) fun c s1 e=> ?_)
 cases c with
 | false=>exact isTrue_or_nil e
 | true=>exact e
theorem w_and (ha:PT3 X a tA) (hb:PW3 X (.BoolOp .And (b::rest) pos) tB):PW3 X (.BoolOp .And (a::b::rest) pos) (tAnd tA tB):=by
 intro wh pins s τ G H Q I h
 refine isTrue_and (thn (ha pins s τ G H _ I h) fun c s1 w_=>w_.el fun G1 H1 e1 I1 q1=> ?_)
 cases c with
 | true=>exact thn (hb wh pins s1 τ G1 H1 Q I1 q1) fun _ _ z=>z.ext e1
 | false=>exact⟨G1,H1,e1,I1,q1⟩
theorem w_or (ha:PT3 X a tA) (hb:PW3 X (.BoolOp .Or (b::rest) pos) tB):PW3 X (.BoolOp .Or (a::b::rest) pos) (tOr tA tB):=by
 intro wh pins s τ G H Q I h
 refine isTrue_or (thn (ha pins s τ G H _ I h) fun c s1 w_=>w_.el fun G1 H1 e1 I1 q1=> ?_)
 cases c with
 | true=>exact⟨G1,H1,e1,I1,q1⟩
 | false=>exact thn (hb wh pins s1 τ G1 H1 Q I1 q1) fun _ _ z=>z.ext e1
theorem t_not (ha:PT3 X a tA):PT3 X (.UnaryOp .Not a pos) (tNot tA):=by
 intro pins s τ G H Q I h
 exact isTrue_not (thn (ha pins s τ G H (fun c G1=>Q (!c) G1) I h) fun c s1 w_=>w_.el fun G1 H1 e1 I1 q1=>⟨G1,H1,e1,I1,q1⟩)
theorem e_one {op} {t:TE3} (h:PE3 X a t):PE3 X (.BoolOp op [a] pos) t:=fun pins s τ G H Q I hw=>BoolOp_one (h pins s τ G H Q I hw)
theorem e_and (ha:PE3 X a ta) (hb:PE3 X (.BoolOp .And (b::rest) pos) tb):PE3 X (.BoolOp .And (a::b::rest) pos) (tAndV ta tb):=by
 intro pins s τ G H Q I h
 refine BoolOp_and (thn (ha pins s τ G H _ I h) fun v s1 w_=>w_.el fun x G1 H1 e1 I1 r1 ⟨k,ez,q1⟩=> ?_)
 subst ez
 obtain⟨v',rv',ru'⟩:=r1
 cases (show v'= .bl k from rv');cases ru'
 refine wpAny_truthy_bool ?_
 cases k with
 | true=>exact thn (hb pins s1 τ G1 H1 Q I1 q1) fun _ _ z=>z.ext e1
 | false=>exact⟨.bl false,G1,H1,e1,I1,⟨.bl false,rfl,rfl⟩,q1⟩
theorem e_ifExp (hc:PT3 X c tA) (ha:PE3 X a ta) (hb:PE3 X b tb):PE3 X (.IfExp c a b pos) (tIf tA ta tb):=by
 intro pins s τ G H Q I h
 refine IfExp_ (thn (hc pins s τ G H _ I h) fun k s1 w_=>w_.el fun G1 H1 e1 I1 q1=> ?_)
 cases k with
 | true=>exact thn (ha pins s1 τ G1 H1 Q I1 q1) fun _ _ z=>z.ext e1
 | false=>exact thn (hb pins s1 τ G1 H1 Q I1 q1) fun _ _ z=>z.ext e1
theorem jJf:PA3 X [] tNil:=fun _ _ _ _ G H Q I h=>Calls.spliced_nil ⟨[],G,H,.refl H,I,⟨[],rfl,.nil⟩,h⟩
theorem jJa {e:Expr} {te:TE3} (ha:PE3 X e te) (hr:PA3 X es t) (hs:starEach (e::es) X.env=(false,eval e X.env)::starEach es X.env:=by rfl):PA3 X (e::es) (jJb te t):=by
 intro pos pins s τ G H Q I h
 rw[hs]
 show wpAny _ _ (spliced ((false,eval e X.env)::backTo pos (starEach es X.env))) _ _ s
 refine Calls.spliced_cons (thn (ha pins s τ G H _ I h) fun u s1 w_=>w_.el fun x G1 H1 e1 I1 r1 q1=> ?_)
 refine thn (hr pos pins s1 τ G1 H1 _ I1 q1) fun us s2 w_=>w_.el fun xs G2 H2 e2 I2 r_ q2=>r_.el fun vs rs rv=> ?_
 obtain⟨v,rr,rvv⟩:=r1.mono e2
 exact⟨x::xs,G2,H2,e1.trans e2,I2,⟨v::vs,⟨v,vs,rfl,rr,rs⟩,.cons rvv rv⟩,q2⟩
theorem jKz {x1} (h:PA3 X es t):PE3 X (.Tuple es x1 pos) (tTup t):=by
 intro pins s τ G H Q I hq
 refine wpAny_Tuple_spliced (thn (h pos pins s τ G H _ I hq) fun us s1 w_=>w_.el fun xs G1 H1 e1 i_ r_ ⟨z,q⟩=>i_.el fun σ I1 hs1 hg1=>r_.el fun vs rs rv=>⟨by rw[<-rv.length,<-rs.length];exact z,?_⟩)
 have hf:H1 s1.heap.objs.size=none:=I1.hok.fresh (lJd _)
 have e2:Ext H1 (upd H1 s1.heap.objs.size (.tup vs)):= .upd (.none hf)
 refine⟨.tup xs,G1,upd H1 s1.heap.objs.size (.tup vs),e1.trans e2,⟨σ,I1.laid (t':=s1.toks) (fun b u e=>Heap.get?_push_of_some _ e) (lJd _) ?_,hs1.mono e2,hg1.tupNew hf⟩,⟨.ref s1.heap.objs.size,Rep.tupNew rs hf,rfl⟩,q⟩
 exact⟨by rw[<-rs.length];exact z,us,rv,⟨_,Heap.get?_push_size _ rfl,rfl,_,rfl,rfl⟩⟩
theorem jQ7 (h:PA3 X es t):PE3 X (.List es pos) (tLst t):=by
 intro pins s τ G H Q I hq
 refine wpAny_List_spliced (thn (h pos pins s τ G H _ I hq) fun us s1 w_=>w_.el fun xs G1 H1 e1 i_ r_ ⟨z,q⟩=>i_.el fun σ I1 hs1 hg1=>r_.el fun vs rs rv=>⟨by rw[<-rv.length,<-rs.length];exact z,?_⟩)
 have hf:H1 s1.heap.objs.size=none:=I1.hok.fresh (lJd _)
 have e2:Ext H1 (upd H1 s1.heap.objs.size (.lst vs)):= .upd (.none hf)
 refine⟨.ref s1.heap.objs.size,gup G1 s1.heap.objs.size (.lst xs),upd H1 s1.heap.objs.size (.lst vs),e1.trans e2,⟨σ,I1.laid (t':=s1.toks) (fun b u e=>Heap.get?_push_of_some _ e) (lJd _) ?_,hs1.mono e2,hg1.lstNew rs (.none hf)⟩,⟨.ref s1.heap.objs.size,rfl,rfl⟩,q _ (hg1.fresh hf)⟩
 exact⟨by rw[<-rs.length];exact z,us,0,rv,Heap.get?_push_size _ rfl⟩
theorem e_ix {r:R3} (hr:Ix3 X r) (ha:PE3 X a ta) (hb:PE3 X b tb) (hs:PlainIx b):PE3 X (.Subscript a b pos) (tOp r ta tb):=by
 intro pins s τ G H Q I h
 exact Subscript_ (bin3 ha hb I h fun v u s2 x y G2 H2 e I2 rx ry q=>thn (hr a b pins s2 τ G2 H2 x y v u Q I2 rx ry q (hs _ _)) fun _ _ z=>z.ext e)
noncomputable def rIx:R3:=fun x y G Q=>∃xs i t,seqT G x=some xs/\y= .int i/\atI xs i=some t/\Q t G
theorem jYs {o:Option GO} {xs:List T} (h:asL o=some xs):o=some (.lst xs):=by
 cases o with
 | none=>cases h
 | some g=>cases g with
  | lst ys=>cases h;rfl
  | dct _=>cases h
  | dck _=>cases h
  | fdc _=>cases h
  | ins _ _=>cases h
theorem jV3 {K:PySem.W.Frag} {H:Hp} {G:Gp} {x:T} {a:V} {xs:List T} (hg:GRel K H G) (r:Rep K H x a) (h:seqT G x=some xs):
  ∃p vs,a= .ref p/\(SqL K H p vs\/SqT K H p vs)/\Reps K H xs vs:=by
 cases x with
 | tup ys=>cases h;obtain⟨p,vs,e,h1,h2⟩:=(show ∃p vs,a= .ref p/\H p=some (.tup vs)/\Reps K H xs vs from r);exact⟨p,vs,e,.inr (.of h1),h2⟩
 | scr ys=>cases h;obtain⟨p,vs,e,h1,h2⟩:=(show ∃p vs,a= .ref p/\FrL K H p vs/\Reps K H xs vs from r);exact⟨p,vs,e,.inl h1.sq,h2⟩
 | ref p=>
  obtain⟨vs,h1,h2⟩:=hg.lst (jYs h)
  exact⟨p,vs,r,.inl (.of h1),h2⟩
 | non=>cases h
 | bl _=>cases h
 | int _=>cases h
 | str _=>cases h
 | ty _=>cases h
theorem ix_any:Ix3 X rIx:=
 Ix3.of (ix_list.or ix_tup) fun H G x y a b Q hg ra rb ⟨xs,i,t,hx,ey,ht,q⟩=>by
  subst ey;cases (show b= .int i from rb)
  obtain⟨p,vs,e,hq,r⟩:=jV3 hg ra hx
  subst e
  obtain⟨v,hv,rv⟩:=r.atI ht
  rcases hq with hq | hq
  ·exact .inl ⟨p,vs,i,v,rfl,rfl,hq,hv,t,G,.refl H,hg,rv,q⟩
  ·exact .inr ⟨p,vs,i,v,rfl,rfl,hq,hv,t,G,.refl H,hg,rv,q⟩
theorem jJv {id:String} {r:List T->Gp->VK3->Prop} {x:Str} {p:Pos} {e:Expr} (hc:Call3 X (.builtin id) r) (hg:Gl X x) (hm:X.mg x=none) (hv:bootBuiltins x=some (.builtin id)) (ha:PA3 X (e::es) t) (hn:x≠"__name__":=by decide) (hdb:(x == ("__debug__":Str))=false:=by decide)
  (he:starEach (e::es) X.env=(false,eval e X.env)::starEach es X.env:=by rfl) (hpl:(backTo pos (starEach es X.env)).any (·.1)=false:=by rfl):PE3 X (.Call (.Name x p) (e::es) [] pos) (tCB r t):=by
 intro pins s τ G H Q I h
 obtain⟨σ,I0,hs0,hg0⟩:=_root_.id I
 refine wpAny_Call_Name_kw (jVm I0 hg hm hv ?_ hn hdb)
 exact PyProof.Rows.callWith_builtin1 (thn (ha pos pins s τ G H _ I h) fun us s1 w_=>w_.el fun xs G1 H1 e1 I1 r1 q1=>thn (hc pins s1 τ G1 H1 xs us Q I1 r1 q1) fun _ _ z=>z.ext e1) he hpl
theorem jKl {T0:String} {r:List T->Gp->VK3->Prop} {x:Str} {p:Pos} {e:Expr} (hc:Call3 X (.type T0) r) (hg:Gl X x) (hm:X.mg x=none) (hv:bootBuiltins x=some (.type T0)) (ha:PA3 X (e::es) t) (hn:x≠"__name__":=by decide) (hdb:(x == ("__debug__":Str))=false:=by decide)
  (he:starEach (e::es) X.env=(false,eval e X.env)::starEach es X.env:=by rfl) (hpl:(backTo pos (starEach es X.env)).any (·.1)=false:=by rfl):PE3 X (.Call (.Name x p) (e::es) [] pos) (tCB r t):=by
 intro pins s τ G H Q I h
 obtain⟨σ,I0,hs0,hg0⟩:=_root_.id I
 refine wpAny_Call_Name_kw (jVm I0 hg hm hv ?_ hn hdb)
 exact PyProof.Rows.callWith_type1 (thn (ha pos pins s τ G H _ I h) fun us s1 w_=>w_.el fun xs G1 H1 e1 I1 r1 q1=>thn (hc pins s1 τ G1 H1 xs us Q I1 r1 q1) fun _ _ z=>z.ext e1) he hpl
theorem jXj {K:PySem.W.Frag} {H:Hp} {x:T} {vs:List V} (h:Reps K H [x] vs):∃v,vs=[v]/\Rep K H x v:=by
 obtain⟨v,ws,rfl,r,e⟩:=h;cases e;exact⟨v,rfl,r⟩
theorem reps2 {K:PySem.W.Frag} {H:Hp} {x y:T} {vs:List V} (h:Reps K H [x,y] vs):∃v w,vs=[v,w]/\Rep K H x v/\Rep K H y w:=by
 obtain⟨v,ws,rfl,r,w,ws2,rfl,r2,e⟩:=h;cases e;exact⟨v,w,rfl,r,r2⟩
noncomputable def rLen:List T->Gp->VK3->Prop:=fun xs G Q=>∃x ys,xs=[x]/\seqT G x=some ys/\Q (.int ys.length) G
theorem jQh:Call3 X (.builtin "len") rLen:=
 Call3.of call_len_seq fun H G xs as Q hg ra ⟨x,ys,e,hx,q⟩=>by
  subst e
  obtain⟨v,rfl,rv⟩:=jXj ra
  obtain⟨p,vs,rfl,hq,r⟩:=jV3 hg rv hx
  exact⟨p,vs,rfl,hq,.int ys.length,G,.refl H,hg,by rw[r.length];rfl,q⟩
noncomputable def rAbs:List T->Gp->VK3->Prop:=fun xs G Q=>∃i,xs=[.int i]/\Q (.int (if i<0 then -i else i)) G
theorem c_abs:Call3 X (.builtin "abs") rAbs:=
 Call3.of call_abs fun H G xs as Q hg ra ⟨i,e,q⟩=>by
  subst e
  obtain⟨v,rfl,rv⟩:=jXj ra
  cases (show v= .int i from rv)
  exact⟨i,rfl,.int _,G,.refl H,hg,rfl,q⟩
noncomputable def rMax:List T->Gp->VK3->Prop:=fun xs G Q=>∃i j,xs=[.int i,.int j]/\Q (.int (if j>i then j else i)) G
theorem c_max (hc:X.calm=true):Call3 X (.builtin "max") rMax:=
 Call3.of (call_max2 hc) fun H G xs as Q hg ra ⟨i,j,e,q⟩=>by
  subst e
  obtain⟨v,w,rfl,rv,rw'⟩:=reps2 ra
  cases (show v= .int i from rv);cases (show w= .int j from rw')
  exact⟨i,j,rfl,.int _,G,.refl H,hg,rfl,q⟩
noncomputable def rIntOf:List T->Gp->VK3->Prop:=fun xs G Q=>∃k,xs=[.bl k]/\Q (.int (if k then 1 else 0)) G
theorem c_int:Call3 X (.type "int") rIntOf:=
 Call3.of call_int1 fun H G xs as Q hg ra ⟨k,e,q⟩=>by
  subst e
  obtain⟨v,rfl,rv⟩:=jXj ra
  cases (show v= .bl k from rv)
  exact .inr ⟨k,rfl,.int _,G,.refl H,hg,rfl,q⟩
noncomputable def rDivmod:List T->Gp->VK3->Prop:=fun xs G Q=>∃i j,xs=[.int i,.int j]/\CDiv i j/\Q (.tup [.int (i / j),.int (i%j)]) G
theorem c_divmod:Call3 X (.builtin "divmod") rDivmod:=
 Call3.of call_divmod fun H G xs as Q hg ra ⟨i,j,e,c,q⟩=>by
  subst e
  obtain⟨v,w,rfl,rv,rw'⟩:=reps2 ra
  cases (show v= .int i from rv);cases (show w= .int j from rw')
  exact⟨i,j,rfl,c,fun p hp=>⟨.tup [.int (i / j),.int (i%j)],G,.upd (.none hp),hg.tupNew hp,Rep.tupNew ⟨_,_,rfl,rfl,_,_,rfl,rfl,rfl⟩ hp,q⟩⟩
noncomputable def kVs:List T->Gp->VK3->Prop:=fun xs G Q=>∃x ys,xs=[x]/\seqT G x=some ys/\∀p,G p=none->Q (.ref p) (gup G p (.lst ys))
theorem c_list:Call3 X (.type "list") kVs:=
 Call3.of call_list_of fun H G xs as Q hg ra ⟨x,ys,e,hx,q⟩=>by
  subst e
  obtain⟨v,rfl,rv⟩:=jXj ra
  obtain⟨p,vs,rfl,hq,r⟩:=jV3 hg rv hx
  exact⟨p,vs,rfl,hq,fun l hl=>⟨.ref l,_,.upd (.none hl),hg.lstNew r (.none hl),rfl,q l (hg.fresh hl)⟩⟩
noncomputable def jK0:List T->Gp->VK3->Prop:=fun xs G Q=>∃x ys,xs=[x]/\seqT G x=some ys/\Q (.tup ys) G
theorem jUm:Call3 X (.type "tuple") jK0:=
 Call3.of kXy fun H G xs as Q hg ra ⟨x,ys,e,hx,q⟩=>by
  subst e
  obtain⟨v,rfl,rv⟩:=jXj ra
  obtain⟨p,vs,rfl,hq,r⟩:=jV3 hg rv hx
  cases x with
  | tup zs=>
   cases hx
   obtain⟨p',vs',e',h1,h2⟩:=(show ∃p' vs',V.ref p= .ref p'/\H p'=some (.tup vs')/\Reps X.K H ys vs' from rv)
   cases e'
   exact⟨p,vs',rfl,.inr ⟨.of h1,.tup ys,G,.refl H,hg,⟨p,vs',rfl,h1,h2⟩,q⟩⟩
  | scr zs=>
   cases hx
   obtain⟨p',vs',e',h1,h2⟩:=(show ∃p' vs',V.ref p= .ref p'/\FrL X.K H p' vs'/\Reps X.K H ys vs' from rv)
   cases e'
   exact⟨p,vs',rfl,.inl ⟨h1.sq,fun l hl=>⟨.tup ys,G,.upd (.none hl),hg.tupNew hl,Rep.tupNew h2 hl,q⟩⟩⟩
  | ref p'=>
   cases (show V.ref p= .ref p' from rv)
   obtain⟨vs',h1,h2⟩:=hg.lst (jYs hx)
   exact⟨p,vs',rfl,.inl ⟨.of h1,fun l hl=>⟨.tup ys,G,.upd (.none hl),hg.tupNew hl,Rep.tupNew h2 hl,q⟩⟩⟩
  | non=>cases hx
  | bl _=>cases hx
  | int _=>cases hx
  | str _=>cases hx
  | ty _=>cases hx
noncomputable def rCat:R3:=fun x y G Q=>∃p q xs ys,x= .ref p/\y= .ref q/\G p=some (.lst xs)/\G q=some (.lst ys)/\xs.length+ys.length<=sizeLine/\∀l,G l=none->Q (.ref l) (gup G l (.lst (xs++ys)))
noncomputable def rRep:R3:=fun x y G Q=>∃p xs n,x= .ref p/\y= .int n/\G p=some (.lst xs)/\n.toNat * xs.length<=sizeLine/\n<2^62/\ -(2^62)<n/\∀l,G l=none->Q (.ref l) (gup G l (.lst (List.replicate n.toNat xs).flatten))
def tyT (G:Gp) (T0:String) (x:T):Prop:=match x with
 | .str _=>T0="str"
 | .int _=>T0="int"
 | .ref p=>(T0="list"/\∃xs,G p=some (.lst xs))\/(T0="dict"/\((∃kvs,G p=some (.dck kvs))\/∃kvs,G p=some (.dct kvs)))
 | _=>False
theorem tyT.of {K:PySem.W.Frag} {H:Hp} {G:Gp} {T0:String} {x:T} {a:V} (hg:GRel K H G) (r:Rep K H x a) (h:tyT G T0 x):tyV K T0 a H:=by
 cases x with
 | str z=>cases (show a= .str z from r);exact h
 | int z=>cases (show a= .int z from r);exact h
 | ref p=>
  cases (show a= .ref p from r)
  rcases h with ⟨e,xs,h⟩ | ⟨e,h⟩
  ·obtain⟨vs,h1,_⟩:=hg.lst h;exact .inl ⟨e,vs,.of h1⟩
  ·refine .inr (.inr (.inl ⟨e,?_⟩))
   rcases h with ⟨kvs,h⟩ | ⟨kvs,h⟩
   ·obtain⟨ws,h1,_⟩:=hg p _ h;exact .inl ⟨ws,h1⟩
   ·obtain⟨ws,h1,_⟩:=hg p _ h;exact .inr ⟨ws,h1⟩
 | non=>exact False.elim h
 | bl _=>exact False.elim h
 | ty _=>exact False.elim h
 | tup _=>exact False.elim h
 | scr _=>exact False.elim h
noncomputable def tBM (T0:String) (r:T->List T->Gp->VK3->Prop) (to:TE3) (t:TA3):TE3:=fun τ G Q=>to τ G fun x G1=>tyT G1 T0 x/\t τ G1 fun xs G2=>r x xs G2 Q
theorem e_bm {T0 id:String} {r:T->List T->Gp->VK3->Prop} {o e:Expr} {name:Str} {apos cpos:Pos} {to:TE3} (pa:PlainAttrs T0) (slot:Slot T0 name id) (hty:typeOf (.builtin id)=pure (.type "method_descriptor")) (hm:Mt3 X id r) (ho:PE3 X o to) (ha:PA3 X (e::es) t)
  (hbase:attributeBase o name X.env (eval o X.env)=eval o X.env:=by rfl)
  (hfew:((backTo cpos (starEach (e::es) X.env)).all (fun x=> !x.1)&&(backToKw cpos (keywordEach [] X.env)).all (fun x=>x.1.isSome)
   &&decide ((e::es).length+([]:List Keyword).length+(if ([]:List Keyword).isEmpty then 0 else 1)<30))=true:=by rfl)
  (hline:(apos.endLine == cpos.line)=true:=by rfl) (hs:starEach (e::es) X.env=(false,eval e X.env)::starEach es X.env:=by rfl) (hplain:(backTo cpos (starEach es X.env)).any (·.1)=false:=by rfl):
  PE3 X (.Call (.Attribute o name apos) (e::es) [] cpos) (tBM T0 r to t):=by
 intro pins s τ G H Q I h
 refine wpAny_Call_method_late hbase hfew hline rfl (thn (ho pins s τ G H _ I h) fun v s1 w_=>w_.el fun x G1 H1 e1 I1 r1 ⟨ty,q1⟩=> ?_)
 obtain⟨σ,I0,hs0,hg0⟩:=_root_.id I1
 obtain⟨a0,ra0,rv0⟩:=_root_.id r1
 obtain⟨h1,h2⟩:=tyV_is I0 rv0 (tyT.of hg0 ra0 ty)
 refine⟨T0,id,pa,slot,hty,h1,h2,?_⟩
 have hA:=ha cpos pins s1 τ G1 H1 _ I1 q1
 rw[hs] at hA ⊢
 refine Calls.callWith_builtin (by show (false||(backTo cpos (starEach es X.env)).any (·.1))=false;rw[hplain]<;>rfl) (Calls.evalArgs_plain ?_)
 exact thn hA fun us s2 w_=>w_.el fun vs G2 H2 e2 I2 r2 q2=>thn (hm pins s2 τ G2 H2 x vs v us Q I2 (r1.mono e2) r2 q2) fun _ _ z=>(z.ext e2).ext e1
noncomputable def jK3:T->List T->Gp->VK3->Prop:=fun x xs G Q=>∃p ys y,x= .ref p/\xs=[y]/\G p=some (.lst ys)/\ys.length<sizeLine/\Q .non (gup G p (.lst (ys++[y])))
noncomputable def rSetL:T->T->T->Gp->(Gp->Prop)->Prop:=fun o i v G Q=>∃p xs k j,o= .ref p/\i= .int k/\G p=some (.lst xs)/\ixN xs.length k=some j/\Q (gup G p (.lst (xs.set j v)))
theorem s_list:Set3 X rSetL:=
 Set3.of set_list fun H G o i v a b c Q hg ra rb rc ⟨p,xs,k,j,eo,ei,hp,hj,q⟩=>by
  subst eo;subst ei
  cases (show a= .ref p from ra);cases (show b= .int k from rb)
  obtain⟨vs,h1,h2⟩:=hg.lst hp
  exact⟨p,vs,k,j,rfl,rfl,h1,by rw[<-h2.length];exact hj,_,.upd (.lst h1),hg.lstNew (h2.set rc j) (.lst h1),q⟩
end
section
variable {X:Cx}
theorem o_cat:Op3 X (binaryOp .Add) rCat:=
 Op3.of op_cat fun H G x y a b Q hg ra rb ⟨p,q,xs,ys,ex,ey,hp,hq,hz,h⟩=>by
  subst ex;subst ey
  cases (show a= .ref p from ra);cases (show b= .ref q from rb)
  obtain⟨vs,h1,h2⟩:=hg.lst hp
  obtain⟨ws,h3,h4⟩:=hg.lst hq
  exact⟨p,q,vs,ws,rfl,rfl,h1,h3,by rw[<-h2.length,<-h4.length];exact hz,fun l hl=>⟨.ref l,_,.upd (.none hl),hg.lstNew (h2.append h4) (.none hl),rfl,h l (hg.fresh hl)⟩⟩
theorem o_rep:Op3 X (binaryOp .Mult) rRep:=
 Op3.of op_rep fun H G x y a b Q hg ra rb ⟨p,xs,n,ex,ey,hp,hz,h1,h2,h⟩=>by
  subst ex;subst ey
  cases (show a= .ref p from ra);cases (show b= .int n from rb)
  obtain⟨vs,h3,h4⟩:=hg.lst hp
  refine⟨p,n,vs,rfl,rfl,h3,by omega,by omega,by rw[<-h4.length,Nat.mul_comm];exact hz,fun l hl=>⟨.ref l,_,.upd (.none hl),hg.lstNew (h4.rep _) (.none hl),rfl,h l (hg.fresh hl)⟩⟩
theorem jQk:Mt3 X "list.append" jK3:=
 Mt3.of mt_append fun H G x xs a as Q hg ra ras ⟨p,ys,y,ex,exs,hp,hz,q⟩=>by
  subst ex;subst exs
  cases (show a= .ref p from ra)
  obtain⟨v,rfl,rv⟩:=jXj ras
  obtain⟨vs,h1,h2⟩:=hg.lst hp
  exact⟨p,vs,v,rfl,rfl,h1,by rw[<-h2.length];exact hz,.non,_,.upd (.lst h1),hg.lstNew (h2.append (.one rv)) (.lst h1),rfl,q⟩
end
noncomputable def jQc:TS3:=fun D τ G=>D.nx τ G
noncomputable def tSeq (t u:TS3):TS3:=fun D τ G=>t {D with nx:=u D} τ G
noncomputable def jQl (te:TE3):TS3:=fun D τ G=>te τ G fun _ G1=>D.nx τ G1
noncomputable def tRet (te:TE3):TS3:=fun D τ G=>te τ G D.rt
noncomputable def tRetN:TS3:=fun D _ G=>D.rt .non G
noncomputable def tIfS (c:TT3) (t u:TS3):TS3:=fun D τ G=>c τ G fun b G1=>if b=true then t D τ G1 else u D τ G1
noncomputable def tBreak:TS3:=fun D τ G=>D.bk τ G
section
variable {X:Cx} {st:Stmt} {rest:List Stmt} {t u:TS3} {e:Expr} {te:TE3} {pos:Pos}
theorem jQb:PSs3 X [] jQc:=fun _ _ τ G H _ I h=>wpAny_execs_nil ⟨τ,G,H,.refl H,I,h⟩
theorem jJe (h1:PS3 X st t) (h2:PSs3 X rest u):PSs3 X (st::rest) (tSeq t u):=by
 intro pins s τ G H D I h
 refine wpAny_execs_cons (thn (h1 pins s τ G H {D with nx:=u D} I h) fun f s1 q=> ?_)
 cases f with
 | next=>
  obtain⟨τ',G',H',e',I',q⟩:=q
  exact thn (h2 pins s1 τ' G' H' D I' q) fun _ _ z=>z.ext e'
 | ret v=>exact q
 | brk=>exact q
 | cont=>exact q
theorem jJm (h1:PS3 X st t):PSs3 X [st] t:=by
 intro pins s τ G H D I h
 refine wpAny_execs_cons (thn (h1 pins s τ G H D I h) fun f s1 q=> ?_)
 cases f with
 | next=>exact wpAny_execs_nil q
 | ret v=>exact q
 | brk=>exact q
 | cont=>exact q
theorem s_break:PS3 X (.Break pos) tBreak:=fun _ _ τ G H _ I h=>wpAny_Break ⟨τ,G,H,.refl H,I,h⟩
theorem jQn (he:PE3 X e te) (hs:swapsWith e none pos.line X.env=pure false:=by rfl):PS3 X (.Expr e pos) (jQl te):=by
 intro pins s τ G H D I h
 obtain⟨σ,I0,hs0,hg0⟩:=id I
 exact wpAny_Expr_any (thn (he pins s τ G H _ I h) fun v s1 w_=>w_.el fun x G1 H1 e1 I1 r1 q1=>⟨τ,G1,H1,e1,I1,q1⟩) I0.quiet hs
theorem jKh (he:PE3 X e te):PS3 X (.Return (some e) pos) (tRet te):=by
 intro pins s τ G H D I h
 exact wpAny_Return_some (thn (he pins s τ G H _ I h) fun v s1 w_=>w_.el fun x G1 H1 e1 I1 r1 q1=>⟨x,τ,G1,H1,e1,I1,r1,q1⟩)
theorem s_if {c:Expr} {a b:List Stmt} {tc:TT3} (hc:PT3 X c tc) (ha:PSs3 X a t) (hb:PSs3 X b u):PS3 X (.If c a b pos) (tIfS tc t u):=by
 intro pins s τ G H D I h
 refine wpAny_If (thn (hc pins s τ G H _ I h) fun d s1 w_=>w_.el fun G1 H1 e1 I1 q1=> ?_)
 cases d with
 | true=>exact thn (ha pins s1 τ G1 H1 D I1 q1) fun _ _ z=>z.ext e1
 | false=>exact thn (hb pins s1 τ G1 H1 D I1 q1) fun _ _ z=>z.ext e1
end
noncomputable abbrev TG3:=T->St3->Gp->(St3->Gp->Prop)->Prop
noncomputable abbrev TGs3:=List T->St3->Gp->(St3->Gp->Prop)->Prop
def GP3 (X:Cx) (pins:List (Addr×Obj)) (H:Hp) (Q:St3->Gp->Prop) (s':Shared):Prop:=∃ τ' G' H',Ext H H'/\Inv3 X pins τ' G' H' s'/\Q τ' G'
def PG3 (X:Cx) (target:Expr) (t:TG3):Prop:=
 ∀(pins:List (Addr×Obj)) (s:Shared) (τ:St3) (G:Gp) (H:Hp) (v:T) (u:Value) (Q:St3->Gp->Prop),Inv3 X pins τ G H s->RU X.K H v u->t v τ G Q->
  wpAny (model X.prog X.w) X.A (assign target X.env u) (fun _ s'=>GP3 X pins H Q s') X.xe s
def PGs3 (X:Cx) (ts:List Expr) (t:TGs3):Prop:=
 ∀(pins:List (Addr×Obj)) (s:Shared) (τ:St3) (G:Gp) (H:Hp) (vs:List T) (us:List Value) (Q:St3->Gp->Prop),Inv3 X pins τ G H s->RUs X.K H vs us->t vs τ G Q->
  wpAny (model X.prog X.w) X.A (assignInOrder ((assignEach ts X.env).map (·.2)) us) (fun _ s'=>GP3 X pins H Q s') X.xe s
noncomputable def jJj (i:Nat):TG3:=fun v τ G Q=>Q (τ.set i (some v)) G
noncomputable def gNil:TGs3:=fun vs τ G Q=>vs=[]/\Q τ G
noncomputable def jKg (t:TG3) (u:TGs3):TGs3:=fun vs τ G Q=>∃v r,vs=v::r/\t v τ G fun τ' G'=>u r τ' G' Q
noncomputable def gTup (n:Nat) (t:TGs3):TG3:=fun v τ G Q=>∃xs,v= .tup xs/\xs.length=n/\t xs τ G Q
noncomputable def gSub (to ti:TE3) (t:T->T->T->Gp->(Gp->Prop)->Prop):TG3:=fun v τ G Q=>to τ G fun o G1=>ti τ G1 fun i G2=>t o i v G2 fun G3=>Q τ G3
noncomputable def tAsg (te:TE3) (g:TG3):TS3:=fun D τ G=>te τ G fun x G1=>g x τ G1 D.nx
section
variable {X:Cx} {pos:Pos}
theorem jJs {i:Nat} {x:Str} (hN:X.N.Nodup) (hi:X.N[i]? =some x:=by rfl) (hx:Loc X.env.scope x:=by first | exact Or.inl rfl | exact Or.inr rfl) (hf:X.fn x=true\/X.env.scope.names.lookup x=some .local:=by first | exact .inl rfl | exact .inr rfl):PG3 X (.Name x pos) (jJj i):=by
 rintro pins s τ G H v u Q ⟨σ,I,hs,hg⟩ ⟨a,ra,rv⟩ h
 exact wpAny_assign_Name (kVe I hN hi hx rv (fun s' I'=>⟨_,G,H,.refl H,⟨_,I',hs.set i ra,hg⟩,h⟩) hf)
theorem jUf:PGs3 X [] gNil:=by
 rintro pins s τ G H vs us Q I ⟨as,r,rv⟩ ⟨e,h⟩
 subst e
 cases (show as=[] from r)
 cases rv
 exact assignInOrder_nil ⟨τ,G,H,.refl H,I,h⟩
theorem jJ2 {e:Expr} {es:List Expr} {t:TG3} {u:TGs3} (h1:PG3 X e t) (h2:PGs3 X es u)
  (hs:(assignEach (e::es) X.env).map (·.2)=assign e X.env::(assignEach es X.env).map (·.2):=by rfl):PGs3 X (e::es) (jKg t u):=by
 rintro pins s τ G H vs us Q I ⟨as,r,rv⟩ ⟨v,vr,e1,h⟩
 subst e1
 obtain⟨a,ar,rfl,ra,rar⟩:=r
 cases rv with
 | cons q qq=>
  rw[hs]
  refine assignInOrder_cons (thn (h1 pins s τ G H v _ _ I ⟨a,ra,q⟩ h) fun _ s1 ⟨τ1,G1,H1,e1,I1,q1⟩=> ?_)
  exact thn (h2 pins s1 τ1 G1 H1 vr _ Q I1 ⟨ar,Reps.mono e1 _ rar,qq⟩ q1) fun _ s2 ⟨τ2,G2,H2,e2,z⟩=>⟨τ2,G2,H2,e1.trans e2,z⟩
theorem jXb {es:List Expr} {k:Nat} {t:TGs3} {n:Nat} (hc:X.calm=true) (h:PGs3 X es t)
  (hn:(assignEach es X.env).length=n:=by rfl) (hst:(assignEach es X.env).findIdx? (·.1)=none:=by rfl):PG3 X (.Tuple es k pos) (gTup n t):=by
 rintro pins s τ G H v u Q ⟨σ,I,hs,hg⟩ ⟨a,ra,rv⟩ ⟨xs,ev,hl,hw⟩
 subst ev
 obtain⟨p,vs,e1,h1,r1⟩:=(show ∃p vs,a= .ref p/\H p=some (.tup vs)/\Reps X.K H xs vs from ra)
 subst e1
 cases rv
 obtain⟨its,rv,ht,hz⟩:=I.tuple (.of h1)
 refine assign_Tuple_tuple (I.ok.hd hc) ht (by simp[hn,<-hl,r1.length,rv.length]) hst fun h' hx=> ?_
 have I1:Inv X pins σ H {s with heap:=h'}:=I.kept (t':=s.toks) fun b o e=>hx b o (lJl (Heap.lt_size e)) e
 exact h pins _ τ G H xs _ Q ⟨σ,I1,hs,hg⟩ ⟨vs,r1,by simpa using rv⟩ hw
theorem jY4 {o i:Expr} {to ti:TE3} {t:T->T->T->Gp->(Gp->Prop)->Prop} (ho:PE3 X o to) (hi:PE3 X i ti) (hs:Set3 X t)
  (ha:∀v,assign (.Subscript o i pos) X.env v=(do
   let ov <-holding [v] (eval o X.env)
   let iv <-holding [v,ov] (eval i X.env)
   standAt pos
   holding [v,ov,iv] (setItem ov iv v)
   release [v,ov,iv] []):=by intro _;rfl):PG3 X (.Subscript o i pos) (gSub to ti t):=by
 intro pins s τ G H v u Q I r h
 rw[ha]
 refine wpAny_bind (wpAny_holding (thn (ho pins s τ G H _ I h) fun ov s1 w_=>w_.el fun x G1 H1 e1 I1 r1 q1=> ?_))
 refine wpAny_bind (wpAny_holding (thn (hi pins s1 τ G1 H1 _ I1 q1) fun iv s2 w_=>w_.el fun y G2 H2 e2 I2 r2 q2=> ?_))
 refine wpAny_bind (wpAny_standAt (wpAny_bind (wpAny_holding (thn (hs pins s2 τ G2 H2 x y v ov iv u _ I2 (r1.mono e2) r2 (r.mono (e1.trans e2)) q2) fun _ s3 ⟨G3,H3,e3,I3,q3⟩=> ?_))))
 exact wpAny_release ⟨τ,G3,H3,(e1.trans e2).trans e3,I3,q3⟩
theorem jYu {tg e:Expr} {te:TE3} {g:TG3} (he:PE3 X e te) (hg:PG3 X tg g) (hs:swapsWithSole [tg] e pos.line X.env=pure false:=by rfl) (hw:swappedStores [tg] e X.env=pure none:=by rfl)
  (h1:(assignEach [tg] X.env).map (·.2)=[assign tg X.env]:=by rfl):PS3 X (.Assign [tg] e pos) (tAsg te g):=by
 intro pins s τ G H D I h
 refine wpAny_Assign_stores (thn (he pins s τ G H _ I h) fun v s1 w_=>w_.el fun x G1 H1 e1 I1 r1 q1=> ?_) hs hw
 rw[h1]
 exact thn (hg pins s1 τ G1 H1 x v _ I1 r1 q1) fun _ s2 ⟨τ2,G2,H2,e2,q⟩=>⟨τ2,G2,H2,e1.trans e2,q⟩
theorem jJ5 {i:Nat} {x:Str} {e:Expr} {te:TE3} {pos':Pos} (hN:X.N.Nodup) (he:PE3 X e te) (hi:X.N[i]? =some x:=by rfl) (hx:Loc X.env.scope x:=by first | exact Or.inl rfl | exact Or.inr rfl)
  (hs:swapsWith e (some (.Name x pos')) pos.line X.env=pure false:=by rfl) (hf:X.fn x=true\/X.env.scope.names.lookup x=some .local:=by first | exact .inl rfl | exact .inr rfl):
  PS3 X (.Assign [.Name x pos'] e pos) (tAsg te (jJj i)):=by
 intro pins s τ G H D I h
 refine wpAny_Assign_Name (thn (he pins s τ G H _ I h) fun v s1 w_=>w_.el fun y G1 H1 e1 i_ r_ q1=>i_.el fun σ I1 hs1 hg1=>r_.el fun a ra rv=> ?_) hs
 exact kVe I1 hN hi hx rv (fun s2 I2=>⟨_,G1,H1,e1,⟨_,I2,hs1.set i ra,hg1⟩,q1⟩) hf
noncomputable def tPar (i j:Nat) (ta:TA3):TS3:=fun D τ G=>ta τ G fun vs G1=>∃v w,vs=[v,w]/\D.nx ((τ.set i (some v)).set j (some w)) G1
noncomputable def jVq (c:TT3) (tb:TS3):TS3:=fun D τ G=>∃W:Nat->St3->Gp->Prop,(∃m,W m τ G)/\∀m τ G,W m τ G->
 c τ G fun b G1=>if b=true then ∃N:St3->Gp->Prop,(∀ τ' G',N τ' G'->∃m',m'<m/\W m' τ' G')/\tb {D with nx:=N,ct:=N,bk:=D.nx} τ G1 else D.nx τ G1
theorem kKg {c:Expr} {body:List Stmt} {tc:TT3} {tb:TS3} (hp:PassesOwn (model X.prog X.w) X.A X.env X.xe) (hc:PT3 X c tc) (hb:PSs3 X body tb):PS3 X (.While c body [] pos) (jVq tc tb):=by
 intro pins s τ G H D I h
 obtain⟨W,⟨m0,w0⟩,turn⟩:=h
 refine wpAny_While (codeAny_whileLoop (fun n s'=>∃ τ' G' H',Ext H H'/\Inv3 X pins τ' G' H' s'/\W n τ' G') ?_ m0 ⟨τ,G,H,.refl H,I,w0⟩)
 rintro n s1 ⟨τ1,G1,H1,e1,I1,w1⟩
 refine wpAny_passesOwn hp (thn (hc pins s1 τ1 G1 H1 _ I1 (turn n τ1 G1 w1)) fun b s2 w_=>w_.el fun G2 H2 e2 I2 q2=> ?_)
 cases b with
 | true=>
  obtain⟨N,hN,q2⟩:=q2
  rw[if_pos rfl]
  refine wpAny_passesOwn hp (thn (hb pins s2 τ1 G2 H2 _ I2 q2) fun f s3 q3=> ?_)
  cases f with
  | next=>
   obtain⟨τ3,G3,H3,e3,I3,n3⟩:=q3
   obtain⟨m',hm,w3⟩:=hN τ3 G3 n3
   exact⟨m',hm,τ3,G3,H3,(e1.trans e2).trans e3,I3,w3⟩
  | cont=>
   obtain⟨τ3,G3,H3,e3,I3,n3⟩:=q3
   obtain⟨m',hm,w3⟩:=hN τ3 G3 n3
   exact⟨m',hm,τ3,G3,H3,(e1.trans e2).trans e3,I3,w3⟩
  | brk=>exact SP3.ext (f:= .next) (e1.trans e2) q3
  | ret v=>exact SP3.ext (f:= .ret v) (e1.trans e2) q3
 | false=>
  rw[if_neg lJf]
  exact wpAny_execs_nil ⟨τ1,G2,H2,e1.trans e2,I2,q2⟩
end
def Items (K:PySem.W.Frag) (H0:Hp) (J:It) (xs:List T) (stay:Gp->Prop):Prop:=
 ∀i H G,Ext H0 H->GRel K H G->stay G->(i<xs.length->J.go i H)/\(xs.length<=i->J.stop i H)/\(i<xs.length->∀x H',J.yld i H x H'->Ext H H'/\GRel K H' G/\∃t,xs[i]? =some t/\Rep K H' t x)
noncomputable abbrev TI3:=St3->Gp->(List T->(Gp->Prop)->Gp->Prop)->Prop
def PIE3 (X:Cx) (pins:List (Addr×Obj)) (τ:St3) (H:Hp) (tg:Expr) (R:List T->(Gp->Prop)->Gp->Prop) (itv:Value) (s2:Shared):Prop:=
 ∃(it:Addr) (fp:List Addr) (tn:Nat->Heap->Prop) (J:It) (xs:List T) (stay:Gp->Prop) (G':Gp) (H':Hp),itv= .ref it/\Ext H H'/\Inv3 X pins τ G' H' s2/\Turn X.prog X.w X.K tg J fp it tn/\tn 0 s2.heap/\(∀b∈fp,FpOk X pins H' b)/\
  Items X.K H' J xs stay/\R xs stay G'
def PI3 (X:Cx) (tg iter:Expr) (wi:TI3):Prop:=
 ∀(pins:List (Addr×Obj)) (s:Shared) (τ:St3) (G:Gp) (H:Hp) (R:List T->(Gp->Prop)->Gp->Prop),Inv3 X pins τ G H s->wi τ G R->
  wpAny (model X.prog X.w) X.A (eval iter X.env) (fun v s1=>wpAny (model X.prog X.w) X.A (pyIter v) (PIE3 X pins τ H tg R) X.xe s1) X.xe s
noncomputable def tFor (wi:TI3) (g:TG3) (tb:TS3):TS3:=fun D τ G=>wi τ G fun xs stay G1=>∃P:Nat->St3->Gp->Prop,P 0 τ G1/\(∀i τ G,i<=xs.length->P i τ G->stay G)/\
 (∀i x τ G,xs[i]? =some x->P i τ G->g x τ G fun τ2 G2=>tb {D with nx:=P (i+1),ct:=P (i+1),bk:=D.nx} τ2 G2)/\∀ τ G,P xs.length τ G->D.nx τ G
section
variable {X:Cx} {tg:Expr} {pos:Pos}
theorem jQz {iter:Expr} {body:List Stmt} {wi:TI3} {g:TG3} {tb:TS3} (hp:PassesOwn (model X.prog X.w) X.A X.env X.xe) (hc:X.calm=true) (hi:PI3 X tg iter wi) (hg:PG3 X tg g) (hb:PSs3 X body tb)
  (hs:∀x,foldedSetIterable iter X.env x=pure x:=by intro _;rfl):PS3 X (.For tg iter body [] pos) (tFor wi g tb):=by
 intro pins s τ G H D I h
 refine wpAny_For (thn (hi pins s τ G H _ I h) fun v s1 h1=>thn h1 fun itv s2 h2=> ?_) hs
 obtain⟨it,fp,tn,J,xs,stay,G2,H2,e,eH,I2,T0,st2,f2,IT,P,p0,hstay,turn,fin⟩:=h2
 subst e
 have stat:∀ {H':Hp},(∀b∈fp,H' b=none)->∀b∈fp,FpOk X pins H' b:=fun hn b hb=>⟨hn b hb,(f2 b hb).2⟩
 refine codeAny_forLoop_any (fun n s'=>∃i τ' G' H',n=xs.length-i/\i<=xs.length/\Ext H2 H'/\Inv3 X pins τ' G' H' s'/\tn i s'.heap/\(∀b∈fp,H' b=none)/\P i τ' G') ?_ xs.length ⟨0,τ,G2,H2,rfl,lJg _,.refl _,I2,st2,fun b hb=>(f2 b hb).1,p0⟩
 rintro n s3 ⟨i,τ3,G3,H3,en,hi3,e3,⟨σ3,I3,hs3,hg3⟩,st3,fr3,p3⟩
 obtain⟨go,stop,yl⟩:=IT i H3 G3 e3 hg3 (hstay i τ3 G3 hi3 p3)
 by_cases hlt:i<xs.length
 ·refine wpAny_passesOwn hp (thn (T0.item X rfl rfl rfl hc i pins s3 σ3 H3 X.xe I3 (stat fr3) st3 (go hlt)) fun r s4 ⟨u,hr,h4⟩=> ?_)
  subst hr
  refine wpAny_passesOwn hp (thn h4 fun _ s5 ⟨x,H5,I5,r5,y5,st5,fr5⟩=> ?_)
  obtain⟨e5,g5,t,ht,rt⟩:=yl hlt x H5 y5
  have I5':=I5.pinned (stat fr5) (T0.obj _ _ st5)
  refine wpAny_passesOwn hp (thn (hg _ s5 τ3 G3 H5 t u _ ⟨σ3,I5',hs3.mono e5,g5⟩ ⟨x,rt,r5⟩ (turn i t τ3 G3 ht p3)) fun _ s6 ⟨τ6,G6,H6,e6,I6,q6⟩=> ?_)
  refine wpAny_passesOwn hp (thn (hb _ s6 τ6 G6 H6 _ I6 q6) fun f s7 q7=> ?_)
  have e36:Ext H2 H6:=(e3.trans e5).trans e6
  have again:∀ {τ7:St3} {G7:Gp} {H7:Hp},Ext H6 H7->Inv3 X (pins++jYx fp s5.heap) τ7 G7 H7 s7->P (i+1) τ7 G7->
    ∃m,m<n/\∃i τ' G' H',m=xs.length-i/\i<=xs.length/\Ext H2 H'/\Inv3 X pins τ' G' H' s7/\tn i s7.heap/\(∀b∈fp,H' b=none)/\P i τ' G':=fun {τ7 G7 H7} e7 ⟨σ7,I7,hs7,hg7⟩ p7=>by
   refine⟨xs.length-(i+1),by omega,i+1,τ7,G7,H7,rfl,hlt,e36.trans e7,⟨σ7,I7.unpinned,hs7,hg7⟩,T0.keep _ _ _ st5 fun b hb o e=>(I7.pin (b,o) (lJ3 _ (lJ3 _ (jYm hb e)))).1,fun b hb=> ?_,p7⟩
   obtain⟨o,e,d⟩:=T0.obj _ _ st5 b hb
   exact (I7.pin (b,o) (lJ3 _ (lJ3 _ (jYm hb e)))).2.1
  have un:∀ {τ7:St3} {G7:Gp} {H7:Hp},Inv3 X (pins++jYx fp s5.heap) τ7 G7 H7 s7->Inv3 X pins τ7 G7 H7 s7:=fun ⟨σ7,I7,a,b⟩=>⟨σ7,I7.unpinned,a,b⟩
  cases f with
  | next=>obtain⟨τ7,G7,H7,e7,I7,n7⟩:=q7;exact again e7 I7 n7
  | cont=>obtain⟨τ7,G7,H7,e7,I7,n7⟩:=q7;exact again e7 I7 n7
  | brk=>obtain⟨τ7,G7,H7,e7,I7,q7⟩:=q7;exact⟨τ7,G7,H7,(eH.trans e36).trans e7,un I7,q7⟩
  | ret v=>obtain⟨x7,τ7,G7,H7,e7,I7,r7,q7⟩:=q7;exact⟨x7,τ7,G7,H7,(eH.trans e36).trans e7,un I7,r7,q7⟩
 ·have ei:i=xs.length:=by omega
  refine wpAny_passesOwn hp (thn (T0.done X rfl rfl rfl hc i pins s3 σ3 H3 X.xe I3 (stat fr3) st3 (stop (by omega))) fun r s4 ⟨hr,I4⟩=> ?_)
  subst hr;subst ei
  exact wpAny_execs_nil ⟨τ3,G3,H3,eH.trans e3,⟨σ3,I4,hs3,hg3⟩,fin τ3 G3 p3⟩
noncomputable def iSeq (tl:TE3):TI3:=fun τ G R=>tl τ G fun x G1=>∃xs,seqT G1 x=some xs/\R xs (fun G'=>seqT G' x=some xs) G1
theorem jV2 {l:Expr} {tl:TE3} (hl:PE3 X l tl):PI3 X tg l (iSeq tl):=by
 intro pins s τ G H R I h
 refine thn (hl pins s τ G H _ I h) fun v s1 w_=>w_.el fun x G1 H1 e1 i_ r_ ⟨xs,hx,q⟩=>i_.el fun σ I1 hs1 hg1=>r_.el fun a ra rv=> ?_
 obtain⟨p,vs,e,hq,r⟩:=jV3 hg1 ra hx
 subst e
 cases rv
 have fpk:∀b∈[s1.heap.objs.size],FpOk X pins H1 b:=fun b hb=>by
  have e:b=s1.heap.objs.size:=by simpa using hb
  subst e
  exact I1.fpOk (lJd _) (I1.hok.fresh (lJd _))
 rcases hq with hq | hq
 ·obtain⟨its,rv,pl,hz⟩:=I1.list hq
  refine wpAny_pyIter_list pl.isList ?_
  refine⟨s1.heap.objs.size,[s1.heap.objs.size],_,_,xs,fun G'=>seqT G' x=some xs,G1,H1,rfl,e1,⟨σ,I1.kept (t':=s1.toks) fun b o e=>Heap.get?_push_of_some _ e,hs1,hg1⟩,turn_list p _,⟨_,Heap.get?_push_size _ rfl,rfl,rfl⟩,fpk,?_,q⟩
  intro i H2 G2 e2 g2 st
  have ra2:=Rep.mono e2 _ ra
  have now:∃ws,SqL X.K H2 p ws/\Reps X.K H2 xs ws:=by
   cases x with
   | scr ys=>cases hx;obtain⟨p',ws,ep,h1,h2⟩:=(show ∃p' ws,V.ref p= .ref p'/\FrL X.K H2 p' ws/\Reps X.K H2 xs ws from ra2);cases ep;exact⟨ws,h1.sq,h2⟩
   | ref p'=>cases (show V.ref p= .ref p' from ra);obtain⟨ws,h1,h2⟩:=g2.lst (jYs st);exact⟨ws,.of h1,h2⟩
   | tup ys=>
    obtain⟨p',ws,ep,h1,h2⟩:=(show ∃p' ws,V.ref p= .ref p'/\H1 p'=some (.tup ws)/\Reps X.K H1 ys ws from ra)
    cases ep
    exfalso
    obtain⟨its',_,pl',_⟩:=I1.tuple (.of h1)
    obtain⟨o,n,ho,hc,_⟩:=pl
    obtain⟨o',ho',hc',_⟩:=pl'
    rw[ho] at ho';cases ho'
    rw[hc] at hc';exact absurd hc' (by decide)
   | non=>cases hx
   | bl _=>cases hx
   | int _=>cases hx
   | str _=>cases hx
   | ty _=>cases hx
  obtain⟨ws,h1,h2⟩:=now
  have hlen:=h2.length
  refine⟨fun hi=> ?_,fun hi=>⟨ws,h1,by omega⟩,fun _ y H' ⟨eH,hy⟩=> ?_⟩
  ·exact⟨ws,ws[i]'(by omega),h1,by simp[hlen▸hi]⟩
  ·subst eH
   obtain⟨t,ht,rt⟩:=h2.get' (hy ws h1)
   exact⟨.refl _,g2,t,ht,rt⟩
 ·obtain⟨its,rv,pl,hz⟩:=I1.tuple hq
  refine wpAny_pyIter_tuple (show s1.heap.IsTuple p its.toArray from pl) ?_
  refine⟨s1.heap.objs.size,[s1.heap.objs.size],_,_,xs,fun G'=>seqT G' x=some xs,G1,H1,rfl,e1,⟨σ,I1.kept (t':=s1.toks) fun b o e=>Heap.get?_push_of_some _ e,hs1,hg1⟩,turn_tuple p _,⟨_,Heap.get?_push_size _ rfl,rfl,rfl⟩,fpk,?_,q⟩
  intro i H2 G2 e2 g2 st
  have ra2:=Rep.mono e2 _ ra
  have now:∃ws,H2 p=some (.tup ws)/\Reps X.K H2 xs ws:=by
   cases x with
   | tup ys=>cases hx;obtain⟨p',ws,ep,h1,h2⟩:=(show ∃p' ws,V.ref p= .ref p'/\H2 p'=some (.tup ws)/\Reps X.K H2 xs ws from ra2);cases ep;exact⟨ws,h1,h2⟩
   | scr ys=>
    obtain⟨p',ws,ep,h1,h2⟩:=(show ∃p' ws,V.ref p= .ref p'/\FrL X.K H1 p' ws/\Reps X.K H1 ys ws from ra)
    cases ep
    exfalso
    obtain⟨its',_,pl',_⟩:=I1.list h1.sq
    obtain⟨o,n,ho,hc,_⟩:=pl'
    obtain⟨o',ho',hc',_⟩:=pl
    rw[ho] at ho';cases ho'
    rw[hc] at hc';exact absurd hc' (by decide)
   | ref p'=>
    cases (show V.ref p= .ref p' from ra)
    obtain⟨ws,h1,h2⟩:=hg1.lst (jYs hx)
    exfalso
    obtain⟨its',_,pl',_⟩:=I1.list (.of h1)
    obtain⟨o,n,ho,hc,_⟩:=pl'
    obtain⟨o',ho',hc',_⟩:=pl
    rw[ho] at ho';cases ho'
    rw[hc] at hc';exact absurd hc' (by decide)
   | non=>cases hx
   | bl _=>cases hx
   | int _=>cases hx
   | str _=>cases hx
   | ty _=>cases hx
  obtain⟨ws,h1,h2⟩:=now
  have hlen:=h2.length
  refine⟨fun hi=> ?_,fun hi=>⟨ws,.of h1,by omega⟩,fun _ y H' ⟨eH,hy⟩=> ?_⟩
  ·exact⟨ws,ws[i]'(by omega),.of h1,by simp[hlen▸hi]⟩
  ·subst eH
   obtain⟨t,ht,rt⟩:=h2.get' (hy ws (.of h1))
   exact⟨.refl _,g2,t,ht,rt⟩
noncomputable def rngT (lo:Int) (n:Nat):List T:=(List.range n).map fun (k:Nat)=>T.int (lo+k)
noncomputable def jQo (ta:TA3):TI3:=fun τ G R=>ta τ G fun vs G1=>∃j:Int,vs=[.int j]/\ -(2^62)<=j/\j<2^62/\R (rngT 0 j.toNat) (fun _=>True) G1
noncomputable def iRng2 (ta:TA3):TI3:=fun τ G R=>ta τ G fun vs G1=>∃i j:Int,vs=[.int i,.int j]/\(-(2^62)<=i/\i<2^62/\ -(2^62)<=j/\j<2^62)/\R (rngT i (j-i).toNat) (fun _=>True) G1
theorem items_rng {K:PySem.W.Frag} {H:Hp} (lo:Int) (n:Nat):Items K H (Itr lo n) (rngT lo n) fun _=>True:=by
 intro i H' G e g _
 have hl:(rngT lo n).length=n:=by simp[rngT]
 refine⟨fun h=>by rw[hl] at h;exact h,fun h=>by rw[hl] at h;exact h,fun hi x H2 ⟨eH,ex⟩=> ?_⟩
 rw[hl] at hi
 subst eH;subst ex
 exact⟨.refl _,g,.int (lo+i),by simp[rngT,hi],rfl⟩
theorem jQd {a:Expr} {ta:TA3} {p:Pos} (hg:Gl X "range") (hm:X.mg "range"=none) (ha:PA3 X [a] ta) (hs:starEach [a] X.env=[(false,eval a X.env)]:=by rfl):PI3 X tg (.Call (.Name "range" p) [a] [] pos) (jQo ta):=by
 intro pins s τ G H R I h
 obtain⟨σ,I0,hs0,hg0⟩:=id I
 refine Call_ (jVm I0 hg hm boot_range (PyProof.Rows.callWith_type1 (thn (ha pos pins s τ G H _ I h) fun us s1 w_=>w_.el fun xs G1 H1 e1 i_ r_ q1=>i_.el fun σ I1 hs1 hg1=>r_.el fun as ras rvs=> ?_) hs rfl))
 obtain⟨j,e,q1,q2,q⟩:=q1
 subst e
 obtain⟨v,rfl,rv⟩:=jXj ras
 cases (show v= .int j from rv)
 obtain⟨u,rfl,ru⟩:=rvs.one
 obtain⟨t,rfl⟩:=ru
 refine call_range_1 (thn (range_it (tg:=tg) (R:=fun J H'=>J=Itr 0 j.toNat/\H'=H1) I1 (by omega) (by omega) q1 q2 ⟨by simp,rfl⟩) fun itv s2 z=> ?_)
 obtain⟨it,fp,tn,J,H',ei,I2,T0,st,fk,eJ,eH⟩:=z
 subst eJ;subst eH
 exact⟨it,fp,tn,_,rngT 0 j.toNat,fun _=>True,G1,H',ei,e1,⟨σ,I2,hs1,hg1⟩,T0,st,fk,items_rng 0 j.toNat,q⟩
theorem i_range2 {a b:Expr} {ta:TA3} {p:Pos} (hg:Gl X "range") (hm:X.mg "range"=none) (ha:PA3 X [a,b] ta) (hs:starEach [a,b] X.env=[(false,eval a X.env),(false,eval b X.env)]:=by rfl) (hs2:starEach [b] X.env=[(false,eval b X.env)]:=by rfl):
  PI3 X tg (.Call (.Name "range" p) [a,b] [] pos) (iRng2 ta):=by
 intro pins s τ G H R I h
 obtain⟨σ,I0,hs0,hg0⟩:=id I
 refine Call_ (jVm I0 hg hm boot_range (PyProof.Rows.callWith_type1 (thn (ha pos pins s τ G H _ I h) fun us s1 w_=>w_.el fun xs G1 H1 e1 i_ r_ q1=>i_.el fun σ I1 hs1 hg1=>r_.el fun as ras rvs=> ?_) (by rw[hs,hs2]) (by rw[hs2];rfl)))
 obtain⟨i,j,e,⟨q1,q2,q3,q4⟩,q⟩:=q1
 subst e
 obtain⟨v,w,rfl,rv,rw'⟩:=reps2 ras
 cases (show v= .int i from rv);cases (show w= .int j from rw')
 obtain⟨u,u',rfl,ru,ru'⟩:=rvs.two
 obtain⟨t,rfl⟩:=ru
 obtain⟨t',rfl⟩:=ru'
 refine call_range_2 (thn (range_it (tg:=tg) (R:=fun J H'=>J=Itr i (j-i).toNat/\H'=H1) I1 q1 q2 q3 q4 ⟨rfl,rfl⟩) fun itv s2 z=> ?_)
 obtain⟨it,fp,tn,J,H',ei,I2,T0,st,fk,eJ,eH⟩:=z
 subst eJ;subst eH
 exact⟨it,fp,tn,_,rngT i (j-i).toNat,fun _=>True,G1,H',ei,e1,⟨σ,I2,hs1,hg1⟩,T0,st,fk,items_rng i (j-i).toNat,q⟩
end
noncomputable abbrev Sp3:=List T->Gp->VK3->Prop
noncomputable def dn (K:PySem.W.Frag) (n:Nat) (sp:Sp3):Sp:=fun vs H Q _=>vs.length=n/\∃xs G,Reps K H xs vs/\GRel K H G/\sp xs G fun t G'=>∀v H',Ext H H'->GRel K H' G'->Rep K H' t v->Q v H'
def Fn3 (P:Program) (w:World) (K:PySem.W.Frag) (mg:Str->Option Value) (base:Heap) (k:Nat) (f:Addr) (fd:FuncData) (ps:List Str) (sp:Sp3):Prop:=FnOk P w K mg base CX0 k f fd ps (dn K ps.length sp)
noncomputable def jJw (sp:Sp3) (t:TA3):TE3:=fun τ G Q=>t τ G fun xs G1=>sp xs G1 Q
def Mono (sp:Sp3):Prop:=∀xs G Q Q',(∀t G',Q t G'->Q' t G')->sp xs G Q->sp xs G Q'
noncomputable def jJk (N:List Str) (xs:List T):St3:=xs.map some++List.replicate (N.length-xs.length) none
theorem start_rel {K:PySem.W.Frag} {H:Hp} {N:List Str} {xs:List T} {vs:List V} (r:Reps K H xs vs):SRel K H (start N vs) (jJk N xs):=by
 have hl:=r.length
 refine⟨by simp[L2.start,jJk,hl],fun i t h=> ?_⟩
 unfold jJk at h
 unfold L2.start
 by_cases hi:i<xs.length
 ·rw[lJ0 (by simpa using hi),lJj] at h
  cases e:xs[i]? with
  | none=>rw[e] at h;cases h
  | some x=>
   rw[e] at h;cases h
   obtain⟨v,hv,rv⟩:=r.get e
   exact⟨v,by rw[lJ0 (by simp;omega),lJj,hv];rfl,rv⟩
 ·rw[lK7 (by simpa using hi),lQj] at h
  split at h<;>cases h
theorem fn3 {P:Program} {w:World} {K:PySem.W.Frag} {mg:Str->Option Value} {base:Heap} {x qual:Str} {st:Stmt} {f:Addr} {fd:FuncData} {N ps:List Str} {k:Nat} {sp:Sp3} (F:Fun K x qual st f fd) (S:FnScope N ps (jJh st))
  (hbody:∀(cdv:Value) (A:Around) (outer:List Env) (s:Shared) (H:Hp) (E:XK),Room k (A.deeper (envOfC qual (jJh st) s.heap.objs.size f cdv))->
   ∃t,PSs3 (cxOf CX0 P w K mg base N qual (jJh st) f cdv A outer s H E).nox (jJx st) t/\∀xs G Q,sp xs G Q->t {nx:=fun _ G'=>Q .non G',rt:=Q} (jJk N xs) G):Fn3 P w K mg base (k+1) f fd ps sp:=by
 refine Fun.ok (sp:=dn K ps.length sp) F S (fun vs H Q E h=>h.1) fun cdv A outer s H vs Q E hr hsp=> ?_
 obtain⟨t,ht,hq⟩:=hbody cdv A outer s H E hr
 obtain⟨hl,xs,G,rs,hg,hsp⟩:=hsp
 refine⟨fun D σ H1=>D.nx=(fun _ H'=>Q .non H')/\D.rt=Q/\σ=L2.start N vs/\H1=H,?_,rfl,rfl,rfl,rfl⟩
 rintro pins s1 σ1 H1 D I ⟨e1,e2,e3,e4⟩
 subst e3;subst e4
 have I3:Inv3 (cxOf CX0 P w K mg base N qual (jJh st) f cdv A outer s H1 E).nox pins (jJk N xs) G H1 s1:=⟨_,I,start_rel rs,hg⟩
 refine thn (ht pins s1 _ G H1 _ I3 (hq xs G _ hsp)) fun fl s2 z=> ?_
 cases fl with
 | next=>obtain⟨τ',G',H',e',⟨σ',I',a,b⟩,q⟩:=z;exact⟨σ',H',I',by rw[e1];exact q .non H' e' b rfl⟩
 | brk=>obtain⟨τ',G',H',e',_,q⟩:=z;exact q.elim
 | cont=>obtain⟨τ',G',H',e',_,q⟩:=z;exact q.elim
 | ret u=>obtain⟨x',τ',G',H',e',⟨σ',I',a,b⟩,⟨v,rv,ru⟩,q⟩:=z;exact⟨v,σ',H',I',ru,by rw[e2];exact q v H' e' b rv⟩
mutual
noncomputable def dep:T->Nat
 | .tup xs=>deps xs+1
 | _=>0
noncomputable def deps:List T->Nat
 | []=>0
 | x::xs=>max (dep x) (deps xs)
end
mutual
noncomputable def tree:T->Bool
 | .tup xs=>jUg xs
 | .ref _=>false
 | .scr _=>false
 | .ty _=>false
 | .non=>true
 | .bl _=>true
 | .int _=>true
 | .str _=>true
noncomputable def jUg:List T->Bool
 | []=>true
 | x::xs=>tree x&&jUg xs
end
mutual
noncomputable def eqT:T->T->Bool
 | .non,.non=>true
 | .bl a,.bl b=>a == b
 | .bl a,.int b=>(if a then 1 else 0) == b
 | .int a,.bl b=>a == (if b then 1 else 0)
 | .int a,.int b=>a == b
 | .str a,.str b=>a == b
 | .tup xs,.tup ys=>eqTs xs ys
 | _,_=>false
noncomputable def eqTs:List T->List T->Bool
 | [],[]=>true
 | x::xs,y::ys=>eqT x y&&eqTs xs ys
 | [],_::_=>false
 | _::_,[]=>false
end
mutual
theorem eqT_same {K:PySem.W.Frag} {H:Hp}:∀(x y:T) {a:V},tree x=true->tree y=true->Rep K H x a->Rep K H y a->eqT x y=true
 | .non,y,a,hx,hy,r,q=>by
  cases (show a= .non from r)
  cases y<;>first | rfl | (exact absurd (show false=true from hy) lJf) | (cases (show V.non=_ from q)) | (obtain⟨_,_,e,_⟩:=(show ∃c vs,V.non= .ref c/\_ from q);cases e)
 | .bl b,y,a,hx,hy,r,q=>by
  cases (show a= .bl b from r)
  cases y with
  | bl c=>cases (show V.bl b=V.bl c from q);simp[eqT]
  | tup ys=>obtain⟨_,_,e,_⟩:=(show ∃c vs,V.bl b= .ref c/\_ from q);cases e
  | non=>cases (show V.bl b= .non from q)
  | int c=>cases (show V.bl b= .int c from q)
  | str c=>cases (show V.bl b= .str c from q)
  | _=>exact absurd (show false=true from hy) lJf
 | .int b,y,a,hx,hy,r,q=>by
  cases (show a= .int b from r)
  cases y with
  | int c=>cases (show V.int b=V.int c from q);simp[eqT]
  | tup ys=>obtain⟨_,_,e,_⟩:=(show ∃c vs,V.int b= .ref c/\_ from q);cases e
  | non=>cases (show V.int b= .non from q)
  | bl c=>cases (show V.int b= .bl c from q)
  | str c=>cases (show V.int b= .str c from q)
  | _=>exact absurd (show false=true from hy) lJf
 | .str b,y,a,hx,hy,r,q=>by
  cases (show a= .str b from r)
  cases y with
  | str c=>cases (show V.str b=V.str c from q);simp[eqT]
  | tup ys=>obtain⟨_,_,e,_⟩:=(show ∃c vs,V.str b= .ref c/\_ from q);cases e
  | non=>cases (show V.str b= .non from q)
  | bl c=>cases (show V.str b= .bl c from q)
  | int c=>cases (show V.str b= .int c from q)
  | _=>exact absurd (show false=true from hy) lJf
 | .tup xs,y,a,hx,hy,r,q=>by
  obtain⟨p,vs,e,h1,h2⟩:=(show ∃p vs,a= .ref p/\H p=some (.tup vs)/\Reps K H xs vs from r)
  subst e
  cases y with
  | tup ys=>
   obtain⟨p',vs',e',h1',h2'⟩:=(show ∃p' vs',V.ref p= .ref p'/\H p'=some (.tup vs')/\Reps K H ys vs' from q)
   cases e'
   rw[h1] at h1';cases h1'
   exact eqTs_same xs ys (show jUg xs=true from hx) (show jUg ys=true from hy) h2 h2'
  | non=>cases (show V.ref p= .non from q)
  | bl c=>cases (show V.ref p= .bl c from q)
  | int c=>cases (show V.ref p= .int c from q)
  | str c=>cases (show V.ref p= .str c from q)
  | _=>exact absurd (show false=true from hy) lJf
 | .ref _,_,_,hx,_,_,_=>absurd (show false=true from hx) lJf
 | .scr _,_,_,hx,_,_,_=>absurd (show false=true from hx) lJf
 | .ty _,_,_,hx,_,_,_=>absurd (show false=true from hx) lJf
theorem eqTs_same {K:PySem.W.Frag} {H:Hp}:∀(xs ys:List T) {vs:List V},jUg xs=true->jUg ys=true->Reps K H xs vs->Reps K H ys vs->eqTs xs ys=true
 | [],ys,_,_,_,r,q=>by
  cases r
  cases ys with
  | nil=>rfl
  | cons y ys=>obtain⟨_,_,e,_⟩:=q;cases e
 | x::xs,ys,_,hx,hy,⟨v,ws,e,r1,r2⟩,q=>by
  subst e
  cases ys with
  | nil=>cases q
  | cons y ys=>
   obtain⟨v',ws',e',q1,q2⟩:=q
   cases e'
   have hx':tree x=true/\jUg xs=true:=by simpa[jUg] using hx
   have hy':tree y=true/\jUg ys=true:=by simpa[jUg] using hy
   show (eqT x y&&eqTs xs ys)=true
   rw[eqT_same x y hx'.1 hy'.1 r1 q1,eqTs_same xs ys hx'.2 hy'.2 r2 q2]
   rfl
end
section
variable {X:Cx}
noncomputable def rSub:R3:=rI0 fun i j=> .int (i-j)
noncomputable def rMod:R3:=rI (fun _ j=>0<j) fun i j=> .int (i%j)
noncomputable def rFdiv:R3:=rI CDiv fun i j=> .int (i / j)
noncomputable def rPow:R3:=rI CPow fun i j=> .int (i^j.toNat)
noncomputable def rLt:R3:=rI0 fun i j=> .bl (decide (i<j))
noncomputable def rGt:R3:=rI0 fun i j=> .bl (decide (j<i))
noncomputable def rGe:R3:=rI0 fun i j=> .bl (decide (j<=i))
noncomputable def rIsN:R3:=fun x y G Q=>y= .non/\Q (.bl (isNon x)) G
noncomputable def kQw:R3:=fun x y G Q=>y= .non/\Q (.bl (!isNon x)) G
noncomputable def rCatT:R3:=fun x y G Q=>∃xs ys,x= .tup xs/\y= .tup ys/\xs≠[]/\xs.length+ys.length<=sizeLine/\Q (.tup (xs++ys)) G
theorem o_catT:Op3 X (binaryOp .Add) rCatT:=
 Op3.of op_catT fun H G x y a b Q hg ra rb ⟨xs,ys,ex,ey,hx,hz,q⟩=>by
  subst ex;subst ey
  obtain⟨p,vs,e1,h1,h2⟩:=(show ∃p vs,a= .ref p/\H p=some (.tup vs)/\Reps X.K H xs vs from ra)
  obtain⟨p',ws,e2,h3,h4⟩:=(show ∃p vs,b= .ref p/\H p=some (.tup vs)/\Reps X.K H ys vs from rb)
  subst e1;subst e2
  have l1:=h2.length
  have l2:=h4.length
  refine⟨p,p',vs,ws,rfl,rfl,.of h1,.of h3,fun z=>hx ?_,by omega,fun z=> ?_,fun z l hl=> ?_⟩
  ·rw[z] at l1;exact lKq.mp l1
  ·rw[z] at l2
   have:ys=[]:=lKq.mp l2
   subst this
   exact⟨.tup (xs++[]),G,.refl H,hg,by rw[lKh];exact ra,q⟩
  ·exact⟨.tup (xs++ys),G,.upd (.none hl),hg.tupNew hl,Rep.tupNew (h2.append h4) hl,q⟩
noncomputable def rAddI:R3:=rI0 fun i j=> .int (i+j)
noncomputable def rAddA:R3:=fun x y G Q=>rAddI x y G Q\/rCat x y G Q\/rCatT x y G Q
theorem o_addA:Op3 X (binaryOp .Add) rAddA:=o_add.or (o_cat.or o_catT)
noncomputable def rMulI:R3:=rI CMul fun i j=> .int (i*j)
noncomputable def rMulA:R3:=fun x y G Q=>rMulI x y G Q\/rRep x y G Q
theorem o_mulA:Op3 X (binaryOp .Mult) rMulA:=o_mul.or o_rep
noncomputable def rNeg:T->Gp->VK3->Prop:=fun x G Q=>∃i,x= .int i/\Q (.int (-i)) G
theorem u_neg:Un3 X (unaryOp .USub) rNeg:=
 Un3.of un_neg fun H G x a Q hg ra ⟨i,e,q⟩=>by
  subst e;cases (show a= .int i from ra)
  exact⟨i,rfl,.int (-i),G,.refl H,hg,rfl,q⟩
theorem jJz (b:Expr) {op:CmpOp} (h:behindInMarks op b=false:=by first | exact nomark _ | with_unfolding_all rfl):behindInMarks op b=false:=h
variable {a b c:Expr} {ta tb tc:TE3} {pos:Pos}
theorem t_chain {op op':CmpOp} {r r':R3} (ho:Op3 X (compareOp op) r) (ho':Op3 X (compareOp op') r') (ha:PE3 X a ta) (hb:PE3 X b tb) (hc:PE3 X c tc)
  (hm:lastMarks [op,op'] [b,c]=false:=by with_unfolding_all rfl):PT3 X (.Compare a [op,op'] [b,c] pos) (jJ7 (kUg r r' ta tb tc)):=by
 intro pins s τ G H Q I h
 refine isTrue_chain (thn (ha pins s τ G H _ I h) fun v s1 w_=>w_.el fun x G1 H1 e1 I1 r1 q1=>test_link (thn (hb pins s1 τ G1 H1 _ I1 q1) fun u s2 ⟨y,G2,H2,e2,I2,r2,q2⟩=>
  thn (ho pins s2 τ G2 H2 x y v u _ I2 (r1.mono e2) r2 q2) fun d s3 w_=>w_.el fun z G3 H3 e3 I3 r_ ⟨k,e,q3⟩=>r_.el fun v' rv' ru'=> ?_)) hm
 subst e
 cases (show v'= .bl k from rv');cases ru'
 refine wpAny_truthy_bool ?_
 cases k with
 | false=>
  obtain⟨k',e',q'⟩:=q3
  cases e'
  exact ite_ff ⟨G3,H3,(e1.trans e2).trans e3,I3,q'⟩
 | true=>
  refine ite_tt (test_last (thn (hc pins s3 τ G3 H3 _ I3 q3) fun w' s4 w_=>w_.el fun z' G4 H4 e4 I4 r4 q4=>thn (ho' pins s4 τ G4 H4 y z' u w' _ I4 (r2.mono (e3.trans e4)) r4 q4) fun d' s5 w_=>w_.el fun z2 G5 H5 e5 I5 r_ ⟨k2,e2',q5⟩=>r_.el fun v2 rv2 ru2=> ?_))
  subst e2'
  cases (show v2= .bl k2 from rv2);cases ru2
  exact wpAny_truthy_bool ⟨G5,H5,(((e1.trans e2).trans e3).trans e4).trans e5,I5,q5⟩
mutual
noncomputable def td:T->PyData
 | .tup xs=> .tuple (tds xs)
 | .int i=> .int i
 | .bl b=> .bool b
 | .str x=> .str x
 | .non=> .none
 | .ref _=> .none
 | .scr _=> .none
 | .ty _=> .none
noncomputable def tds:List T->List PyData
 | []=>[]
 | x::xs=>td x::tds xs
end
noncomputable def eqOk (x:T):Bool:=tree x&&(td x).canLay0&&decide ((td x).depth<=50)
noncomputable def jZp (xs:List T):Bool:=jUg xs&&PyData.canLayAll0 (tds xs)&&decide ((PyData.list (tds xs)).depth<=50)
noncomputable def eqG (G:Gp) (x y:T):Option Bool:=match x,y with
 | .ref p,.ref q=>match G p,G q with
  | some (.lst xs),some (.lst ys)=>if jZp xs=true/\jZp ys=true then some (eqTs xs ys) else none
  | _,_=>none
 | _,_=>if eqOk x=true/\eqOk y=true then some (eqT x y) else none
noncomputable def rEqA:R3:=fun x y G Q=>∃b,eqG G x y=some b/\Q (.bl b) G
noncomputable def rNeA:R3:=fun x y G Q=>∃b,eqG G x y=some b/\Q (.bl (!b)) G
noncomputable def truT (G:Gp):T->Option Bool
 | .non=>some false
 | .bl b=>some b
 | .int i=>some (i != 0)
 | .tup xs=>some (!xs.isEmpty)
 | .ref p=>match G p with
  | some (.lst xs)=>some (!xs.isEmpty)
  | some (.dck kvs)=>some (!kvs.isEmpty)
  | _=>none
 | _=>none
noncomputable def rTru:T->Gp->(Bool->Gp->Prop)->Prop:=fun x G Q=>∃b,truT G x=some b/\Q b G
theorem kJi {K:PySem.W.Frag} {H:Hp} {xs:List T} {vs:List V} (r:Reps K H xs vs):xs.isEmpty=vs.isEmpty:=by
 have:=r.length
 cases xs<;>cases vs<;>simp_all
theorem kU9:Tru3 X rTru:=
 Tru3.of tru_ok fun H G x a Q hg ra ⟨b,hb,q⟩=>by
  refine⟨b,?_,rfl,q⟩
  cases x with
  | non=>cases (show a= .non from ra);cases hb;rfl
  | bl k=>cases (show a= .bl k from ra);cases hb;rfl
  | int k=>cases (show a= .int k from ra);cases hb;rfl
  | tup xs=>
   obtain⟨p,vs,e1,h1,h2⟩:=(show ∃p vs,a= .ref p/\H p=some (.tup vs)/\Reps X.K H xs vs from ra)
   subst e1;cases hb
   exact .inr (.inl ⟨vs,.of h1,by rw[kJi h2]⟩)
  | ref p=>
   cases (show a= .ref p from ra)
   cases hG:G p with
   | none=>simp only[truT,hG] at hb;cases hb
   | some o=>
    simp only[truT,hG] at hb
    cases o with
    | lst xs=>cases hb;obtain⟨vs,h1,h2⟩:=hg.lst hG;exact .inl ⟨vs,.of h1,by rw[kJi h2]⟩
    | dct _=>cases hb
    | fdc _=>cases hb
    | ins _ _=>cases hb
    | dck kvs=>
     cases hb
     obtain⟨ws,h1,h2⟩:=hg p _ hG
     refine .inr (.inr ⟨ws,h1,?_⟩)
     cases h2<;>rfl
  | str _=>cases hb
  | scr _=>cases hb
  | ty _=>cases hb
end
section
variable {X:Cx} {pins:List (Addr×Obj)} {σ:L2.St} {H:Hp} {s:Shared} {h':Heap}
theorem turnedL {t':Nat} {fp:List Addr} (I:Inv X pins σ H s) (k:∀b o,b∉fp->s.heap.get? b=some o->h'.get? b=some o) (hf:∀b∈fp,FpOk X pins H b):Inv X pins σ H {s with heap:=h',toks:=t'}:=by
 have nit:∀b u,H b=some u->b∉fp:=fun b u e z=>by rw[(hf b z).1] at e;cases e
 refine I.step (g':=s.gens) (d':=s.drawn) (ch:=fp) (fun b hb=>⟨(hf b hb).2.2.2.1,(hf b hb).2.1,(hf b hb).2.2.2.2.1,(hf b hb).2.2.2.2.2⟩) (fun b o _ _ hc e _=>k b o hc e) (fun b o _ _ hc e _=>⟨o.slots,k b o hc e⟩) (fun _ _ _ _ n=>n)
  (fun b o hc e=>⟨o,k b o hc e⟩) (fun _ _ e=>e) (fun _ _ _ e=>e) (fun b ps e=>⟨#[],by rw[e];simp⟩) (fun m hm=> ?_) (fun b u e=> ?_) I.bare
 ·obtain⟨o,es,ep,ho,r⟩:=hm
  exact⟨o,es,ep,k _ o (fun z=>(hf _ z).2.1 rfl) ho,r⟩
 ·refine (I.hok b u e).stay (fun c v hc q=>k c v ?_ q) (fun _ q=>q) fun _ _ q=>q
  rcases hc with z | z
  ·rw[z];exact nit b u e
  ·exact nit c _ z
theorem turnedTup {t':Nat} {fp:List Addr} {p:Addr} {vs:List V} {us:List Value} (I:Inv X pins σ H s) (k:∀b o,b∉fp->s.heap.get? b=some o->h'.get? b=some o) (hf:∀b∈fp,FpOk X pins H b)
  (hp:s.heap.objs.size<=p) (ht:TupD h' p us.toArray) (r:Vals vs us) (hz:vs.length<=sizeLine):Inv X pins σ (upd H p (.tup vs)) {s with heap:=h',toks:=t'}:=by
 have hn:H p=none:=I.hok.fresh hp
 have nit:∀b u,H b=some u->b∉fp:=fun b u e z=>by rw[(hf b z).1] at e;cases e
 have old:∀b o,s.heap.get? b=some o->b≠p:=fun b o e=>lJl (lJy (Heap.lt_size e) hp)
 have tr:∀b u,H b=some u->b≠p:=fun b u e z=>by rw[z,hn] at e;cases e
 refine I.step (g':=s.gens) (d':=s.drawn) (ch:=fp) (fun b hb=>⟨(hf b hb).2.2.2.1,(hf b hb).2.1,(hf b hb).2.2.2.2.1,(hf b hb).2.2.2.2.2⟩) (fun b o _ _ hc e _=>k b o hc e) (fun b o _ _ hc e _=>⟨o.slots,k b o hc e⟩) (fun b o _ e n=>by rw[jKp (old b o e)];exact n)
  (fun b o hc e=>⟨o,k b o hc e⟩) (fun b _ e=>by rw[jKp (tr b _ e)];exact e) (fun b _ _ e=>by rw[jKp (tr b _ e)];exact e) (fun b ps e=>⟨#[],by rw[jKp (tr b _ e),e];simp⟩) (fun m hm=> ?_) (fun b u e=> ?_) I.bare
 ·obtain⟨o,es,ep,ho,r⟩:=hm
  exact⟨o,es,ep,k _ o (fun z=>(hf _ z).2.1 rfl) ho,r⟩
 ·by_cases hb:b=p
  ·subst hb
   rw[jK7] at e
   cases e
   exact⟨hz,us,r,ht⟩
  ·rw[jKp hb] at e
   refine (I.hok b u e).stay (fun c v hc q=>k c v ?_ q) (fun c q=>by rw[jKp (tr c _ q)];exact q) fun c _ q=>by rw[jKp (tr c _ q)];exact q
   rcases hc with z | z
   ·rw[z];exact nit b u e
   ·exact nit c _ z
end
noncomputable def Ite (K:PySem.W.Frag) (a:Addr):It:=
 ⟨fun i H=>∃xs x,SqL K H a xs/\xs[i]? =some x,fun i H x H'=>∃p y,H p=none/\x= .ref p/\(∀xs,SqL K H a xs->xs[i]? =some y)/\H'=upd H p (.tup [.int i,y]),fun i H=>∃xs,SqL K H a xs/\xs.length<=i⟩
theorem turn_enum {P:Program} {w:World} {K:PySem.W.Frag} {elts:List Expr} {k:Nat} {pos:Pos} (a e it:Addr) (hei:e≠it):
  Turn P w K (.Tuple elts k pos) (Ite K a) [e,it] e (fun i h=>(∃old,IsEnum h e it i old)/\h.IsListIter it a i) where
 mem:=by simp
 obj:=fun i h ⟨⟨old,h1⟩,h2⟩ b hb=>by
  have hb':b=e\/b=it:=by simpa using hb
  rcases hb' with z | z
  ·subst z;exact⟨_,h1,fun v z=>nomatch (show Data.fields _=Data.cell v from z)⟩
  ·subst z
   obtain⟨o,e2,c,d⟩:=h2
   exact⟨o,e2,fun v z=>by rw[d] at z;cases z⟩
 keep:=fun i h h' ⟨⟨old,h1⟩,h2⟩ kp=>⟨⟨old,kp e (by simp) _ h1⟩,h2.at fun o q=>kp it (by simp) o q⟩
 item:=by
  rintro X hP hw hK hc i pins s σ H E I hf ⟨⟨old,he⟩,hit⟩ hg
  subst hP hw hK
  obtain⟨xs,x,hq,hx⟩:=hg
  obtain⟨its,rv,p,hz⟩:=I.list hq
  obtain⟨u,hu,ru⟩:=rv.get hx
  refine wpAny_pyNext_enum_item he hit p.isList (x:=u) (by simpa using hu) hei fun h1 ho hit1 hT hsz hk=> ?_
  refine⟨_,rfl,wpAny_letOwnedTupleGo_enum ho fun h2 he2 hs2=> ?_⟩
  have hel:e<s.heap.objs.size:=Heap.lt_size he
  have hp2:∀b o,b∉[e,it]->s.heap.get? b=some o->h2.get? b=some o:=fun b o hb q=>by
   have hb1:b≠e:=fun z=>hb (by simp[z])
   have hb2:b≠it:=fun z=>hb (by simp[z])
   exact (hs2.2 b hb1).trans (hk b o hb1 hb2 q)
  have hT2:h2.get? s.heap.objs.size=some {cls:= .type "tuple",data:= .seq #[.int i s.toks,u]}:=(hs2.2 _ (Nat.ne_of_gt hel)).trans hT
  have I2:=turnedTup (t':=s.toks+1) (h':=h2) (p:=s.heap.objs.size) (vs:=[.int i,x]) (us:=[.int i s.toks,u]) I hp2 hf (lJd _) ⟨_,hT2,rfl,_,rfl,rfl⟩ (.cons ⟨_,rfl⟩ (.cons ru .nil)) (by show 2<=sizeLine;decide)
  refine⟨.ref s.heap.objs.size,_,I2,rfl,⟨_,x,I.hok.fresh (lJd _),rfl,fun ys hy=>by rw[I.list_inj hy hq];exact hx,rfl⟩,⟨⟨u,by simpa using he2⟩,hit1.at fun o q=>(hs2.2 it hei.symm).trans q⟩,fun b hb=> ?_⟩
  have hbs:∃o,s.heap.get? b=some o:=by
   have hb':b=e\/b=it:=by simpa using hb
   rcases hb' with z | z
   ·subst z;exact⟨_,he⟩
   ·subst z;obtain⟨o,q,_⟩:=hit;exact⟨o,q⟩
  obtain⟨o,q⟩:=hbs
  rw[jKp (lJl (Heap.lt_size q))]
  exact (hf b hb).1
 done:=by
  rintro X hP hw hK hc i pins s σ H E I hf ⟨⟨old,he⟩,hit⟩ hg
  subst hP hw hK
  obtain⟨xs,hq,hx⟩:=hg
  obtain⟨its,rv,p,hz⟩:=I.list hq
  have hl:=rv.length
  exact wpAny_pyNext_enum_end (I.ok.hd hc) he hit p.isList (by simp;omega) fun h1 hx1=>⟨rfl,turnedL (t':=s.toks) I (fun b o hb q=>hx1 b o (fun z=>hb (by simp[z])) q) hf⟩
 self:=fun _ _ _ _ _ ⟨⟨old,he⟩,_⟩ h=>wpAny_pyIter_enum he h
noncomputable def numT (xs:List T):List T:=(List.range xs.length).map fun (i:Nat)=>T.tup [.int i,xs.getD i .non]
theorem jVc {xs:List T} {i:Nat} {x:T} (h:xs[i]? =some x):(numT xs)[i]? =some (.tup [.int i,x]):=by
 have hi:i<xs.length:=by
  rcases lJw i xs.length with z | z
  ·exact z
  ·rw[lJh z] at h;cases h
 have hx:xs[i]=x:=(lJa.mp h).2
 simp[numT,hi,List.getD,hx]
theorem jJ9 {xs:List T}:(numT xs).length=xs.length:=by simp[numT]
noncomputable def jU4 (G:Gp):T->Option (List T)
 | .ref p=>asL (G p)
 | .scr xs=>some xs
 | _=>none
theorem jXu {K:PySem.W.Frag} {H:Hp} {G:Gp} {x:T} {a:V} {xs:List T} (hg:GRel K H G) (r:Rep K H x a) (h:jU4 G x=some xs):∃p vs,a= .ref p/\SqL K H p vs/\Reps K H xs vs:=by
 cases x with
 | scr ys=>cases h;obtain⟨p,vs,e,h1,h2⟩:=(show ∃p vs,a= .ref p/\FrL K H p vs/\Reps K H xs vs from r);exact⟨p,vs,e,h1.sq,h2⟩
 | ref p=>
  obtain⟨vs,h1,h2⟩:=hg.lst (jYs h)
  exact⟨p,vs,r,.of h1,h2⟩
 | tup _=>cases h
 | non=>cases h
 | bl _=>cases h
 | int _=>cases h
 | str _=>cases h
 | ty _=>cases h
noncomputable def kJc (ta:TA3):TI3:=fun τ G R=>ta τ G fun vs G1=>∃x xs,vs=[x]/\jU4 G1 x=some xs/\R (numT xs) (fun G'=>jU4 G' x=some xs) G1
theorem kUq {X:Cx} {elts:List Expr} {k:Nat} {tpos pos p:Pos} {a:Expr} {ta:TA3} (hg:Gl X "enumerate") (hm:X.mg "enumerate"=none) (hv:bootBuiltins "enumerate"=some (.type "enumerate")) (ha:PA3 X [a] ta) (hs:starEach [a] X.env=[(false,eval a X.env)]:=by rfl):
  PI3 X (.Tuple elts k tpos) (.Call (.Name "enumerate" p) [a] [] pos) (kJc ta):=by
 intro pins s τ G H R I h
 obtain⟨σ0,I0,hs0,hg0⟩:=id I
 refine Call_ (jVm I0 hg hm hv (PyProof.Rows.callWith_type1 (thn (ha pos pins s τ G H _ I h) fun us s1 w_=>w_.el fun xs' G1 H1 e1 i_ r_ q1=>i_.el fun σ I1 hs1 hg1=>r_.el fun as ras rvs=> ?_) hs rfl))
 obtain⟨x,xs,e,hx,q⟩:=q1
 subst e
 obtain⟨v,rfl,rv⟩:=jXj ras
 obtain⟨u,rfl,ru⟩:=rvs.one
 obtain⟨pa,vs,rfl,hq,r⟩:=jXu hg1 rv hx
 cases ru
 obtain⟨its,rvv,pl,hz⟩:=I1.list hq
 refine call_enumerate_list pl.isList fun h1 he hit hsz hk=> ?_
 have I2:Inv X pins σ H1 {s1 with heap:=h1}:=I1.kept (t':=s1.toks) hk
 refine wpAny_pyIter_enum (Q:=PIE3 X pins τ H (.Tuple elts k tpos) R) he ?_
 have fr:∀b∈[s1.heap.objs.size+1,s1.heap.objs.size],FpOk X pins H1 b:=fun b hb=>by
  have hb':b=s1.heap.objs.size+1\/b=s1.heap.objs.size:=by simpa using hb
  have hle:s1.heap.objs.size<=b:=by omega
  exact I1.fpOk hle (I1.hok.fresh hle)
 refine⟨s1.heap.objs.size+1,[s1.heap.objs.size+1,s1.heap.objs.size],_,_,numT xs,fun G'=>jU4 G' x=some xs,G1,H1,rfl,e1,⟨σ,I2,hs1,hg1⟩,turn_enum pa _ _ (Nat.succ_ne_self _),⟨⟨.none,he⟩,hit⟩,fr,?_,q⟩
 intro i H2 G2 e2 g2 st
 obtain⟨pb,ws,eb,h1,h2⟩:=jXu g2 (Rep.mono e2 _ rv) st
 cases eb
 have hlen:=h2.length
 refine⟨fun hi=> ?_,fun hi=>⟨ws,h1,by rw[jJ9] at hi;omega⟩,fun hi y H' ⟨pp,z,hn,ey,hy,eH⟩=> ?_⟩
 ·rw[jJ9] at hi
  exact⟨ws,ws[i]'(by omega),h1,by simp[hlen▸hi]⟩
 ·subst ey;subst eH
  obtain⟨t,ht,rt⟩:=h2.get' (hy ws h1)
  exact⟨.upd (.none hn),g2.tupNew hn,_,jVc ht,Rep.tupNew ⟨_,_,rfl,rfl,_,_,rfl,rt,rfl⟩ hn⟩
noncomputable def clGo (env:Env):List (Str×NameKind)->List (Str×Addr)->Option (List (Str×Addr))
 | [],cs=>some cs
 | (n,k)::r,cs=>if (k == .free)=true then (match env.cells.lookup n with | some c=>clGo env r ((n,c)::cs) | none=>none) else clGo env r cs
theorem kUx {scope:Scope} {env:Env} {cl:List (Str×Addr)} (h:clGo env scope.names []=some cl):closureFor scope env=pure cl:=by
 unfold closureFor
 have go:∀(names:List (Str×NameKind)) (cs:List (Str×Addr)),clGo env names cs=some cl->
   (forIn names cs fun (x:Str×NameKind) (r:List (Str×Addr))=>(match x with | (nm,kd)=>if (kd == .free)=true then cellOf env nm >>= fun a=>pure (ForInStep.yield ((nm,a)::r)) else pure (ForInStep.yield r):Sem (ForInStep (List (Str×Addr)))))=pure cl:=by
  intro names
  induction names with
  | nil=>intro cs e;cases e;rfl
  | cons x r ih=>
   obtain⟨n,k⟩:=x
   intro cs e
   unfold clGo at e
   rw[List.forIn_cons]
   by_cases hk:(k == NameKind.free)=true
   ·rw[if_pos hk] at e
    cases hc:env.cells.lookup n with
    | none=>rw[hc] at e;cases e
    | some c=>
     rw[hc] at e
     have hco:cellOf env n=pure c:=by unfold cellOf;rw[hc]
     simp only[hk,if_true,hco,pure_bind]
     exact ih _ e
   ·rw[if_neg hk] at e
    simp only[hk,pure_bind,if_false,lKd]
    exact ih _ e
 have:=go scope.names [] h
 simpa using this
theorem kKc {env:Env} {cl:List (Str×Addr)}:∀ {names:List (Str×NameKind)} {cs:List (Str×Addr)},clGo env names cs=some cl->(∀n c,cs.lookup n=some c->env.cells.lookup n=some c)->∀n c,cl.lookup n=some c->env.cells.lookup n=some c
 | [],cs,e,h=>by cases e;exact h
 | (n,k)::r,cs,e,h=>by
  unfold clGo at e
  by_cases hk:(k == NameKind.free)=true
  ·rw[if_pos hk] at e
   cases hc:env.cells.lookup n with
   | none=>rw[hc] at e;cases e
   | some c=>
    rw[hc] at e
    refine kKc e fun m d q=> ?_
    rw[lJ9] at q
    by_cases hm:(m == n)=true
    ·rw[hm] at q;cases q;rw[eq_of_beq hm];exact hc
    ·simp only[hm] at q;exact h m d q
  ·rw[if_neg hk] at e
   exact kKc e h
theorem kQf {env:Env} {cl:List (Str×Addr)} {m:Str}:∀ {names:List (Str×NameKind)} {cs:List (Str×Addr)},clGo env names cs=some cl->(∃c,cs.lookup m=some c)->∃c,cl.lookup m=some c
 | [],cs,e,h=>by cases e;exact h
 | (n,k)::r,cs,e,h=>by
  unfold clGo at e
  by_cases hk:(k == NameKind.free)=true
  ·rw[if_pos hk] at e
   cases hc:env.cells.lookup n with
   | none=>rw[hc] at e;cases e
   | some c=>
    rw[hc] at e
    refine kQf e ?_
    rw[lJ9]
    by_cases hm:(m == n)=true
    ·rw[hm];exact⟨_,rfl⟩
    ·simp only[hm];exact h
  ·rw[if_neg hk] at e
   exact kQf e h
theorem kKd {env:Env} {cl:List (Str×Addr)} {m:Str}:∀ {names:List (Str×NameKind)} {cs:List (Str×Addr)},clGo env names cs=some cl->names.lookup m=some .free->∃c,cl.lookup m=some c
 | [],cs,e,h=>by simp at h
 | (n,k)::r,cs,e,h=>by
  unfold clGo at e
  rw[lJ9] at h
  by_cases hm:(m == n)=true
  ·rw[hm] at h
   cases h
   rw[if_pos (show (NameKind.free == NameKind.free)=true from rfl)] at e
   cases hc:env.cells.lookup n with
   | none=>rw[hc] at e;cases e
   | some c=>
    rw[hc] at e
    refine kQf e ?_
    rw[lJ9,hm];exact⟨_,rfl⟩
  ·simp only[hm] at h
   by_cases hk:(k == NameKind.free)=true
   ·rw[if_pos hk] at e
    cases hc:env.cells.lookup n with
    | none=>rw[hc] at e;cases e
    | some c=>rw[hc] at e;exact kKd e h
   ·rw[if_neg hk] at e
    exact kKd e h
theorem jVr {env:Env} {x:Str}:∀ {names:List (Str×NameKind)},(∀y∈names,y.2≠ .cell)->
  ((names.map fun (n,k)=>if (k == NameKind.free&&env.scope.kind == .function&&env.kindOf n == some .cell) then (n,NameKind.cell) else (n,k)).lookup x=some .cell\/
    (names.map fun (n,k)=>if (k == NameKind.free&&env.scope.kind == .function&&env.kindOf n == some .cell) then (n,NameKind.cell) else (n,k)).lookup x=some .free)->names.lookup x=some .free
 | [],_,h=>by simp at h
 | (n,k)::r,hc,h=>by
  have ih:= @jVr env x r (fun y hy=>hc y (lJ1 _ hy))
  have hk:=hc (n,k) lKe
  rw[lJm] at h
  rw[lJ9]
  by_cases hx:(x == n)=true
  ·rw[hx]
   by_cases hf:(k == NameKind.free&&env.scope.kind == .function&&env.kindOf n == some .cell)=true
   ·have:(k == NameKind.free)=true:=by
     rw[lJ8,lJ8] at hf;exact hf.1.1
    rw[eq_of_beq this]
   ·simp only[hf,if_false,lKd,lJ9,hx] at h
    rcases h with h | h
    ·cases h;exact absurd rfl hk
    ·cases h;rfl
  ·simp only[hx]
   refine ih ?_
   by_cases hf:(k == NameKind.free&&env.scope.kind == .function&&env.kindOf n == some .cell)=true
   ·simpa only[hf,if_true,lJ9,hx] using h
   ·simpa only[hf,if_false,lKd,lJ9,hx] using h
theorem jXk {env:Env} {x:Str}:∀ {names:List (Str×NameKind)},
  (names.map fun (n,k)=>if (k == NameKind.free&&env.scope.kind == .function&&env.kindOf n == some .cell) then (n,NameKind.cell) else (n,k)).lookup x=some .local->names.lookup x=some .local
 | [],h=>by simp at h
 | (n,k)::r,h=>by
  have ih:= @jXk env x r
  rw[lJm] at h
  rw[lJ9]
  by_cases hx:(x == n)=true
  ·rw[hx]
   by_cases hf:(k == NameKind.free&&env.scope.kind == .function&&env.kindOf n == some .cell)=true
   ·simp only[hf,if_true,lJ9,hx] at h;cases h
   ·simp only[hf,if_false,lKd,lJ9,hx] at h;exact h
  ·simp only[hx]
   refine ih ?_
   by_cases hf:(k == NameKind.free&&env.scope.kind == .function&&env.kindOf n == some .cell)=true
   ·simpa only[hf,if_true,lJ9,hx] using h
   ·simpa only[hf,if_false,lKd,lJ9,hx] using h
noncomputable def jXd (X:Cx) (scope:Scope) (cl:List (Str×Addr)) (C:Addr) (fp:List Addr) (s:Shared) (H:Hp):Cx:=
 {X with env:=compEnvC scope cl C X.env,s₀:=s,H₀:=H,outer:=X.stack,stack:=X.stack,ex:=fp,fn:=fun _=>false,pn:=[],xe:=fun _ _=>False}
structure CmpOk (X:Cx) (scope:Scope) (cl:List (Str×Addr)) (mask:List Bool):Prop where
 cl:clGo X.env scope.names []=some cl
 kind:scope.kind= .function
 nocell:(scope.names.all fun y=>y.2 != .cell)=true
 names:(scope.names.all fun y=>y.2 != .local||scope.names.lookup y.1 == some .local)=true
 vis:(scope.names.all fun y=>y.2 != .free||X.env.kindOf y.1 == some .cell||X.env.kindOf y.1 == some .free)=true
 len:mask.length=X.N.length
 mask:((X.N.zip mask).all fun p=>p.2||scope.names.lookup p.1 != some .local)=true
noncomputable def msk {α:Type} (mask:List Bool) (τ:List (Option α)):List (Option α):=List.zipWith (fun b o=>if b=true then none else o) mask τ
theorem msk_get {α:Type} {mask:List Bool} {τ:List (Option α)} {i:Nat} {t:α} (h:(msk mask τ)[i]? =some (some t)):mask[i]? =some false/\τ[i]? =some (some t):=by
 unfold msk at h
 rw[lQh] at h
 cases hm:mask[i]? with
 | none=>exact absurd (hm▸h) (by simp)
 | some b=>
  cases ht:τ[i]? with
  | none=>rw[hm,ht] at h;cases h
  | some o=>
   rw[hm,ht] at h
   cases b with
   | true=>simp at h
   | false=>simp at h;exact⟨rfl,by rw[h]⟩
theorem jZ7 {α:Type} {mask:List Bool} {τ:List (Option α)} (h:mask.length=τ.length):(msk mask τ).length=τ.length:=by
 unfold msk;rw[List.length_zipWith,h,Nat.min_self]
theorem msk_rel {K:PySem.W.Frag} {H:Hp} {σ:L2.St} {τ:St3} {mask:List Bool} (h:SRel K H σ τ) (hl:mask.length=τ.length):SRel K H (msk mask σ) (msk mask τ):=by
 refine⟨by rw[jZ7 hl,jZ7 (hl.trans h.1.symm),h.1],fun i t q=> ?_⟩
 obtain⟨h1,h2⟩:=msk_get q
 obtain⟨v,h3,h4⟩:=h.2 i t h2
 refine⟨v,?_,h4⟩
 unfold msk
 rw[lQh,h1,h3]
 simp
section
variable {X:Cx} {scope:Scope} {cl:List (Str×Addr)} {mask:List Bool}
theorem CmpOk.local (c:CmpOk X scope cl mask) {i:Nat} {x:Str} (h1:X.N[i]? =some x) (h2:mask[i]? =some false):scope.names.lookup x≠some .local:=by
 have h:=c.mask
 rw[lK4] at h
 have hz:(X.N.zip mask)[i]? =some (x,false):=by rw[List.getElem?_zip_eq_some];exact⟨h1,h2⟩
 have:=h _ (lJe hz)
 simpa using this
theorem CmpOk.free (c:CmpOk X scope cl mask) {x:Str} (h:scope.names.lookup x=some .free):X.env.kindOf x=some .cell\/X.env.kindOf x=some .free:=by
 have hv:=c.vis
 rw[lK4] at hv
 have:=hv (x,.free) (PySem.mem_of_lookup h)
 simpa using this
theorem CmpOk.nc (c:CmpOk X scope cl mask):∀y∈scope.names,y.2≠ .cell:=by
 have hv:=c.nocell
 rw[lK4] at hv
 intro y hy
 simpa using hv y hy
theorem CmpOk.nm (c:CmpOk X scope cl mask):∀y∈scope.names,y.2= .local->scope.names.lookup y.1=some .local:=by
 have hv:=c.names
 rw[lK4] at hv
 intro y hy e
 have:=hv y hy
 rw[e] at this
 simpa using this
theorem cmp_start (c:CmpOk X scope cl mask) {pins:List (Addr×Obj)} {σ:L2.St} {H:Hp} {s:Shared} {fp:List Addr} {h4:Heap} {tk:Nat} (I:Inv X pins σ H s) (hf:∀b∈fp,FpOk X pins H b) (ho:∀b∈fp,∃o,s.heap.get? b=some o)
  (hns:h4.Ns s.heap.objs.size fun _=>none) (hk:∀b o,s.heap.get? b=some o->h4.get? b=some o):
  Inv (jXd X scope cl s.heap.objs.size fp s H) [] (msk mask σ) H {s with heap:=h4,toks:=tk}:=by
 have sub:=kKc c.cl (by simp)
 have ok:(jXd X scope cl s.heap.objs.size fp s H).Ok:=by
  refine⟨I.ok.mod,c.kind,I.ok.glob,I.ok.blt,lJd _,fun x y d h1 h2=>I.ok.inj x y d (sub _ _ h1) (sub _ _ h2),fun x hx=>kKd c.cl (jVr (env:=X.env) c.nc hx),fun x d hx=>absurd (show false=true from hx) lJf,I.ok.hd,I.ok.gd,I.ok.frames,.inl rfl,
   fun b hb=> ?_,I.bs,lJs I.ok.bsz I.sz,fun b o e hb=> ?_,fun b hb hz=> ?_,I.stack,I.stkFree⟩
  ·obtain⟨o,e⟩:=ho b hb
   exact⟨lJl (Heap.lt_size e),fun x d hd=>(hf b hb).2.2.2.2.1 x d (sub _ _ hd)⟩
  ·rcases (hf b hb).2.2.2.1 with z | z
   ·exact I.ok.noex b o e z
   ·exact absurd (lJy (Heap.lt_size e) I.ok.bsz) (Nat.not_lt.mpr z)
  ·rcases lJn.mp (I.stkSub b hz) with z | z
   ·exact (hf b hb).2.1 z
   ·exact (hf b hb).2.2.1 z
 refine⟨ok,rfl,I.bare,Un.kept hk,⟨_,hns,fun i x v h1 h2 h3=> ?_⟩,fun x d hd=> ?_,I.hok.fresh (lJd _),fun x d hd=>I.freeC x d (sub _ _ hd),fun p hp=>absurd (show p∈([]:List (Addr×Obj)) from hp) (by simp),I.hok.kept hk,?_⟩
 ·obtain⟨m1,m2⟩:=msk_get h2
  have nl:=c.local h1 m1
  have fr:scope.names.lookup x=some .free:=by
   rcases h3 with z | z | z
   ·exact absurd (jXk (env:=X.env) z) nl
   ·exact jVr (env:=X.env) c.nc (.inl z)
   ·exact jVr (env:=X.env) c.nc (.inr z)
  have hkk:=c.free fr
  obtain⟨m,hn,hl⟩:=I.loc
  have vis:Vis X.env.scope x:=by rcases hkk with z | z;exact .inr (.inl z);exact .inr (.inr z)
  obtain⟨u,ru,lk⟩:=hl i x v h1 m2 vis
  refine⟨u,ru,?_⟩
  rcases lk with ⟨z,_⟩ | ⟨_,d,hd,cd⟩
  ·exfalso;rcases hkk with q | q<;>(rw[z] at q;cases q)
  ·obtain⟨d',hd'⟩:=kKd c.cl fr
   have:d'=d:=by have:=sub _ _ hd';rw[hd] at this;exact (lJx this).symm
   subst this
   refine .inr ⟨?_,d',hd',cd.keeps hk⟩
   rcases h3 with z | z | z
   ·exact absurd (jXk (env:=X.env) z) nl
   ·exact .inl z
   ·exact .inr z
 ·obtain⟨v,hv⟩:=I.cell x d (sub _ _ hd)
  exact⟨v,hv.keeps hk⟩
 ·exact (jZ7 (c.len.trans I.len.symm)).trans I.len
theorem cmp_end {pins:List (Addr×Obj)} {σ σ':L2.St} {H H':Hp} {s s':Shared} {fp:List Addr} {pl:List (Addr×Obj)} {C:Addr} (I:Inv X pins σ H s) (hf:∀b∈fp,FpOk X pins H b) (hC:s.heap.objs.size<=C)
  (J:Inv (jXd X scope cl C fp s H) pl σ' H' s') {h':Heap} (hb:Heap.SameBut C s'.heap h'):Inv X pins σ H' {s' with heap:=h'}:=by
 have ne:∀b o,s.heap.get? b=some o->b≠C:=fun b o e=>lJl (lJy (Heap.lt_size e) hC)
 have u:=J.base
 have hfree:H' C=none:=J.free
 have u':Un (frs X.stack) fp H H' s.heap h':=⟨fun b o e n hb' hx=>(hb.2 b (ne b o e)).trans (u.keep b o e n hb' hx),fun b o e n hb' hx=>let ⟨sl,z⟩:=u.slot b o e n hb' hx;⟨sl,(hb.2 b (ne b o e)).trans z⟩,
  u.free,fun b o e hx=>let ⟨o',z⟩:=u.there b o e hx;⟨o',(hb.2 b (ne b o e)).trans z⟩,u.tups,u.frzs,u.tbls⟩
 have hok:HOk X.prog X.w H' h':=fun b ob e=>(J.hok b ob e).stay (fun c w' hc q=>(hb.2 c (by
  rintro rfl
  rcases hc with rfl | hc
  ·rw[hfree] at e;cases e
  ·rw[hfree] at hc;cases hc)).trans q) (fun _ q=>q) fun _ _ q=>q
 exact I.call' (s':={s' with heap:=h'}) J.os u' hok J.bare fun b hb=>⟨(hf b hb).2.2.2.1,(hf b hb).2.1,(hf b hb).2.2.2.2.1,(hf b hb).2.2.2.2.2⟩
end
noncomputable abbrev compTests (ifs:List Expr) (env:Env):Sem Bool:=forIn ifs true fun c b=>if b=true then isTrue c env (eval c env) >>= fun d=>pure (ForInStep.yield d) else pure (ForInStep.yield b)
noncomputable def CompStep (M:Model) (A:Around) (elt tg:Expr) (ifs:List Expr) (it acc:Value) (env:Env) (stop more:Shared->Prop):Option Value->Shared->Prop
 | none=>stop
 | some v=>fun z=>wpAny M A (letOwnedTupleGo tg it v) (fun _ z1=>wpAny M A (assign tg env v) (fun _ z2=>wpAny M A (compTests ifs env) (fun ok z3=>if ok=true then wpAny M A (eval elt env) (fun x z4=>wpAny M A (call (.builtin "list.append") [acc,x]) (fun _=>more) (fun _ _=>False) z4) (fun _ _=>False) z3 else more z3) (fun _ _=>False) z2) (fun _ _=>False) z1) (fun _ _=>False) z
theorem compLoop3 {P:Program} {w:World} {A:Around} {R:Result->Shared->Prop} {s:Shared} {elt tg iter:Expr} {ifs:List Expr} {scope:Scope} {pos:Pos} {it acc:Value} {env:Env} (I:Nat->Shared->Prop)
  (turn:∀k z,I k z->wpAny (model P w) A (pyNext it) (CompStep (model P w) A elt tg ifs it acc env (R (.ok .next)) fun z'=>∃m,m<k/\I m z') (fun _ _=>False) z) (n:Nat) (h:I n s):codeAny (model P w) A (.compLoop (.ListComp elt [⟨tg,iter,ifs,0⟩] scope pos) 0 it acc env) R s:=by
 refine codeAny_loop rfl I (fun k z hz=>(show wpAny _ A ((compTurn (.ListComp elt [⟨tg,iter,ifs,0⟩] scope pos) 0 it acc env).onRaise _) _ _ z from wpAny_noted ?_)) n h
 rw[compTurn_list]
 refine wpAny_bind (wpAny_standAt (wpAny_bind (wpAny_mono (turn k z hz) (fun r z1 h1=> ?_) fun _ _ e=>e.elim)))
 cases r with
 | none=>exact wpAny_pure h1
 | some v=>
  refine wpAny_bind (wpAny_mono h1 (fun _ z2 h2=>wpAny_bind (wpAny_mono h2 (fun _ z3 h3=>wpAny_bind (wpAny_mono h3 (fun ok z4 h4=> ?_) fun _ _ e=>e.elim)) fun _ _ e=>e.elim)) fun _ _ e=>e.elim)
  by_cases hok:ok=true
  ·subst hok
   exact wpAny_bind (wpAny_bind (wpAny_mono h4 (fun x z5 h5=>wpAny_bind (wpAny_mono h5 (fun _ z6 h6=>wpAny_pure (wpAny_pure ⟨rfl,h6⟩)) fun _ _ e=>e.elim)) fun _ _ e=>e.elim))
  ·obtain rfl:ok=false:=by simpa using hok
   exact wpAny_pure ⟨rfl,h4⟩
def PIf3 (X:Cx) (ifs:List Expr) (t:TT3):Prop:=∀(pins:List (Addr×Obj)) (s:Shared) (τ:St3) (G:Gp) (H:Hp) (Q:Bool->Gp->Prop),Inv3 X pins τ G H s->t τ G Q->
 wpAny (model X.prog X.w) X.A (forIn ifs true fun c r=>if r=true then do let ok <-isTrue c X.env (eval c X.env);pure (ForInStep.yield ok) else pure (ForInStep.yield r)) (TP3 X pins τ H Q) X.xe s
noncomputable def jU8:TT3:=fun _ G Q=>Q true G
theorem jVn {X:Cx}:PIf3 X [] jU8:=fun _ _ _ G H _ I q=>wpAny_tests_nil ⟨G,H,.refl H,I,q⟩
theorem if_one {X:Cx} {c:Expr} {t:TT3} (h:PT3 X c t):PIf3 X [c] t:=fun pins s τ G H Q I q=>wpAny_tests_one (h pins s τ G H Q I q)
def GKeep (mask:List Bool) (g:TG3):Prop:=∀v τ G Q,g v τ G Q->g v τ G fun τ2 G2=>Q τ2 G2/\τ2.length=τ.length/\∀i:Nat,mask[i]? ≠some true->τ2[i]? =τ[i]?
def GsKeep (mask:List Bool) (g:TGs3):Prop:=∀v τ G Q,g v τ G Q->g v τ G fun τ2 G2=>Q τ2 G2/\τ2.length=τ.length/\∀i:Nat,mask[i]? ≠some true->τ2[i]? =τ[i]?
theorem jQg {mask:List Bool} {i:Nat} (h:mask[i]? =some true:=by rfl):GKeep mask (jJj i):=fun v τ G Q q=>
 ⟨q,lKo ..,fun j hj=>lJz (by rintro rfl;exact hj h)⟩
theorem gk_nil {mask:List Bool}:GsKeep mask gNil:=fun v τ G Q ⟨e,q⟩=>⟨e,q,rfl,fun _ _=>rfl⟩
theorem kJd {mask:List Bool} {t:TG3} {u:TGs3} (h1:GKeep mask t) (mono:∀v τ G Q Q',(∀a b,Q a b->Q' a b)->t v τ G Q->t v τ G Q') (h2:GsKeep mask u) (mono2:∀v τ G Q Q',(∀a b,Q a b->Q' a b)->u v τ G Q->u v τ G Q'):GsKeep mask (jKg t u):=fun vs τ G Q ⟨v,r,e,q⟩=>by
 refine⟨v,r,e,mono _ _ _ _ _ (fun τ2 G2 ⟨z,l1,k1⟩=> ?_) (h1 _ _ _ _ q)⟩
 exact mono2 _ _ _ _ _ (fun τ3 G3 ⟨z3,l3,k3⟩=>⟨z3,l3.trans l1,fun i hi=>(k3 i hi).trans (k1 i hi)⟩) (h2 _ _ _ _ z)
theorem jXw {i:Nat}:∀v τ G (Q Q':St3->Gp->Prop),(∀a b,Q a b->Q' a b)->jJj i v τ G Q->jJj i v τ G Q':=fun _ _ _ _ _ h q=>h _ _ q
theorem kUs:∀v τ G (Q Q':St3->Gp->Prop),(∀a b,Q a b->Q' a b)->gNil v τ G Q->gNil v τ G Q':=fun _ _ _ _ _ h q=>⟨q.1,h _ _ q.2⟩
theorem gm_cons {t:TG3} {u:TGs3} (m1:∀v τ G (Q Q':St3->Gp->Prop),(∀a b,Q a b->Q' a b)->t v τ G Q->t v τ G Q') (m2:∀v τ G (Q Q':St3->Gp->Prop),(∀a b,Q a b->Q' a b)->u v τ G Q->u v τ G Q'):
  ∀v τ G (Q Q':St3->Gp->Prop),(∀a b,Q a b->Q' a b)->jKg t u v τ G Q->jKg t u v τ G Q':=fun _ _ _ _ _ h ⟨v,r,e,q⟩=>⟨v,r,e,m1 _ _ _ _ _ (fun _ _ z=>m2 _ _ _ _ _ h z) q⟩
theorem gk_tup {mask:List Bool} {n:Nat} {u:TGs3} (h:GsKeep mask u):GKeep mask (gTup n u):=fun v τ G Q ⟨xs,e,l,q⟩=>⟨xs,e,l,h _ _ _ _ q⟩
theorem msk_same {mask:List Bool} {τ τ2:St3} (hl:mask.length=τ.length) (l:τ2.length=(msk mask τ).length) (h:∀i:Nat,mask[i]? ≠some true->τ2[i]? =(msk mask τ)[i]?):msk mask τ2=msk mask τ:=by
 have ll:=jZ7 hl
 apply lKc
 intro i
 unfold msk at h ⊢
 rw[lQh,lQh]
 cases hm:mask[i]? with
 | none=>rfl
 | some b=>
  cases b with
  | true=>
   have h1:i<mask.length:=by
    rcases lJw i mask.length with z | z
    ·exact z
    ·rw[lJh z] at hm;cases hm
   have h2:i<τ2.length:=by omega
   have h3:i<τ.length:=by omega
   rw[lJc h2,lJc h3]
   simp
  | false=>
   have:=h i (by rw[hm];simp)
   rw[lQh,hm] at this
   rw[this]
   cases τ[i]? with
   | none=>rfl
   | some o=>simp
def tCompAt (mask:List Bool) (g:TG3) (tif:TT3) (te:TE3) (τ:St3) (xs:List T) (stay:Gp->Prop) (G:Gp) (Q:VK3):Prop:=
 ∀D,G D=none->∃P:Nat->List T->Gp->Prop,P 0 [] (gup G D (.lst []))/\(∀i acc G,i<=xs.length->P i acc G->stay G/\G D=some (.lst acc))/\
  (∀i x acc G,xs[i]? =some x->P i acc G->g x (msk mask τ) G fun τ2 G2=>tif τ2 G2 fun b G3=>if b=true then te τ2 G3 fun y G4=>G4 D=some (.lst acc)/\acc.length<sizeLine/\P (i+1) (acc++[y]) (gup G4 D (.lst (acc++[y]))) else P (i+1) acc G3)/\
  ∀acc G,P xs.length acc G->Q (.ref D) G
noncomputable def jU3 (mask:List Bool) (wi:TI3) (g:TG3) (tif:TT3) (te:TE3):TE3:=fun τ G Q=>wi τ G fun xs stay G1=>tCompAt mask g tif te τ xs stay G1 Q
section
variable {X:Cx} {scope:Scope} {cl:List (Str×Addr)} {mask:List Bool} {elt iter tg:Expr} {ifs:List Expr} {pos:Pos} {wi:TI3} {g:TG3} {tif:TT3} {te:TE3}
theorem kUw (hc:X.calm=true) (ok:CmpOk X scope cl mask)
  (hgk:GKeep mask g) (hg:∀C fp s H,PG3 (jXd X scope cl C fp s H) tg g) (hif:∀C fp s H,PIf3 (jXd X scope cl C fp s H) ifs tif) (he:∀C fp s H,PE3 (jXd X scope cl C fp s H) elt te)
  {pins:List (Addr×Obj)} {τ:St3} {H:Hp} {Q:VK3} {itv:Value} {s2:Shared} {E:Value->Shared->Prop} {RR:Value->Addr->Result->Shared->Prop}
  (h2:PIE3 X pins τ H tg (fun xs stay G=>tCompAt mask g tif te τ xs stay G Q) itv s2)
  (hRR:∀D C s' m,s'.heap.Ns C m->(∃G1 H1,Ext H H1/\H1 C=none/\Q (.ref D) G1/\∀h',Heap.SameBut C s'.heap h'->Inv3 X pins τ G1 H1 {s' with heap:=h'})->(∃oC,s'.heap.get? C=some oC/\C≠X.env.locals/\C∉X.fs/\∀v,oC.data≠ .cell v)->(∀x c,X.env.cells.lookup x=some c->c≠C)->(∀p∈X.pn++pins,p.1≠C)->X.s₀.heap.objs.size<=C->RR (.ref D) C (.ok .next) s'):
  wpAny (model X.prog X.w) X.A (newList []) (fun acc s₃=>wpAny (model X.prog X.w) X.A (newFunctionEnv scope X.env.globals cl [] X.env.qual none .none (some X.env)) (fun cenv s₄=>
   codeAny (model X.prog X.w) X.A (.compStart (.ListComp elt [⟨tg,iter,ifs,0⟩] scope pos) 0 itv acc {cenv with scope:=relabel scope X.env}) (RR acc cenv.locals) s₄) E s₃) E s2:=by
 obtain⟨it,fp,tn,J,xs,stay,G2,H2,e,eH,⟨σ,I2,hs2,hg2⟩,T0,st2,f2,IT,hq⟩:=h2
 subst e
 refine wpAny_newObj_type (wpAny_newFunctionEnv ok.nc (by intro y hy;simp at hy) (fun h4 hns hsb=> ?_) ok.kind)
 dsimp only at hns hsb ⊢
 have hD:H2 s2.heap.objs.size=none:=I2.hok.fresh (lJd _)
 generalize hs3:({s2 with heap:=s2.heap.push {cls:= .type "list",dict:=none,data:= .seq ([]:List Value).toArray} }:Shared)=s3
 have eh3:s2.heap.push {cls:= .type "list",dict:=none,data:= .seq ([]:List Value).toArray}=s3.heap:=by rw[<-hs3]
 have I3:Inv X pins σ (upd H2 s2.heap.objs.size (.lst [])) s3:=by
  rw[<-hs3]
  exact I2.laid (t':=s2.toks) (fun b u e=>Heap.get?_push_of_some _ e) (lJd _) ⟨lJg _,[],0,.nil,Heap.get?_push_size _ rfl⟩
 rw[eh3] at hns hsb ⊢
 generalize hDd:s2.heap.objs.size=D at *
 have e3:Ext H2 (upd H2 D (.lst [])):= .upd (.none hD)
 have hg3:GRel X.K (upd H2 D (.lst [])) (gup G2 D (.lst [])):=hg2.lstNew (show Reps X.K H2 [] [] from rfl) (.none hD)
 have obj2:∀b∈fp,∃o,s2.heap.get? b=some o:=fun b hb=>let ⟨o,e,_⟩:=T0.obj 0 _ st2 b hb;⟨o,e⟩
 have fD:∀b∈fp,b≠D:=fun b hb=>by obtain⟨o,e⟩:=obj2 b hb;rw[<-hDd];exact lJl (Heap.lt_size e)
 have f3:∀b∈fp,FpOk X pins (upd H2 D (.lst [])) b:=fun b hb=>⟨by rw[jKp (fD b hb)];exact (f2 b hb).1,(f2 b hb).2⟩
 have k3:∀b o,s2.heap.get? b=some o->s3.heap.get? b=some o:=fun b o e=>by rw[<-eh3];exact Heap.get?_push_of_some _ e
 have obj3:∀b∈fp,∃o,s3.heap.get? b=some o:=fun b hb=>let ⟨o,e⟩:=obj2 b hb;⟨o,k3 b o e⟩
 have k4:∀b o,s3.heap.get? b=some o->h4.get? b=some o:=fun b o e=>hsb.extBut b o (lJl (Heap.lt_size e)) (Heap.get?_push_of_some _ e)
 have Ic:Inv (jXd X scope cl s3.heap.objs.size fp s3 (upd H2 D (.lst []))) [] (msk mask σ) (upd H2 D (.lst [])) {s3 with heap:=h4,toks:=s3.toks+([]:List (Str×Value)).length}:=cmp_start ok I3 f3 obj3 hns k4
 have st4:tn 0 h4:=T0.keep _ _ _ st2 fun b _ o e=>k4 b o (k3 b o e)
 have hl3:mask.length=τ.length:=ok.len.trans (I3.len.symm.trans hs2.1)
 obtain⟨P,p0,hst,turn,fin⟩:=hq D (hg2.fresh hD)
 have fpc:∀ {H':Hp} {pl:List (Addr×Obj)},(∀b∈fp,H' b=none)->(∀p∈pl,p.1∉fp)->∀b∈fp,FpOk (jXd X scope cl s3.heap.objs.size fp s3 (upd H2 D (.lst []))) pl H' b:=fun {H' pl} hn hp b hb=>by
  obtain⟨o,e⟩:=obj3 b hb
  refine⟨hn b hb,lJl (Heap.lt_size e),?_,.inl hb,fun x d hd=>(f3 b hb).2.2.2.2.1 x d (kKc ok.cl (by simp) _ _ hd),fun p hpp z=> ?_⟩
  ·intro z
   rcases lJn.mp (I3.stkSub b z) with q | q
   ·exact (f3 b hb).2.1 q
   ·exact (f3 b hb).2.2.1 q
  ·have hpp':p∈pl:=by simpa[jXd] using hpp
   exact hp p hpp' (z▸hb)
 have loop:∀s4:Shared,s4={s3 with heap:=h4,toks:=s3.toks+([]:List (Str×Value)).length}->
   codeAny (model X.prog X.w) X.A (.compLoop (.ListComp elt [⟨tg,iter,ifs,0⟩] scope pos) 0 (.ref it) (.ref D) (compEnvC scope cl s3.heap.objs.size X.env)) (RR (.ref D) s3.heap.objs.size) s4:=by
  rintro s4 rfl
  refine compLoop3 (fun n s'=>∃i acc G' H',n=xs.length-i/\i<=xs.length/\Ext H2 H'/\Inv3 (jXd X scope cl s3.heap.objs.size fp s3 (upd H2 D (.lst []))) [] (msk mask τ) G' H' s'/\tn i s'.heap/\(∀b∈fp,H' b=none)/\P i acc G') ?_ xs.length
   ⟨0,[],_,_,rfl,lJg _,e3,⟨_,Ic,msk_rel (hs2.mono e3) hl3,hg3⟩,st4,fun b hb=>(f3 b hb).1,p0⟩
  rintro n s5 ⟨i,acc,G5,H5,en,hi5,e5,⟨σ5,I5,hs5,hg5⟩,st5,fr5,p5⟩
  obtain⟨hstay,hacc⟩:=hst i acc G5 hi5 p5
  obtain⟨go,stop,yl⟩:=IT i H5 G5 e5 hg5 hstay
  by_cases hlt:i<xs.length
  ·refine thn (T0.item (jXd X scope cl s3.heap.objs.size fp s3 (upd H2 D (.lst []))) rfl rfl rfl hc i [] s5 σ5 H5 (fun _ _=>False) I5 (fpc fr5 (by simp)) st5 (go hlt)) fun r s6 ⟨u,hr,h6⟩=> ?_
   subst hr
   refine thn h6 fun _ s7 ⟨x,H7,I7,r7,y7,st7,fr7⟩=> ?_
   obtain⟨e7,g7,t,ht,rt⟩:=yl hlt x H7 y7
   have I7':=I7.pinned (fpc fr7 (by simp)) (T0.obj _ _ st7)
   refine thn (hg _ _ _ _ ([]++jYx fp s7.heap) s7 (msk mask τ) G5 H7 t u _ ⟨σ5,I7',hs5.mono e7,g7⟩ ⟨x,rt,r7⟩ (hgk _ _ _ _ (turn i t acc G5 ht p5))) fun _ s8 ⟨τ8,G8,H8,e8,I8,q8,ql8,qk8⟩=> ?_
   refine thn (hif _ _ _ _ ([]++jYx fp s7.heap) s8 τ8 G8 H8 _ I8 q8) fun b s9 ⟨G9,H9,e9,I9,q9⟩=> ?_
   have back:∀ {Ga:Gp} {Ha:Hp} {sa:Shared} {acc':List T},Ext H7 Ha->Inv3 (jXd X scope cl s3.heap.objs.size fp s3 (upd H2 D (.lst []))) ([]++jYx fp s7.heap) τ8 Ga Ha sa->P (i+1) acc' Ga->
     ∃m,m<n/\∃i acc G' H',m=xs.length-i/\i<=xs.length/\Ext H2 H'/\Inv3 (jXd X scope cl s3.heap.objs.size fp s3 (upd H2 D (.lst []))) [] (msk mask τ) G' H' sa/\tn i sa.heap/\(∀b∈fp,H' b=none)/\P i acc G':=by
    rintro Ga Ha sa acc' ea ⟨σa,Ia,hsa,hga⟩ pa
    have e2a:Ext H5 Ha:=e7.trans ea
    have hla:mask.length=τ8.length:=by rw[ql8,jZ7 hl3];exact hl3
    have hsm:=msk_rel (mask:=mask) hsa hla
    rw[msk_same hl3 ql8 qk8] at hsm
    refine⟨xs.length-(i+1),by omega,i+1,acc',Ga,Ha,rfl,hlt,e5.trans e2a,⟨msk mask σa,(Ia.weak (jZ7 (hla.trans hsa.1.symm)) fun j v hv=>(msk_get hv).2).pins_of (fun p hp=>absurd hp (by simp)),hsm,hga⟩,?_,fun b hb=> ?_,pa⟩
    ·exact T0.keep _ _ _ st7 fun b hb o e=>(Ia.pin (b,o) (lJ3 _ (lJ3 _ (jYm hb e)))).1
    ·obtain⟨o,e,d⟩:=T0.obj _ _ st7 b hb
     exact (Ia.pin (b,o) (lJ3 _ (lJ3 _ (jYm hb e)))).2.1
   cases b with
   | false=>
    rw[if_neg lJf] at q9 ⊢
    exact back (e8.trans e9) I9 q9
   | true=>
    rw[if_pos rfl] at q9 ⊢
    refine thn (he _ _ _ _ ([]++jYx fp s7.heap) s9 τ8 G9 H9 _ I9 q9) fun y s10 w_=>w_.el fun ty G10 H10 e10 I10 r10 ⟨hD10,hz10,q10⟩=> ?_
    obtain⟨vy,rvy,ruy⟩:=r10
    refine thn (jQk ([]++jYx fp s7.heap) s10 τ8 G10 H10 (.ref D) [ty] (.ref D) [y] (fun _ G'=>P (i+1) (acc++[ty]) G') I10 ⟨.ref D,rfl,rfl⟩ ⟨[vy],.one rvy,.cons ruy .nil⟩ ⟨D,acc,ty,rfl,rfl,hD10,hz10,q10⟩) fun _ s11 w_=>w_.el fun _ G11 H11 e11 I11 _ q11=> ?_
    exact back (((e8.trans e9).trans e10).trans e11) I11 q11
  ·have ei:i=xs.length:=by omega
   refine thn (T0.done (jXd X scope cl s3.heap.objs.size fp s3 (upd H2 D (.lst []))) rfl rfl rfl hc i [] s5 σ5 H5 (fun _ _=>False) I5 (fpc fr5 (by simp)) st5 (stop (by omega))) fun r s6 ⟨hr,I6⟩=> ?_
   subst hr;subst ei
   obtain⟨m,hn,_⟩:=I6.loc
   obtain⟨oC,es,ep,hoC,hdC,_⟩:=id hn
   refine hRR D s3.heap.objs.size s6 m hn ⟨G5,H5,eH.trans e5,I6.free,fin acc G5 p5,fun h' hb=>⟨σ,cmp_end I3 f3 (lJd _) I6 hb,hs2.mono e5,hg5⟩⟩
    ⟨oC,hoC,Nat.ne_of_gt I3.lt,I3.nofs (lJd _),fun v z=>by rw[hdC] at z;cases z⟩ (fun x d hd=> ?_) (fun p hp=> ?_) I3.sz
   ·obtain⟨v,q⟩:=I3.cell x d hd
    exact lJl q.lt
   ·exact lJl (Heap.lt_size (I3.pin p hp).1)
 exact codeAny_compStart_list (loop _ (by rw[<-hs3])) (T0.self _ 0 _ _ _ st4 (loop _ (by rw[<-hs3])))
theorem jVz (hc:X.calm=true) (ok:CmpOk X scope cl mask) (hi:PI3 X tg iter wi) (hgk:GKeep mask g) (hg:∀C fp s H,PG3 (jXd X scope cl C fp s H) tg g) (hif:∀C fp s H,PIf3 (jXd X scope cl C fp s H) ifs tif) (he:∀C fp s H,PE3 (jXd X scope cl C fp s H) elt te)
  (hs:∀x,foldedSetIterable iter X.env x=pure x:=by intro _;rfl):PE3 X (.ListComp elt [⟨tg,iter,ifs,0⟩] scope pos) (jU3 mask wi g tif te):=by
 intro pins s τ G H Q I h
 rw[eval_ListComp]
 refine wpAny_comprehension_free (use:=none) rfl hs (kUx ok.cl) ok.kind ok.nm (thn (hi pins s τ G H _ I h) fun xv s1 h1=>thn h1 fun itv s2 h2=> ?_)
 refine kUw (RR:=fun acc C=>compPost (model X.prog X.w) X.A X.xe none (EP3 X pins τ H Q) acc C) hc ok hgk hg hif he h2 ?_
 rintro D C s' m hn ⟨G1,H1,e1,_,q1,hI⟩ _ _ _ _
 exact⟨m,hn,fun h' hb=>⟨.ref D,G1,H1,e1,hI h' hb,⟨.ref D,rfl,rfl⟩,q1⟩⟩
theorem s_comp {i:Nat} {y:Str} {py spos:Pos} (hc:X.calm=true) (hN:X.N.Nodup) (ok:CmpOk X scope cl mask) (hi:PI3 X tg iter wi) (hgk:GKeep mask g) (hg:∀C fp s H,PG3 (jXd X scope cl C fp s H) tg g) (hif:∀C fp s H,PIf3 (jXd X scope cl C fp s H) ifs tif) (he:∀C fp s H,PE3 (jXd X scope cl C fp s H) elt te)
  (hy:X.N[i]? =some y:=by rfl) (hx:X.env.scope.names.lookup y=some .local:=by rfl)
  (hsw:swapsWith (.ListComp elt [⟨tg,iter,ifs,0⟩] scope pos) (some (.Name y py)) spos.line X.env=pure true:=by rfl)
  (hs:∀x,foldedSetIterable iter X.env x=pure x:=by intro _;rfl):PS3 X (.Assign [.Name y py] (.ListComp elt [⟨tg,iter,ifs,0⟩] scope pos) spos) (tAsg (jU3 mask wi g tif te) (jJj i)):=by
 intro pins s τ G H D I h
 rw[exec_Assign_Name_used _ _ _ _ hsw];refine wpAny_bind (wpAny_standAt (wpAny_bind ?_))
 show wpAny _ X.A (do let _ <-comprehension (.ListComp elt [⟨tg,iter,ifs,0⟩] scope pos) scope X.env _ (newList []) false (eval iter X.env) (some (assign (.Name y py) X.env))) _ _ s
 refine wpAny_bind (wpAny_mono (wpAny_comprehension_free (use:=some (assign (.Name y py) X.env)) (Q:=fun _ s'=>SP3 X pins H D .next s') rfl hs (kUx ok.cl) ok.kind ok.nm
  (thn (hi pins s τ G H _ I h) fun xv s1 h1=>thn h1 fun itv s2 h2=> ?_)) (fun _ s' hq=>wpAny_pure (wpAny_pure hq)) fun _ _ e=>e)
 refine kUw (RR:=fun acc C=>compPost (model X.prog X.w) X.A X.xe (some (assign (.Name y py) X.env)) (fun _ s'=>SP3 X pins H D .next s') acc C) hc ok hgk hg hif he h2 ?_
 rintro Dd C s' m hn ⟨G1,H1,e1,hH1C,q1,hI⟩ ⟨oC,hoC,c1,c2,c3⟩ c4 c5 c6
 show wpAny _ X.A (assign (.Name y py) X.env (.ref Dd)) _ _ _
 obtain⟨σ1,I1,hs1,hg1⟩:=hI s'.heap (.refl ..)
 have I1':Inv X (pins++[(C,oC)]) σ1 H1 s':=I1.pins_of fun p hp=>(lJt.mp hp).elim (fun z=>I1.pin p (lJ3 _ z)) fun z=>by
  obtain rfl:p=(C,oC):=by simpa using z
  exact⟨hoC,hH1C,c1,c2,c3⟩
 refine wpAny_assign_Name (kVe I1' hN hy (.inl hx) (v:= .ref Dd) rfl (fun s2 I2=> ?_) (.inr hx))
 have hC2:s2.heap.get? C=some oC:=(I2.pin (C,oC) (lJ3 _ (lJ3 _ (by simp)))).1
 obtain⟨oC',es,ep,hoC',r⟩:=hn
 have eo:oC'=oC:=by rw[hoC] at hoC';exact (lJx hoC').symm
 subst eo
 refine⟨m,⟨oC',es,ep,hC2,r⟩,fun h' hb=>⟨_,G1,H1,e1,⟨_,?_,hs1.set i (show Rep X.K H1 (.ref Dd) (.ref Dd) from rfl),hg1⟩,q1⟩⟩
 exact I2.unpinned.turned (t':=s2.toks) (fun b o hb' e=>(hb.2 b hb').trans e) hH1C c1 (.inr c6) c4 c5
end
end L3
namespace HT
open PySem PyProof.Rows
noncomputable def lexLe:(xs ys:List Int)->Bool
 | [],_=>true
 | _::_,[]=>false
 | x::xs,y::ys=>if x=y then lexLe xs ys else decide (x<=y)
theorem lexLe_cons (x y:Int) (xs ys:List Int):lexLe (x::xs) (y::ys)=if x=y then lexLe xs ys else decide (x<=y):=rfl
theorem lexLe_nil (ys:List Int):lexLe [] ys=true:=by cases ys<;>rfl
theorem kUa (x:Int) (xs:List Int):lexLe (x::xs) []=false:=rfl
theorem rcLe_int (A:Around) (s:Shared) (a:Int) (t:Tok) (c:Int) (u:Tok) (prog:Program) (w:World) (E:Value->Shared->Prop) (Q:Value->Shared->Prop) (h:Q (.bool (decide (a<=c))) s):
  wpAny (model prog w) A (richCompare .LtE (.int a t) (.int c u)) Q E s:=
 (PyProof.Rows.le_int h:wpAny (model prog w) A (compareOp .LtE (.int a t) (.int c u)) Q E s)
section
open PySem.SeqAt
open PySem.AutoSeq1 (wpAny_loadPart')
open PySem.MeetsSeq PySem.MeetsSeq2 PySem.MeetsSeq3
theorem kU7 (l b:Addr) (items items2:Array Value) (n n2:Nat) (dd dd2:Option Addr) (sl sl2:Array (Option Value)) (ns ms:List Int) (hi:IntsAre items.toList ns) (hj:IntsAre items2.toList ms):
  Meets (Builtin.«tuple.__le__» ⟨[.ref l,.ref b],[]⟩)
   (fun _ R s=>s.heap.get? l=some {cls:= .type "tuple",dict:=dd,data:= .seq items n,slots:=sl}/\s.heap.get? b=some {cls:= .type "tuple",dict:=dd2,data:= .seq items2 n2,slots:=sl2}/\
    R (.ok (.ret (.bool (lexLe ns ms)))) s):=
 .of_wp fun prog w A R s h=>by
  obtain⟨hp,g,d,tk,os⟩:=s;obtain⟨hl,hb,h⟩:=h
  have f2:=AutoSeq1.sub_tuple_tuple
  have z1:items.size=ns.length:=by rw[<-hi.length];simp
  have z2:items2.size=ms.length:=by rw[<-hj.length];simp
  wp_walk using wpAny_loadPart' hl,wpAny_loadPart' hb,wpAny_forIn_list _ (fun rest b s'=>b.1=none/\s'=⟨hp,g,d,tk,os⟩/\∃(vs ws:List Value) (ns' ms':List Int),rest=vs.zip ws/\
   IntsAre vs ns'/\IntsAre ws ms'/\ns'.length+items2.size=ms'.length+items.size/\R (.ok (.ret (.bool (lexLe ns' ms')))) ⟨hp,g,d,tk,os⟩) _
  case turn=>
   rintro⟨y,x⟩ rest b s' ⟨hb',rfl,vs,ws,ns',ms',hz,hvi,hwi,hlen,hR⟩
   cases hvi with
   | nil=>rw[List.zip_nil_left] at hz;cases hz
   | cons a t hvi'=>
    cases hwi with
    | nil=>rw[List.zip_nil_right] at hz;cases hz
    | cons c u hwi'=>
     rw[List.zip_cons_cons] at hz
     injection hz with hyx hrest
     injection hyx with hy hx
     subst hy hx
     rw[lexLe_cons] at hR
     simp only[lJ4] at hlen
     obtain⟨e,he,hiff⟩:=eqAt_int A.in1 ⟨hp,g,d,tk,os⟩ a t c u
     refine wpAny_bind (he prog w _ _ ?_)
     cases e with
     | true=>
      rw[if_pos (hiff.mp rfl)] at hR
      wp_walk
      exact⟨rfl,rfl,_,_,_,_,hrest,hvi',hwi',by omega,hR⟩
     | false=>
      rw[if_neg (fun q=>absurd (hiff.mpr q) lJf)] at hR
      have hri:=rcLe_int A.in1 ⟨hp,g,d,tk,os⟩ a t c u prog w
      wp_walk using hri
      exact⟨_,rfl,by simpa using hR⟩
  case fin=>
   rintro⟨b1,b2⟩ s' ⟨hb',rfl,vs,ws,ns',ms',hz,hvi,hwi,hlen,hR⟩
   simp only at hb'
   subst hb'
   have hv:lexLe ns' ms'=decide (items.size<=items2.size):=by
    cases hvi with
    | nil=>
     simp only[List.length_nil] at hlen
     rw[lexLe_nil]
     exact (decide_eq_true (by omega)).symm
    | cons a t hv=>
     cases hwi with
     | nil=>
      simp only[List.length_nil,lJ4] at hlen
      rw[kUa]
      exact (decide_eq_false (by omega)).symm
     | cons c u hw=>
      rw[List.zip_cons_cons] at hz
      cases hz
   rw[hv] at hR
   wp_walk
   exact⟨_,rfl,by simpa[Builtin.Tuple.tupleCompareSizes] using hR⟩
  case h=>
   exact⟨rfl,rfl,items.toList,items2.toList,ns,ms,rfl,hi,hj,by omega,h⟩
end
theorem le_tupInts {prog:Program} {w:World} {A:Around} {E:Value->Shared->Prop} {s:Shared} {l b:Addr} {items items2:Array Value} {ns ms:List Int} {Q:Value->Shared->Prop} (hl:IsTup s.heap l items) (hb:IsTup s.heap b items2) (hi:IntsAre items.toList ns) (hj:IntsAre items2.toList ms)
  (hu:A.units<cLine) (h:Q (.bool (lexLe ns ms)) s):wpAny (model prog w) A (compareOp .LtE (.ref l) (.ref b)) Q E s:=by
 obtain⟨⟨cls,dd,data,sl⟩,ho,hc,n,hd⟩:=id hl
 obtain⟨⟨cls2,dd2,data2,sl2⟩,ho2,hc2,n2,hd2⟩:=id hb
 simp only at hc hd hc2 hd2
 subst hc hd hc2 hd2
 exact richCompare_meets_room (op:= .LtE) ⟨_,ho,rfl⟩ ⟨_,ho2,rfl⟩ PySem.F.slot_tuple_le PySem.F.entry_tuple_le (PySem.F.args_tuple_le_2 _ _) (kU7 l b items items2 n n2 dd dd2 sl sl2 ns ms hi hj)
  ⟨ho,ho2,show Value.bool (lexLe ns ms)≠Value.notImplemented/\Q (.bool (lexLe ns ms)) s from⟨(fun x=>nomatch x),h⟩⟩ hu
end HT
namespace L3
open PySem PySem.Spec PyProof.Rows L2
section
variable {X:Cx}
theorem jUk {K:PySem.W.Frag} {H:Hp}:∀ {ns:List Int} {vs:List V},Reps K H (ns.map T.int) vs->vs=ns.map V.int
 | [],_,h=>h
 | n::ns,_,⟨v,ws,e,r,rs⟩=>by
  subst e;cases (show v= .int n from r)
  rw[jUk rs];rfl
noncomputable def rLeT:R3:=fun x y G Q=>∃ns ms,x= .tup (ns.map T.int)/\y= .tup (ms.map T.int)/\Q (.bl (HT.lexLe ns ms)) G
theorem o_leT (hu:X.A.units<cLine):Op3 X (compareOp .LtE) rLeT:=by
 rintro pins s τ G H x y v u Q ⟨σ,I,hs,hg⟩ ⟨a,ra,rv⟩ ⟨b,rb,ru⟩ ⟨ns,ms,ex,ey,q⟩
 subst ex;subst ey
 obtain⟨p,vs,e1,h1,h2⟩:=(show ∃p vs,a= .ref p/\H p=some (.tup vs)/\Reps X.K H (ns.map T.int) vs from ra)
 obtain⟨p',ws,e2,h3,h4⟩:=(show ∃p vs,b= .ref p/\H p=some (.tup vs)/\Reps X.K H (ms.map T.int) vs from rb)
 subst e1;subst e2
 cases rv;cases ru
 rw[jUk h2] at h1
 rw[jUk h4] at h3
 obtain⟨its,r1,p1,_⟩:=I.tuple (.of h1)
 obtain⟨its2,r2,p2,_⟩:=I.tuple (.of h3)
 exact HT.le_tupInts p1 p2 (show IntsAre its.toArray.toList ns from kUp r1) (show IntsAre its2.toArray.toList ms from kUp r2) hu ⟨.bl _,G,H,.refl H,⟨σ,I,hs,hg⟩,⟨.bl _,rfl,rfl⟩,q⟩
noncomputable def rLeI:R3:=rI0 fun i j=> .bl (decide (i<=j))
noncomputable def rLeA:R3:=fun x y G Q=>rLeI x y G Q\/rLeT x y G Q
theorem o_leA (hu:X.A.units+20<cLine):Op3 X (compareOp .LtE) rLeA:=o_le.or (o_leT (by omega))
theorem eqG_cases {G:Gp} {x y:T} {b:Bool} (h:eqG G x y=some b):
  (∃p q xs ys,x= .ref p/\y= .ref q/\G p=some (.lst xs)/\G q=some (.lst ys)/\jZp xs=true/\jZp ys=true/\b=eqTs xs ys)\/(eqOk x=true/\eqOk y=true/\b=eqT x y):=by
 by_cases hr:∃p q,x= .ref p/\y= .ref q
 ·obtain⟨p,q,ex,ey⟩:=hr
  subst ex;subst ey
  refine .inl ?_
  simp only[eqG] at h
  split at h
  ·rename_i xs ys h1 h2
   split at h
   ·rename_i hc
    cases h
    exact⟨p,q,xs,ys,rfl,rfl,h1,h2,hc.1,hc.2,rfl⟩
   ·cases h
  ·cases h
 ·refine .inr ?_
  have e:eqG G x y=if eqOk x=true/\eqOk y=true then some (eqT x y) else none:=by
   cases x with
   | ref p=>cases y with
    | ref q=>exact absurd ⟨p,q,rfl,rfl⟩ hr
    | _=>rfl
   | _=>rfl
  rw[e] at h
  split at h
  ·rename_i hc
   cases h
   exact⟨hc.1,hc.2,rfl⟩
  ·cases h
mutual
theorem reads_T {X:Cx} {pins:List (Addr×Obj)} {σ:L2.St} {H:Hp} {s:Shared} (I:Inv X pins σ H s):∀(x:T) {a:V} {u:Value},tree x=true->Rep X.K H x a->RelV a u->∃as,Reads s.heap u (td x) as
 | .non,a,u,_,r,q=>by cases (show a= .non from r);cases q;exact⟨_,.none⟩
 | .bl b,a,u,_,r,q=>by cases (show a= .bl b from r);cases q;exact⟨_,.bool b⟩
 | .int b,a,u,_,r,q=>by cases (show a= .int b from r);obtain⟨t,rfl⟩:=q;exact⟨_,.int b t⟩
 | .str b,a,u,_,r,q=>by cases (show a= .str b from r);obtain⟨t,rfl⟩:=q;exact⟨_,.str b t⟩
 | .tup xs,a,u,ht,r,q=>by
  obtain⟨p,vs,e1,h1,h2⟩:=(show ∃p vs,a= .ref p/\H p=some (.tup vs)/\Reps X.K H xs vs from r)
  subst e1;cases q
  obtain⟨its,rv,⟨o,ho,hc,n,hd⟩,_⟩:=I.tuple (.of h1)
  obtain⟨as,ra⟩:=kJ3 I xs (show jUg xs=true from ht) h2 rv
  exact⟨_,.tuple ho hc hd (by simpa using ra)⟩
 | .ref _,_,_,ht,_,_=>absurd (show false=true from ht) lJf
 | .scr _,_,_,ht,_,_=>absurd (show false=true from ht) lJf
 | .ty _,_,_,ht,_,_=>absurd (show false=true from ht) lJf
theorem kJ3 {X:Cx} {pins:List (Addr×Obj)} {σ:L2.St} {H:Hp} {s:Shared} (I:Inv X pins σ H s):∀(xs:List T) {vs:List V} {us:List Value},jUg xs=true->Reps X.K H xs vs->Vals vs us->∃as,ReadsAll s.heap us (tds xs) as
 | [],_,_,_,r,q=>by cases r;cases q;exact⟨_,.nil⟩
 | x::xs,_,_,ht,⟨v,ws,e,r1,r2⟩,q=>by
  subst e
  cases q with
  | cons q1 q2=>
   have hx:tree x=true/\jUg xs=true:=by simpa[jUg] using ht
   obtain⟨as,ra⟩:=reads_T I x hx.1 r1 q1
   obtain⟨bs,rb⟩:=kJ3 I xs hx.2 r2 q2
   exact⟨_,.cons ra rb⟩
end
mutual
theorem eqv_T:∀(x y:T),tree x=true->tree y=true->PyData.eqv (td x) (td y)=eqT x y
 | .non,y,_,hy=>by cases y<;>first | rfl | exact absurd (show false=true from hy) lJf
 | .bl b,y,_,hy=>by cases y<;>first | rfl | exact absurd (show false=true from hy) lJf
 | .int b,y,_,hy=>by cases y<;>first | rfl | exact absurd (show false=true from hy) lJf
 | .str b,y,_,hy=>by cases y<;>first | rfl | exact absurd (show false=true from hy) lJf
 | .tup xs,y,hx,hy=>by
  cases y with
  | tup ys=>exact eqv_Ts xs ys (show jUg xs=true from hx) (show jUg ys=true from hy)
  | _=>first | rfl | exact absurd (show false=true from hy) lJf
 | .ref _,_,ht,_=>absurd (show false=true from ht) lJf
 | .scr _,_,ht,_=>absurd (show false=true from ht) lJf
 | .ty _,_,ht,_=>absurd (show false=true from ht) lJf
theorem eqv_Ts:∀(xs ys:List T),jUg xs=true->jUg ys=true->PyData.eqvAll (tds xs) (tds ys)=eqTs xs ys
 | [],[],_,_=>rfl
 | [],_::_,_,_=>rfl
 | _::_,[],_,_=>rfl
 | x::xs,y::ys,hx,hy=>by
  have hx':tree x=true/\jUg xs=true:=by simpa[jUg] using hx
  have hy':tree y=true/\jUg ys=true:=by simpa[jUg] using hy
  show (PyData.eqv (td x) (td y)&&PyData.eqvAll (tds xs) (tds ys))=(eqT x y&&eqTs xs ys)
  rw[eqv_T x y hx'.1 hy'.1,eqv_Ts xs ys hx'.2 hy'.2]
end
theorem eq_reads {pins:List (Addr×Obj)} {σ:L2.St} {H:Hp} {s:Shared} {G:Gp} {x y:T} {a b:V} {u v:Value} {k:Bool} (I:Inv X pins σ H s) (hg:GRel X.K H G) (ra:Rep X.K H x a) (rb:Rep X.K H y b) (ru:RelV a u) (rv:RelV b v) (h:eqG G x y=some k):
  ∃da db as bs,Reads s.heap u da as/\Reads s.heap v db bs/\da.canLay0=true/\db.canLay0=true/\da.depth<=50/\PyData.eqv da db=k:=by
 rcases eqG_cases h with ⟨p,q,xs,ys,ex,ey,hp,hq,ox,oy,e⟩ | ⟨ox,oy,e⟩
 ·subst ex;subst ey
  cases (show a= .ref p from ra);cases (show b= .ref q from rb)
  cases ru;cases rv
  obtain⟨vs,h1,h2⟩:=hg.lst hp
  obtain⟨ws,h3,h4⟩:=hg.lst hq
  obtain⟨its,r1,⟨o,n,ho,hc,_,hd⟩,_⟩:=I.list (.of h1)
  obtain⟨its',r2,⟨o',n',ho',hc',_,hd'⟩,_⟩:=I.list (.of h3)
  simp only[jZp,lJ8,decide_eq_true_eq] at ox oy
  obtain⟨as,r3⟩:=kJ3 I xs ox.1.1 h2 r1
  obtain⟨bs,r4⟩:=kJ3 I ys oy.1.1 h4 r2
  exact⟨.list (tds xs),.list (tds ys),_,_,.list ho hc hd (by simpa using r3),.list ho' hc' hd' (by simpa using r4),ox.1.2,oy.1.2,ox.2,by rw[e];exact eqv_Ts xs ys ox.1.1 oy.1.1⟩
 ·simp only[eqOk,lJ8,decide_eq_true_eq] at ox oy
  obtain⟨as,r3⟩:=reads_T I x ox.1.1 ra ru
  obtain⟨bs,r4⟩:=reads_T I y oy.1.1 rb rv
  exact⟨td x,td y,_,_,r3,r4,ox.1.2,oy.1.2,ox.2,by rw[e];exact eqv_T x y ox.1.1 oy.1.1⟩
theorem jZ5 (hu:X.A.units+64<cLine):Op3 X (compareOp .Eq) rEqA:=by
 rintro pins s τ G H x y v u Q ⟨σ,I,hs,hg⟩ ⟨a,ra,rv⟩ ⟨b,rb,ru⟩ ⟨k,hk,q⟩
 obtain⟨da,db,as,bs,r1,r2,c1,c2,d,e⟩:=eq_reads I hg ra rb rv ru hk
 exact SeqAt.compareEq_reads r1 r2 c1 c2 (by omega) ⟨.bl k,G,H,.refl H,⟨σ,I,hs,hg⟩,⟨.bl k,rfl,by rw[e];rfl⟩,q⟩
theorem o_neA (hu:X.A.units+64<cLine):Op3 X (compareOp .NotEq) rNeA:=by
 rintro pins s τ G H x y v u Q ⟨σ,I,hs,hg⟩ ⟨a,ra,rv⟩ ⟨b,rb,ru⟩ ⟨k,hk,q⟩
 obtain⟨da,db,as,bs,r1,r2,c1,c2,d,e⟩:=eq_reads I hg ra rb rv ru hk
 exact SeqAt.compareNe_reads r1 r2 c1 c2 (by omega) ⟨.bl (!k),G,H,.refl H,⟨σ,I,hs,hg⟩,⟨.bl (!k),rfl,by rw[e];rfl⟩,q⟩
end
section
variable {X:Cx}
noncomputable def jY5:T->Bool
 | .non=>true
 | .bl _=>true
 | .int _=>true
 | .str _=>true
 | _=>false
theorem kKa {K:PySem.W.Frag} {H:Hp} {x:T} {a:V} (r:Rep K H x a) (f:jY5 x=true):kUe a=true:=by
 cases x with
 | non=>cases (show a= .non from r);rfl
 | bl _=>cases (show a= .bl _ from r);rfl
 | int _=>cases (show a= .int _ from r);rfl
 | str _=>cases (show a= .str _ from r);rfl
 | _=>exact absurd (show false=true from f) lJf
theorem flat_eq {K:PySem.W.Frag} {H:Hp} {x y:T} {a b:V} (r:Rep K H x a) (q:Rep K H y b) (f:jY5 x=true) (g:jY5 y=true):eqV a b=eqT x y:=by
 cases x with
 | non=>cases (show a= .non from r);cases y with
  | non=>cases (show b= .non from q);rfl
  | bl _=>cases (show b= .bl _ from q);rfl
  | int _=>cases (show b= .int _ from q);rfl
  | str _=>cases (show b= .str _ from q);rfl
  | _=>exact absurd (show false=true from g) lJf
 | bl _=>cases (show a= .bl _ from r);cases y with
  | non=>cases (show b= .non from q);rfl
  | bl _=>cases (show b= .bl _ from q);rfl
  | int _=>cases (show b= .int _ from q);rfl
  | str _=>cases (show b= .str _ from q);rfl
  | _=>exact absurd (show false=true from g) lJf
 | int _=>cases (show a= .int _ from r);cases y with
  | non=>cases (show b= .non from q);rfl
  | bl _=>cases (show b= .bl _ from q);rfl
  | int _=>cases (show b= .int _ from q);rfl
  | str _=>cases (show b= .str _ from q);rfl
  | _=>exact absurd (show false=true from g) lJf
 | str _=>cases (show a= .str _ from r);cases y with
  | non=>cases (show b= .non from q);rfl
  | bl _=>cases (show b= .bl _ from q);rfl
  | int _=>cases (show b= .int _ from q);rfl
  | str _=>cases (show b= .str _ from q);rfl
  | _=>exact absurd (show false=true from g) lJf
 | _=>exact absurd (show false=true from f) lJf
noncomputable def inT (x:T) (xs:List T):Bool:=xs.any fun y=>eqT y x
theorem kXq {K:PySem.W.Frag} {H:Hp} {x:T} {a:V} (r:Rep K H x a) (f:jY5 x=true):∀ {xs:List T} {vs:List V},Reps K H xs vs->xs.all jY5=true->vs.all kUe=true/\inV a vs=inT x xs
 | [],_,h,_=>by cases h;exact⟨rfl,rfl⟩
 | y::ys,_,⟨v,ws,e,r1,r2⟩,g=>by
  subst e
  rw[lKw,lJ8] at g
  obtain⟨h1,h2⟩:=kXq r f r2 g.2
  refine⟨by rw[lKw,kKa r1 g.1,h1];rfl,?_⟩
  unfold inV inT at h2 ⊢
  rw[lKp,lKp,flat_eq r1 r g.1 f,h2]
noncomputable def rInF (neg:Bool):R3:=fun x y G Q=>∃xs,seqT G y=some xs/\jY5 x=true/\xs.all jY5=true/\Q (.bl (if neg then !inT x xs else inT x xs)) G
theorem in_lift {neg:Bool} {op:CmpOp} (h:OpR X (compareOp op) (L2.rIn X.K neg)):Op3 X (compareOp op) (rInF neg):=
 Op3.of h fun H G x y a b Q hg ra rb ⟨xs,hx,fx,fs,q⟩=>by
  obtain⟨p,vs,e,hq,r⟩:=jV3 hg rb hx
  obtain⟨h1,h2⟩:=kXq ra fx r fs
  exact⟨p,vs,e,hq,kKa ra fx,h1,.bl _,G,.refl H,hg,by rw[h2];rfl,q⟩
theorem o_notInF:Op3 X (compareOp .NotIn) (rInF true):=in_lift op_notIn_seq
noncomputable def kT:Key->T
 | .inl i=> .int i
 | .inr x=> .str x
noncomputable def kJz:T->Option Key
 | .int i=>some (.inl i)
 | .str x=>some (.inr x)
 | _=>none
noncomputable def allK {K:Type} (f:T->Option K):List T->Option (List K)
 | []=>some []
 | x::xs=>match f x,allK f xs with
  | some k,some ks=>some (k::ks)
  | _,_=>none
noncomputable def key1:T->Option K1
 | .tup ts=>(allK kJz ts).map .inr
 | x=>(kJz x).map .inl
noncomputable def key2:T->Option K2
 | .tup ts=>(allK key1 ts).map .inr
 | x=>(kJz x).map .inl
noncomputable def jX9:List T->Option TKey:=allK key2
theorem jZn {K:PySem.W.Frag} {H:Hp} {x:T} {a:V} {k:Key} (h:kJz x=some k) (r:Rep K H x a):a=kV k:=by
 cases x with
 | int i=>cases h;exact r
 | str i=>cases h;exact r
 | non=>cases h
 | bl _=>cases h
 | tup _=>cases h
 | scr _=>cases h
 | ref _=>cases h
 | ty _=>cases h
theorem kKe {K:PySem.W.Frag} {H:Hp} {κ:Type} {f:T->Option κ} {R:κ->V->Prop} (hf:∀x k a,f x=some k->Rep K H x a->R k a):∀ {xs:List T} {vs:List V} {ks:List κ},allK f xs=some ks->Reps K H xs vs->Paired R ks vs
 | [],_,_,h,r=>by cases h;cases (show _=[] from r);exact .nil
 | x::xs,_,ks,h,⟨v,ws,e,r1,r2⟩=>by
  subst e
  unfold allK at h
  cases e1:f x with
  | none=>rw[e1] at h;cases h
  | some k=>
   cases e2:allK f xs with
   | none=>rw[e1,e2] at h;cases h
   | some ks'=>
    rw[e1,e2] at h;cases h
    exact .cons (hf _ _ _ e1 r1) (kKe hf e2 r2)
theorem key1_rep {K:PySem.W.Frag} {H:Hp} (x:T) (k:K1) (a:V) (h:key1 x=some k) (r:Rep K H x a):Rk1 H k a:=by
 cases x with
 | tup ts=>
  obtain⟨ks,h1,rfl⟩:=lQg.mp (show (allK kJz ts).map Sum.inr=some k from h)
  obtain⟨p,vs,e,h3,h4⟩:=(show ∃p vs,a= .ref p/\H p=some (.tup vs)/\Reps K H ts vs from r)
  exact⟨p,vs,e,h3,kKe (fun x k a h r=>jZn h r) h1 h4⟩
 | int i=>cases h;exact r
 | str i=>cases h;exact r
 | non=>cases h
 | bl _=>cases h
 | scr _=>cases h
 | ref _=>cases h
 | ty _=>cases h
theorem key2_rep {K:PySem.W.Frag} {H:Hp} (x:T) (k:K2) (a:V) (h:key2 x=some k) (r:Rep K H x a):Rk2 H k a:=by
 cases x with
 | tup ts=>
  obtain⟨ks,h1,rfl⟩:=lQg.mp (show (allK key1 ts).map Sum.inr=some k from h)
  obtain⟨p,vs,e,h3,h4⟩:=(show ∃p vs,a= .ref p/\H p=some (.tup vs)/\Reps K H ts vs from r)
  exact⟨p,vs,e,h3,kKe key1_rep h1 h4⟩
 | int i=>cases h;exact r
 | str i=>cases h;exact r
 | non=>cases h
 | bl _=>cases h
 | scr _=>cases h
 | ref _=>cases h
 | ty _=>cases h
theorem jYn {K:PySem.W.Frag} {H:Hp} {xs:List T} {vs:List V} {ks:TKey} {p:Addr} (h:jX9 xs=some ks) (e:H p=some (.tup vs)) (r:Reps K H xs vs):TKeyAt H ks p:=⟨vs,e,kKe key2_rep h r⟩
noncomputable def valT {κ:Type} [DecidableEq κ] (kvs:List (κ×T)) (k:κ):Option T:=(kvs.find? fun kv=>decide (kv.1=k)).map (·.2)
noncomputable def putT {κ:Type} [DecidableEq κ] (kvs:List (κ×T)) (k:κ) (v:T):List (κ×T):=
 if (kvs.any fun kv=>decide (kv.1=k))=true then kvs.map (fun kv=>if kv.1=k then (kv.1,v) else kv) else kvs++[(k,v)]
theorem PKV.val {κ:Type} [DecidableEq κ] {K:PySem.W.Frag} {H:Hp} {kvs:List (κ×T)} {ws:List (κ×V)} (r:PKV K H kvs ws) (k:κ):(∀t,valT kvs k=some t->∃v,valV ws k=some v/\Rep K H t v)/\(valT kvs k).isSome=(valV ws k).isSome:=by
 unfold PKV at r
 induction r with
 | nil=>exact⟨fun t h=>by simp[valT] at h,rfl⟩
 | @cons p q ps qs h t ih=>
  by_cases e:p.1=k
  ·have e':q.1=k:=h.1.symm.trans e
   have b:valT (p::ps) k=some p.2:=by simp[valT,lKm,e]
   rw[b,kJ1 e']
   exact⟨fun t ht=>by cases ht;exact⟨q.2,rfl,h.2⟩,rfl⟩
  ·have e':¬ q.1=k:=fun z=>e (h.1.trans z)
   have b:valT (p::ps) k=valT ps k:=by simp[valT,lKm,e]
   rw[b,kJ2 e']
   exact ih
theorem PKV.any {κ:Type} [DecidableEq κ] {K:PySem.W.Frag} {H:Hp} {kvs:List (κ×T)} {ws:List (κ×V)} (r:PKV K H kvs ws) (k:κ):(kvs.any fun kv=>decide (kv.1=k))=ws.any fun kv=>decide (kv.1=k):=by
 unfold PKV at r
 induction r with
 | nil=>rfl
 | cons h t ih=>rw[lKp,lKp,ih,h.1]
theorem PKV.put {κ:Type} [DecidableEq κ] {K:PySem.W.Frag} {H:Hp} {kvs:List (κ×T)} {ws:List (κ×V)} (r:PKV K H kvs ws) (k:κ) {t:T} {v:V} (rt:Rep K H t v):PKV K H (putT kvs k t) (putK ws k v):=by
 unfold putT putK
 rw[r.any k]
 by_cases e:(ws.any fun kv=>decide (kv.1=k))=true
 ·rw[if_pos e,if_pos e]
  unfold PKV at r ⊢
  clear e
  induction r with
  | nil=>exact .nil
  | @cons p q ps qs h t' ih=>
   rw[lJm,lJm]
   refine .cons ?_ ih
   obtain⟨h1,h2⟩:=h
   by_cases e:p.1=k
   ·rw[if_pos e,if_pos (h1.symm.trans e)];exact⟨h1,rt⟩
   ·rw[if_neg e,if_neg (fun z=>e (h1.trans z))];exact⟨h1,h2⟩
 ·rw[if_neg e,if_neg e];exact Paired.snoc r ⟨rfl,rt⟩
theorem PKV.length {κ:Type} {K:PySem.W.Frag} {H:Hp} {kvs:List (κ×T)} {ws:List (κ×V)} (r:PKV K H kvs ws):kvs.length=ws.length:=Paired.length r
noncomputable def dAt (G:Gp) (x y:T):Option (Option T):=match x with
 | .ref p=>match G p with
  | some (.dct kvs)=>match y with
   | .tup ys=>match jX9 ys with
    | some ks=>some (valT kvs ks)
    | none=>none
   | _=>none
  | some (.dck kvs)=>match kJz y with
   | some k=>some (valT kvs k)
   | none=>none
  | some (.fdc kvs)=>match y with
   | .tup ys=>match jX9 ys with
    | some ks=>some (valT kvs ks)
    | none=>none
   | _=>none
  | _=>none
 | _=>none
theorem dAt_get {K:PySem.W.Frag} {H:Hp} {G:Gp} {x y:T} {a b:V} {o:Option T} (hg:GRel K H G) (ra:Rep K H x a) (rb:Rep K H y b) (h:dAt G x y=some o):
  ∃p ov,a= .ref p/\DGet H p b ov/\o.isSome=ov.isSome/\∀t,o=some t->∃v,ov=some v/\Rep K H t v:=by
 unfold dAt at h
 split at h
 ·rename_i p
  cases (show a= .ref p from ra)
  split at h
  ·rename_i kvs hG
   split at h
   ·rename_i ys
    split at h
    ·rename_i ks hk
     cases h
     obtain⟨ws,h1,h2⟩:=hg p _ hG
     obtain⟨q,vs,e,h3,h4⟩:=(show ∃q vs,b= .ref q/\H q=some (.tup vs)/\Reps K H ys vs from rb)
     subst e
     exact⟨p,_,rfl,DGet.t h1 (jYn hk h3 h4),(h2.val ks).2,(h2.val ks).1⟩
    ·cases h
   ·cases h
  ·rename_i kvs hG
   split at h
   ·rename_i k hk
    cases h
    obtain⟨ws,h1,h2⟩:=hg p _ hG
    rw[jZn hk rb]
    exact⟨p,_,rfl,DGet.k h1,(h2.val k).2,(h2.val k).1⟩
   ·cases h
  ·rename_i kvs hG
   split at h
   ·rename_i ys
    split at h
    ·rename_i ks hk
     cases h
     obtain⟨ob,ws,h1,h2⟩:=(show ∃ob ws,H p=some (.frz ob (.dT ws))/\PKV K H kvs ws from hg p _ hG)
     obtain⟨q,vs,e,h3,h4⟩:=(show ∃q vs,b= .ref q/\H q=some (.tup vs)/\Reps K H ys vs from rb)
     subst e
     exact⟨p,_,rfl,.inr ⟨ws,ks,q,.inr ⟨ob,h1⟩,rfl,jYn hk h3 h4,rfl⟩,(h2.val ks).2,(h2.val ks).1⟩
    ·cases h
   ·cases h
  ·cases h
 ·cases h
noncomputable def rDGet:R3:=fun x y G Q=>∃t,dAt G x y=some (some t)/\Q t G
theorem ix_dict (hu:X.A.units+20<cLine):Ix3 X rDGet:=by
 rintro value slice pins s τ G H x y v u Q ⟨σ,I,hs,hg⟩ ⟨a,ra,rv⟩ ⟨b,rb,ru⟩ ⟨t,hd,q⟩ hsl
 obtain⟨p,ov,e,g,_,hh⟩:=dAt_get hg ra rb hd
 obtain⟨w,ew,rw'⟩:=hh t rfl
 subst e;subst ew
 cases rv
 have hT:s.TypeIs (.ref p) "dict":=dict_typeIs I g
 unfold subscriptTail
 refine wpAny_bind ?_
 rw[getitemInPython_of_ne hT.not_modules]
 refine wpAny_bind (wpAny_specialOf hT PySem.F.slot_dict_getitem.lookup ?_)
 have fin:wpAny (model X.prog X.w) X.A (subscripted slice false (.ref p) u) (fun r s₃=>wpAny (model X.prog X.w) X.A (letTemporaryGo value (.ref p) r >>= fun _=>pure r) (EP3 X pins τ H Q) X.xe s₃) X.xe s:=by
  rw[hsl]
  exact wpAny_operating (d_getItem hu I g ru fun w' s' I' r'=>wpAny_bind (wpAny_letTemporaryGo (wpAny_pure ⟨t,G,H,.refl H,⟨σ,I',hs,hg⟩,⟨w,rw',r'⟩,q⟩)))
 first
  | exact wpAny_pure (wpAny_bind fin)
  | exact wpAny_bind (wpAny_pure (wpAny_bind fin))
  | exact wpAny_bind fin
theorem Ix3.or {r r':R3} (h:Ix3 X r) (h':Ix3 X r'):Ix3 X (fun x y G Q=>r x y G Q\/r' x y G Q):=by
 intro value slice pins s τ G H x y v u Q I rx ry q hs
 rcases q with q | q
 ·exact h value slice pins s τ G H x y v u Q I rx ry q hs
 ·exact h' value slice pins s τ G H x y v u Q I rx ry q hs
noncomputable def rIxA:R3:=fun x y G Q=>rIx x y G Q\/rDGet x y G Q
theorem ix_anyA (hu:X.A.units+20<cLine):Ix3 X rIxA:=ix_any.or (ix_dict hu)
noncomputable def rDNotIn:R3:=fun x y G Q=>∃o,dAt G y x=some o/\Q (.bl (!o.isSome)) G
theorem o_dNotIn (hu:X.A.units+20<cLine):Op3 X (compareOp .NotIn) rDNotIn:=by
 rintro pins s τ G H x y v u Q ⟨σ,I,hs,hg⟩ ⟨a,ra,rv⟩ ⟨b,rb,ru⟩ ⟨o,hd,q⟩
 obtain⟨p,ov,e,g,e2,_⟩:=dAt_get hg rb ra hd
 subst e;cases ru
 exact d_notIn hu I g rv fun s' I'=>⟨.bl _,G,H,.refl H,⟨σ,I',hs,hg⟩,⟨.bl _,rfl,by rw[<-e2];rfl⟩,q⟩
noncomputable def rNotInL:R3:=fun x y G Q=>rInF true x y G Q\/rDNotIn x y G Q
theorem o_notIn (hu:X.A.units+20<cLine):Op3 X (compareOp .NotIn) rNotInL:=o_notInF.or (o_dNotIn hu)
noncomputable def tDctNew:TE3:=fun _ G Q=>(∀p,G p=none->Q (.ref p) (gup G p (.dct [])))\/∀p,G p=none->Q (.ref p) (gup G p (.dck []))
theorem e_dct {pos:Pos}:PE3 X (.Dict [] [] pos) tDctNew:=by
 rintro pins s τ G H Q ⟨σ,I,hs,hg⟩ h
 rcases h with h | h
 ·exact thn (pe_dnewT pins s σ H (up X.K H Q) I fun p hp=>⟨.ref p,_,.upd (.none hp),hg.upd (.none hp) (go:= .dct []) ⟨[],jK7,.nil⟩,rfl,h p (hg.fresh hp)⟩) fun u s' z=>jX7 hs z
 ·exact thn (pe_dnewK pins s σ H (up X.K H Q) I fun p hp=>⟨.ref p,_,.upd (.none hp),hg.upd (.none hp) (go:= .dck []) ⟨[],jK7,.nil⟩,rfl,h p (hg.fresh hp)⟩) fun u s' z=>jX7 hs z
noncomputable def rDPutT:T->T->T->Gp->(Gp->Prop)->Prop:=fun o i v G Q=>∃p ys ks kvs,o= .ref p/\i= .tup ys/\jX9 ys=some ks/\G p=some (.dct kvs)/\kvs.length<sizeLine/\Q (gup G p (.dct (putT kvs ks v)))
noncomputable def rDPutK:T->T->T->Gp->(Gp->Prop)->Prop:=fun o i v G Q=>∃p k kvs,o= .ref p/\kJz i=some k/\G p=some (.dck kvs)/\kvs.length<sizeLine/\Q (gup G p (.dck (putT kvs k v)))
theorem s_dictT (hu:X.A.units+20<cLine):Set3 X rDPutT:=by
 rintro pins s τ G H o i v ov iv u Q ⟨σ,I,hs,hg⟩ ⟨a,ra,rv⟩ ⟨b,rb,ru⟩ ⟨c,rc,rw'⟩ ⟨p,ys,ks,kvs,eo,ei,hk,hG,hz,q⟩
 subst eo;subst ei
 cases (show a= .ref p from ra);cases rv
 obtain⟨ws,h1,h2⟩:=hg p _ hG
 obtain⟨b',vs,e,h3,h4⟩:=(show ∃q vs,b= .ref q/\H q=some (.tup vs)/\Reps X.K H ys vs from rb)
 subst e
 have h3:=jYn hk h3 h4
 have e:Ext H (upd H p (.dT (putK ws ks c))):= .upd (.dT h1)
 exact d_setItem hu I (DPut.t h1 h3 (by rw[<-h2.length];exact hz)) ru rw' fun s' I'=>⟨_,_,e,⟨σ,I',hs.mono e,hg.upd (.dT h1) (go:= .dct (putT kvs ks v)) ⟨_,jK7,(h2.put ks rc).mono e⟩⟩,q⟩
theorem s_dictK (hu:X.A.units+20<cLine):Set3 X rDPutK:=by
 rintro pins s τ G H o i v ov iv u Q ⟨σ,I,hs,hg⟩ ⟨a,ra,rv⟩ ⟨b,rb,ru⟩ ⟨c,rc,rw'⟩ ⟨p,k,kvs,eo,hk,hG,hz,q⟩
 subst eo
 cases (show a= .ref p from ra);cases rv
 obtain⟨ws,h1,h2⟩:=hg p _ hG
 have eb:=jZn hk rb
 subst eb
 have e:Ext H (upd H p (.dK (putK ws k c))):= .upd (.dK h1)
 exact d_setItem hu I (DPut.k h1 (by rw[<-h2.length];exact hz)) ru rw' fun s' I'=>⟨_,_,e,⟨σ,I',hs.mono e,hg.upd (.dK h1) (go:= .dck (putT kvs k v)) ⟨_,jK7,(h2.put k rc).mono e⟩⟩,q⟩
theorem Set3.or {r r':T->T->T->Gp->(Gp->Prop)->Prop} (h:Set3 X r) (h':Set3 X r'):Set3 X (fun o i v G Q=>r o i v G Q\/r' o i v G Q):=by
 intro pins s τ G H o i v ov iv u Q I ro ri rv q
 rcases q with q | q
 ·exact h pins s τ G H o i v ov iv u Q I ro ri rv q
 ·exact h' pins s τ G H o i v ov iv u Q I ro ri rv q
noncomputable def rSetA:T->T->T->Gp->(Gp->Prop)->Prop:=fun o i v G Q=>rSetL o i v G Q\/rDPutT o i v G Q\/rDPutK o i v G Q
theorem s_any (hu:X.A.units+20<cLine):Set3 X rSetA:=s_list.or ((s_dictT hu).or (s_dictK hu))
end
section
variable {X:Cx}
noncomputable abbrev TO3:=St3->Gp->(Option Int->Gp->Prop)->Prop
def PO3 (X:Cx) (e:Option Expr) (t:TO3):Prop:=
 ∀(pins:List (Addr×Obj)) (s:Shared) (τ:St3) (G:Gp) (H:Hp) (Q:Option Int->Gp->Prop),Inv3 X pins τ G H s->t τ G Q->
  wpAny (model X.prog X.w) X.A (evalPart e X.env) (fun u s'=>∃o G' H',Ext H H'/\Inv3 X pins τ G' H' s'/\IsPart u o/\Q o G') X.xe s
noncomputable def kVc:TO3:=fun _ G Q=>Q none G
noncomputable def tPart (t:TE3):TO3:=fun τ G Q=>t τ G fun x G1=>∃i,x= .int i/\Q (some i) G1
theorem p_none:PO3 X none kVc:=by
 intro pins s τ G H Q I h
 rw[evalPart_none]
 exact wpAny_pure ⟨none,G,H,.refl H,I,.none,h⟩
theorem p_some {e:Expr} {te:TE3} (h:PE3 X e te):PO3 X (some e) (tPart te):=by
 intro pins s τ G H Q I hw
 rw[evalPart_some]
 refine thn (h pins s τ G H _ I hw) fun u s1 w_=>w_.el fun x G1 H1 e1 I1 r_ ⟨i,ex,q⟩=>r_.el fun v rv ru=> ?_
 subst ex
 cases (show v= .int i from rv)
 obtain⟨t,rfl⟩:=ru
 exact⟨some i,G1,H1,e1,I1,.int i t,q⟩
def Sl3 (X:Cx) (r:T->Option Int->Option Int->Gp->VK3->Prop):Prop:=
 ∀(pins:List (Addr×Obj)) (s:Shared) (τ:St3) (G:Gp) (H:Hp) (x:T) (v vl vu:Value) (lo hi:Option Int) (sl:Addr) (Q:VK3),Inv3 X pins τ G H s->RU X.K H x v->s.heap.IsSliceOf sl vl vu .none->IsPart vl lo->IsPart vu hi->r x lo hi G Q->
  ∃T id,typeLookup (.type T) "__getitem__"=pure (some (.builtin id))/\s.TypeIs v T/\wpAny (model X.prog X.w) X.A (getItem v (.ref sl)) (EP3 X pins τ H Q) X.xe s
noncomputable def tSl (r:T->Option Int->Option Int->Gp->VK3->Prop) (te:TE3) (tl th:TO3):TE3:=fun τ G Q=>te τ G fun x G1=>tl τ G1 fun l G2=>th τ G2 fun u G3=>r x l u G3 Q
theorem e_slice {r:T->Option Int->Option Int->Gp->VK3->Prop} {e:Expr} {te:TE3} {lo hi:Option Expr} {tl th:TO3} {pos p2:Pos} (hr:Sl3 X r) (he:PE3 X e te) (hl:PO3 X lo tl) (hu:PO3 X hi th):PE3 X (.Subscript e (.Slice lo hi none p2) pos) (tSl r te tl th):=by
 intro pins s τ G H Q I h
 refine Subscript_ (thn (he pins s τ G H _ I h) fun v s1 w_=>w_.el fun x G1 H1 e1 I1 r1 q1=> ?_)
 refine wpAny_Slice (thn (hl pins s1 τ G1 H1 _ I1 q1) fun vl s2 ⟨l,G2,H2,e2,I2,pl,q2⟩=>thn (hu pins s2 τ G2 H2 _ I2 q2) fun vu s3 ⟨u,G3,H3,e3,⟨σ,I3,hs3,hg3⟩,pu,q3⟩=> ?_)
 rw[evalPart_none]
 refine wpAny_pure ?_
 have I4:Inv X pins σ H3 {s3 with heap:=s3.heap.push {cls:= .type "slice",data:= .fields #[vl,vu,.none]} }:=I3.kept (t':=s3.toks) fun b ob q=>Heap.get?_push_of_some _ q
 obtain⟨T0,id,hT,ht,hg⟩:=hr pins {s3 with heap:=s3.heap.push {cls:= .type "slice",data:= .fields #[vl,vu,.none]} } τ G3 H3 x v vl vu l u s3.heap.objs.size Q ⟨σ,I4,hs3,hg3⟩ ((r1.mono e2).mono e3) (Heap.IsSliceOf.new ..) pl pu q3
 show wpAny (model X.prog X.w) X.A (subscriptTail e (.Slice lo hi none p2) v (.ref s3.heap.objs.size)) (EP3 X pins τ H Q) X.xe {s3 with heap:=s3.heap.push {cls:= .type "slice",data:= .fields #[vl,vu,.none]} }
 exact thn (tail_any (ops:=[.ref s3.heap.objs.size,v]) ht hT hg (by with_unfolding_all rfl)) fun _ _ z=>z.ext ((e1.trans e2).trans e3)
noncomputable def cutT (xs:List T) (lo hi:Option Int):List T:=(xs.drop (HT.sIx xs.length 0 lo)).take (HT.sIx xs.length xs.length hi-HT.sIx xs.length 0 lo)
noncomputable def rSlA:T->Option Int->Option Int->Gp->VK3->Prop:=fun x lo hi G Q=>
 (∃xs,jU4 G x=some xs/\∀p,G p=none->Q (.ref p) (gup G p (.lst (cutT xs lo hi))))\/∃xs,x= .tup xs/\Q (.tup (cutT xs lo hi)) G
end
end L3
namespace HT
open PySem PyProof.Rows
theorem getItem_tuple_whole {prog:Program} {w:World} {A:Around} {E:Value->Shared->Prop} {s:Shared} {t sl:Addr} {items:Array Value} {vl vu:Value} {lo hi:Option Int} {Q:Value->Shared->Prop} (ht:IsTup s.heap t items) (hs:s.heap.IsSliceOf sl vl vu .none) (pl:IsPart vl lo) (pu:IsPart vu hi)
  (hw:sIx items.size 0 lo=0/\sIx items.size items.size hi=items.size) (h:Q (.ref t) s):wpAny (model prog w) A (getItem (.ref t) (.ref sl)) Q E s:=by
 obtain⟨os,hos,hcs,hds⟩:=id hs
 have hTs:s.TypeIs (.ref sl) "slice":=⟨os,hos,hcs⟩
 unfold getItem
 try with_reducible refine wpAny_holding ?_
 first | refine wpAny_bind (wpAny_pure ?_) | skip
 refine wpAny_bind (wpAny_sequenceKey ht.typeIs (by decide) ?_)
 refine wpAny_bind (wpAny_callSpecial?_slot (name:=Str.ofString "__getitem__") ht.typeIs PyProof.Rows.slot_tuple_getitem
  (wpAny_call_entry PyProof.Rows.slot_tuple_getitem ht.typeIs entry_tuple_getitem ?_ (args_tuple_getitem _ _)))
 show wpAny _ _ (Builtin.Tuple.tupleItemsOf (.ref t) >>= _) _ _ s
 refine wpAny_bind (tupleItemsOf_ ht ?_)
 refine wpAny_bind (wpAny_typeOf hTs ?_)
 rw[if_pos (by decide)]
 refine wpAny_bind (jXy hs pl pu ?_)
 have hyes:(((sIx items.size 0 lo:Nat):Int) == 0&&(1:Int) == 1&&(sIx items.size items.size hi-sIx items.size 0 lo) == items.size)=true:=by
  rw[hw.1,hw.2];simp
 show wpAny _ _ (if (((sIx items.size 0 lo:Nat):Int) == 0&&(1:Int) == 1&&(sIx items.size items.size hi-sIx items.size 0 lo) == items.size)=true then _ else _) _ _ s
 rw[if_pos hyes]
 refine wpAny_bind ?_
 unfold Builtin.Tuple.tupleIsExact
 refine wpAny_bind (wpAny_typeOf ht.typeIs (wpAny_pure ?_))
 rw[if_pos (by decide)]
 exact wpAny_bind (wpAny_rule (wpAny_pure ⟨_,rfl,wpAny_pure h⟩))
end HT
namespace L3
open PySem PySem.Spec PyProof.Rows L2
section
variable {X:Cx}
theorem Reps.cut {K:PySem.W.Frag} {H:Hp} {xs:List T} {vs:List V} (r:Reps K H xs vs) (lo hi:Option Int):Reps K H (cutT xs lo hi) (cutV vs lo hi):=by
 unfold cutT cutV
 rw[<-r.length]
 exact (r.drop _).take _
theorem cutT_whole {xs:List T} {lo hi:Option Int} (h:HT.sIx xs.length 0 lo=0/\HT.sIx xs.length xs.length hi=xs.length):cutT xs lo hi=xs:=by
 unfold cutT
 rw[h.1,h.2]
 simp
theorem sl_any:Sl3 X rSlA:=by
 rintro pins s τ G H x v vl vu lo hi sl Q ⟨σ,I,hs,hg⟩ ⟨a,ra,rv⟩ hsl pl pu h
 rcases h with ⟨xs,hx,q⟩ | ⟨xs,ex,q⟩
 ·obtain⟨p,vs,e,hq,r⟩:=jXu hg ra hx
  subst e
  obtain⟨T0,id,h1,h2,h3⟩:=sl_list pins s σ H (.ref p) v vl vu lo hi sl (up X.K H Q) I rv hsl pl pu ⟨p,vs,rfl,hq,fun l hl=>⟨.ref l,_,.upd (.none hl),hg.lstNew (r.cut lo hi) (.none hl),rfl,q l (hg.fresh hl)⟩⟩
  exact⟨T0,id,h1,h2,thn h3 fun _ _ z=>jX7 hs z⟩
 ·subst ex
  obtain⟨p,vs,e,h1,h2⟩:=(show ∃p vs,a= .ref p/\H p=some (.tup vs)/\Reps X.K H xs vs from ra)
  subst e
  by_cases hw:HT.sIx xs.length 0 lo=0/\HT.sIx xs.length xs.length hi=xs.length
  ·cases rv
   obtain⟨its,rv',ht,hz⟩:=I.tuple (.of h1)
   have hlen:its.toArray.size=xs.length:=by rw[lJi,<-rv'.length,h2.length]
   refine⟨"tuple",_,PyProof.Rows.slot_tuple_getitem.lookup,ht.typeIs,HT.getItem_tuple_whole ht hsl pl pu (by rw[hlen];exact hw) ?_⟩
   rw[cutT_whole hw] at q
   exact⟨.tup xs,G,H,.refl H,⟨σ,I,hs,hg⟩,⟨.ref p,ra,rfl⟩,q⟩
  ·obtain⟨T0,id,h3,h4,h5⟩:=sl_tup pins s σ H (.ref p) v vl vu lo hi sl (up X.K H Q) I rv hsl pl pu ⟨p,vs,rfl,.of h1,by rw[<-h2.length];exact hw,fun l hl=>⟨.tup (cutT xs lo hi),G,.upd (.none hl),hg.tupNew hl,Rep.tupNew (h2.cut lo hi) hl,q⟩⟩
   exact⟨T0,id,h3,h4,thn h5 fun _ _ z=>jX7 hs z⟩
noncomputable def jVd (ta:TA3):TE3:=fun τ G Q=>ta τ G fun vs G1=>∃j:Int,vs=[.int j]/\ -(2^62)<=j/\j<=2^20/\∀p,G1 p=none->Q (.ref p) (gup G1 p (.lst (rngT 0 j.toNat)))
theorem reps_rng {K:PySem.W.Frag} {H:Hp} {n:Nat} {vs:List V} (hl:vs.length=n) (h:∀(i:Nat) v,vs[i]? =some v->v= .int (0+i)):Reps K H (rngT 0 n) vs:=by
 have e:vs=(List.range n).map fun (k:Nat)=>V.int (0+k):=by
  apply lKc
  intro i
  cases hv:vs[i]? with
  | none=>
   have:n<=i:=by rw[<-hl];exact List.getElem?_eq_none_iff.mp hv
   simp[this]
  | some v=>
   have hi:i<n:=by rw[<-hl];exact (lJa.mp hv).1
   rw[h i v hv];simp[hi]
 rw[e]
 unfold rngT
 generalize List.range n=l
 induction l with
 | nil=>rfl
 | cons k ks ih=>exact⟨_,_,rfl,rfl,ih⟩
end
section
variable {X:Cx}
theorem kQa {a:Expr} {ta:TA3} {pos p p2 p3:Pos} (hgl:Gl X "list") (hml:X.mg "list"=none) (hgr:Gl X "range") (hmr:X.mg "range"=none) (hc:X.calm=true) (ha:PA3 X [a] ta) (hs:starEach [a] X.env=[(false,eval a X.env)]:=by rfl)
  (ho:starEach [Expr.Call (.Name "range" p2) [a] [] p3] X.env=[(false,eval (.Call (.Name "range" p2) [a] [] p3) X.env)]:=by rfl):
  PE3 X (.Call (.Name "list" p) [.Call (.Name "range" p2) [a] [] p3] [] pos) (jVd ta):=by
 intro pins s τ G H Q I h
 obtain⟨σ0,I0,hs0,hg0⟩:=id I
 refine wpAny_Call_Name_kw (jVm I0 hgl hml (u:= .type "list") (by rfl) ?_)
 refine PyProof.Rows.callWith_type1 (T:="list") ?_ ho rfl
 rw[ho]
 show wpAny _ _ (spliced ((false,eval (.Call (.Name "range" p2) [a] [] p3) X.env)::backTo pos [])) _ _ s
 refine Calls.spliced_cons ?_
 refine Call_ (jVm I0 hgr hmr boot_range (PyProof.Rows.callWith_type1 (thn (ha p3 pins s τ G H _ I h) fun us s1 w_=>w_.el fun xs G1 H1 e1 i_ r_ ⟨j,e,q1,q2,q⟩=>i_.el fun σ I1 hs1 hg1=>r_.el fun as ras rvs=> ?_) hs rfl))
 subst e
 obtain⟨v,rfl,rv⟩:=jXj ras
 cases (show v= .int j from rv)
 obtain⟨u,rfl,ru⟩:=rvs.one
 obtain⟨t,rfl⟩:=ru
 refine call_range_1 ?_
 refine Calls.spliced_nil ?_
 have I2:Inv X pins σ H1 {s1 with heap:=s1.heap.push {cls:= .type "range",data:= .fields #[.int 0 s1.toks,.int j t,.int 1 (s1.toks+1)]},toks:=s1.toks+1+1}:=I1.kept fun b o e=>Heap.get?_push_of_some _ e
 refine call_list_range (n:=j.toNat) (I1.ok.hd hc) (IsRange.new ..) (small_one (by omega) (by omega) q1 (by omega)) (by rw[rangeSize_one];split<;>omega) (by omega) fun h' tk acc' c' hk hobj hit=> ?_
 have hf:H1 (s1.heap.push {cls:= .type "range",data:= .fields #[.int 0 s1.toks,.int j t,.int 1 (s1.toks+1)]}).objs.size=none:=I2.hok.fresh (lJd _)
 have hz:acc'.size<=sizeLine:=by rw[hit.1,sizeLine_eq];omega
 obtain⟨vs,hvs,rr⟩:∃vs:List V,Vals vs acc'.toList/\Reps X.K H1 (rngT 0 j.toNat) vs:=by
  refine⟨(List.range j.toNat).map fun (k:Nat)=>V.int (0+k),?_,reps_rng (by simp) (fun i v hv=> ?_)⟩
  ·have all:∀(l:List Value) (n0:Nat),(∀(i:Nat) v,l[i]? =some v->∃t,v= .int ((0:Int)+((n0+i:Nat):Int)*1) t)->Vals ((List.range' n0 l.length).map fun (k:Nat)=>V.int (0+k)) l:=by
    intro l
    induction l with
    | nil=>intro n0 _;exact .nil
    | cons v l ih=>
     intro n0 hh
     obtain⟨t,ht⟩:=hh 0 v rfl
     rw[lJ4,List.range'_succ,lJm]
     refine .cons ⟨t,by rw[ht];simp⟩ (ih (n0+1) fun i w hw=> ?_)
     obtain⟨t',ht'⟩:=hh (i+1) w (by simpa using hw)
     exact⟨t',by rw[ht'];congr 1;omega⟩
   have:=all acc'.toList 0 (fun i v hv=>by
    obtain⟨t,ht⟩:=hit.2 i v (by simpa using hv)
    exact⟨t,by rw[ht];simp⟩)
   rw[List.range_eq_range']
   rw[show acc'.toList.length=j.toNat by simpa using hit.1] at this
   exact this
  ·rw[lJj] at hv
   cases e:(List.range j.toNat)[i]? with
   | none=>rw[e] at hv;cases hv
   | some k=>
    rw[e] at hv;cases hv
    have:=lJa.mp e
    obtain⟨h1,h2⟩:=this
    simp at h2;rw[<-h2]
 refine⟨.ref _,_,_,e1.trans (.upd (.none hf)),⟨σ,I2.laid (t':=tk) (o:= .lst vs) hk (lJd _) ⟨by rw[hvs.length];simpa using hz,acc'.toList,c',hvs,by simpa using hobj⟩,hs1.mono (.upd (.none hf)),hg1.lstNew rr (.none hf)⟩,⟨.ref _,rfl,rfl⟩,q _ (hg1.fresh hf)⟩
noncomputable def insT (xs:List T) (k:Nat) (y:T):List T:=xs.take k++y::xs.drop k
noncomputable def kKn:T->List T->Gp->VK3->Prop:=fun x as G Q=>∃p xs k y,x= .ref p/\as=[.int k,y]/\G p=some (.lst xs)/\0<=k/\k<=xs.length/\xs.length<sizeLine/\Q .non (gup G p (.lst (insT xs k.toNat y)))
theorem m_insert:Mt3 X "list.insert" kKn:=by
 rintro pins s τ G H x as v us Q ⟨σ,I,hs,hg⟩ ⟨a,ra,rv⟩ ⟨bs,rbs,rus⟩ ⟨p,xs,k,y,ex,ea,hp,k0,k1,hz,q⟩
 subst ex;subst ea
 cases (show a= .ref p from ra);cases rv
 obtain⟨b1,b2,rfl,r1,r2⟩:=reps2 rbs
 cases (show b1= .int k from r1)
 obtain⟨u1,u2,rfl,ru1,ru2⟩:=rus.two
 obtain⟨t,rfl⟩:=ru1
 obtain⟨vs,h1,h2⟩:=hg.lst hp
 obtain⟨z,its,n,r,hl,e⟩:=I.lstM h1
 have hlen:=h2.length
 have hfit:¬ (!Builtin.List.listFitsIndex k)=true:=by
  have h63:=kUm
  rw[fitsIndex_both (by omega) (by omega)]
  exact lJf
 refine call_meets F.slot_list_insert ⟨_,e,rfl⟩ F.entry_list_insert (F.args_list_insert_3 _ _ _) (AutoSeq1.list_insert_list_int_val_1 p its.toArray n k t u2 hfit (by rw[lJi];omega)) ⟨e,?_⟩
 have e2:Ext H (upd H p (.lst (vs.take k.toNat++b2::vs.drop k.toNat))):= .upd (.lst h1)
 refine⟨.non,_,_,e2,⟨σ,I.lset (its':=its.take k.toNat++u2::its.drop k.toNat) h1 e ?_ ((r.take _).append (.cons ru2 (r.drop _))) ?_,hs.mono e2,hg.lstNew (xs:=insT xs k.toNat y) ((h2.take _).append ⟨b2,_,rfl,r2,h2.drop _⟩) (.lst h1)⟩,⟨.non,rfl,rfl⟩,q⟩
 ·have hk:¬ k<0:=by omega
  have hm:min k.toNat its.toArray.size=k.toNat:=by rw[lJi];omega
  simp only[hk,if_false,hm]
  apply Array.ext'
  simp[Array.toList_extract]
  rw[List.take_of_length_le (Nat.le_of_eq (by simp))]
 ·simp only[lJo,lJ4,lKk,List.length_drop]
  omega
noncomputable def rCount:T->List T->Gp->VK3->Prop:=fun x as G Q=>∃p xs y,x= .ref p/\as=[y]/\G p=some (.lst xs)/\jY5 y=true/\xs.all jY5=true/\Q (.int (xs.countP fun z=>eqT z y)) G
theorem count_eqU {K:PySem.W.Frag} {H:Hp} {y:T} {b:V} (ry:Rep K H y b) (fy:jY5 y=true):∀ {xs:List T} {vs:List V} {us:List Value},Reps K H xs vs->Vals vs us->xs.all jY5=true->us.countP (eqU b)=xs.countP fun z=>eqT z y
 | [],_,_,r,q,_=>by cases r;cases q;rfl
 | x::xs,_,_,⟨v,ws,e,r1,r2⟩,q,f=>by
  subst e
  cases q with
  | cons q1 q2=>
   rw[lKw,lJ8] at f
   rw[List.countP_cons,List.countP_cons,count_eqU ry fy r2 q2 f.2,eqU_of q1 (kKa r1 f.1),flat_eq r1 ry f.1 fy]
theorem m_count:Mt3 X "list.count" rCount:=by
 rintro pins s τ G H x as v us Q ⟨σ,I,hs,hg⟩ ⟨a,ra,rv⟩ ⟨bs,rbs,rus⟩ ⟨p,xs,y,ex,ea,hp,fy,fs,q⟩
 subst ex;subst ea
 cases (show a= .ref p from ra);cases rv
 obtain⟨b,rfl,rb⟩:=jXj rbs
 obtain⟨u,rfl,ru⟩:=rus.one
 obtain⟨vs,h1,h2⟩:=hg.lst hp
 obtain⟨z,its,n,r,hl,e⟩:=I.lstM h1
 have fl:=(kXq rb fy h2 fs).1
 refine call_meets F.slot_list_count ⟨_,e,rfl⟩ F.entry_list_count (F.args_list_count_2 _ _) (SeqAt.list_countAt p its.toArray n none #[] u (eqU b)) ⟨e,fun w hw=>kJ9 ru (kKa rb fy) r fl w (by simpa using hw),?_⟩
 refine⟨.int _,G,H,.refl H,⟨σ,I.tok _,hs,hg⟩,⟨.int _,rfl,s.toks,?_⟩,q⟩
 rw[<-count_eqU rb fy h2 r fs]
noncomputable def allBl:List T->Option Bool
 | []=>some true
 | .bl b::r=>match allBl r with
  | some c=>some (b&&c)
  | none=>none
 | _::_=>none
noncomputable def rAll:List T->Gp->VK3->Prop:=fun as G Q=>∃p xs b,as=[.ref p]/\G p=some (.lst xs)/\allBl xs=some b/\Q (.bl b) G
theorem allBl_map:∀ {xs:List T} {b:Bool},allBl xs=some b->∃bs:List Bool,xs=bs.map T.bl/\b=bs.all (fun x=>x)
 | [],b,h=>by cases h;exact⟨[],rfl,rfl⟩
 | .bl c::r,b,h=>by
  unfold allBl at h
  cases e:allBl r with
  | none=>rw[e] at h;cases h
  | some d=>
   rw[e] at h;cases h
   obtain⟨bs,h1,h2⟩:=allBl_map e
   exact⟨c::bs,by rw[h1];rfl,by rw[h2];rfl⟩
 | .non::_,_,h=>by cases h
 | .int _::_,_,h=>by cases h
 | .str _::_,_,h=>by cases h
 | .tup _::_,_,h=>by cases h
 | .scr _::_,_,h=>by cases h
 | .ref _::_,_,h=>by cases h
 | .ty _::_,_,h=>by cases h
theorem reps_bls {K:PySem.W.Frag} {H:Hp}:∀ {bs:List Bool} {vs:List V} {us:List Value},Reps K H (bs.map T.bl) vs->Vals vs us->us=bs.map Value.bool
 | [],_,_,h,q=>by cases h;cases q;rfl
 | n::ns,_,_,⟨v,ws,e,r,rs⟩,q=>by
  subst e;cases (show v= .bl n from r)
  cases q with
  | cons q1 q2=>cases q1;rw[reps_bls rs q2];rfl
theorem all_range:∀(bs:List Bool),bs.all (fun x=>x)=(List.range bs.length).all fun i=>bs.getD i true
 | []=>rfl
 | b::bs=>by
  rw[lKw,all_range bs,lJ4,List.range_succ_eq_map,lKw,List.all_map]
  simp[Function.comp_def,List.getD]
theorem c_all (hc:X.calm=true):Call3 X (.builtin "all") rAll:=by
 rintro pins s τ G H as us Q ⟨σ,I,hs,hg⟩ ⟨bs',rbs,rus⟩ ⟨p,xs,b,e,hp,hb,q⟩
 subst e
 obtain⟨a,rfl,ra⟩:=jXj rbs
 cases (show a= .ref p from ra)
 obtain⟨u,rfl,ru⟩:=rus.one
 cases ru
 obtain⟨vs,h1,h2⟩:=hg.lst hp
 obtain⟨bs,ex,eb⟩:=allBl_map hb
 subst ex
 obtain⟨its,rv,pl,hz⟩:=I.list (.of h1)
 have eit:=reps_bls h2 rv
 subst eit
 refine call_all_walk (wpAny_pyIter_list pl.isList ?_)
 have hne:p≠s.heap.objs.size:=by obtain⟨o,n,ho,_⟩:=pl;exact lJl (Heap.lt_size ho)
 refine⟨s.heap.objs.size,[s.heap.objs.size,p],[s.heap.objs.size],(bs.map Value.bool).toArray.size,_,_,fun i=>bs.getD i true,rfl,Walks.list (A:=X.A.in1) (show X.A.in1.handled=none from I.ok.hd hc) s.heap.objs.size p hne (bs.map Value.bool).toArray,⟨⟨_,Heap.get?_push_size _ rfl,rfl,rfl⟩,pl.isList.push _⟩,?_,?_⟩
 ·intro i v s' Q' E' hP hQ
  have hP':(bs.map Value.bool)[i]? =some v:=by simpa using hP
  rw[lJj] at hP'
  cases e:bs[i]? with
  | none=>rw[e] at hP';cases hP'
  | some c=>
   rw[e] at hP';cases hP'
   have:bs.getD i true=c:=by simp[List.getD,e]
   have hQ':Q' (bs.getD i true) s':=hQ
   rw[this] at hQ'
   exact wpAny_truthy_bool hQ'
 ·intro h' tk hk
  have hk2:∀b o,s.heap.get? b=some o->h'.get? b=some o:=fun b o e=>hk b o (by simpa using lJl (Heap.lt_size e)) (Heap.get?_push_of_some _ e)
  refine⟨.bl b,G,H,.refl H,⟨σ,I.kept hk2,hs,hg⟩,⟨.bl b,rfl,?_⟩,q⟩
  rw[eb,all_range]
  simp
  rfl
end
structure Cal (P:Program) (w:World) (K:PySem.W.Frag) (mg:Str->Option Value) (base:Heap) (k:Nat) (x:Str) (ps:List Str) (sp:Sp3):Prop where
 ex:∃f fd,Fn3 P w K mg base k f fd ps sp/\mg x=some (.ref f)/\PySem.W.keepIn K (.ref f)=true/\Binds K fd ps []
 mono:Mono sp
 len:∀xs G Q,sp xs G Q->xs.length=ps.length
theorem jKa {X:Cx} {k:Nat} {ps:List Str} {sp:Sp3} {x:Str} {p pos:Pos} {e:Expr} {es:List Expr} {t:TA3} (C:Cal X.prog X.w X.K X.mg X.base k x ps sp) (hr:Room k X.A) (ha:PA3 X (e::es) t) (hg:Gl X x:=by rfl)
  (hdb:(x == ("__debug__":Str))=false:=by decide) (he:starEach (e::es) X.env=(false,eval e X.env)::starEach es X.env:=by rfl) (hpl:(backTo pos (starEach es X.env)).any (·.1)=false:=by rfl):
  PE3 X (.Call (.Name x p) (e::es) [] pos) (jJw sp t):=by
 intro pins s τ G H Q I h
 obtain⟨f,fd,F,hm,hk,hb⟩:=C.ex
 obtain⟨σ0,I0,hs0,hg0⟩:=id I
 refine wpAny_Call_Name_kw (ld_glob I0 hg hm ?_ hdb)
 refine PySem.W.callWith_K (h₀:=X.base) I0.ok.mod.kin hk (thn (ha pos pins s τ G H _ I h) fun us s1 w_=>w_.el fun xs G1 H1 e1 i_ r_ q=>i_.el fun σ I1 hs1 hg1=>r_.el fun as ras rvs=>⟨I1.kIn,?_⟩) he hpl
 refine thn (run_fn (dvs:=[]) (ds:=[]) (E:=E0) (Q:=up X.K H1 Q) F hr hb .nil pass0 I1 rvs ?_) fun u s' z=>(jX7 hs1 z).ext e1
 rw[lKh]
 exact⟨by rw[<-ras.length];exact C.len _ _ _ q,xs,G1,ras,hg1,C.mono _ _ _ _ (fun t G' hq v H' e g r=>⟨t,G',e,g,r,hq⟩) q⟩
noncomputable def rListA:=kVs
theorem c_listA {X:Cx}:Call3 X (.type "list") rListA:=c_list
end L3
namespace L3
open PySem PySem.Spec PyProof.Rows
inductive Res where
 | val (t:T) | newL (xs:List T)
noncomputable def fin3:Res->Gp->VK3->Prop
 | .val t,G,Q=>Q t G
 | .newL xs,G,Q=>∀p,G p=none->Q (.ref p) (gup G p (.lst xs))
theorem Op3.imp {X:L2.Cx} {f:Value->Value->Sem Value} {r r':R3} (h:Op3 X f r) (i:∀x y G Q,r' x y G Q->r x y G Q):Op3 X f r':=fun pins s τ G H x y v u Q I rx ry q=>h pins s τ G H x y v u Q I rx ry (i x y G Q q)
theorem Ix3.imp {X:L2.Cx} {r r':R3} (h:Ix3 X r) (i:∀x y G Q,r' x y G Q->r x y G Q):Ix3 X r':=fun a b pins s τ G H x y v u Q I rx ry q hs=>h a b pins s τ G H x y v u Q I rx ry (i x y G Q q) hs
theorem Set3.imp {X:L2.Cx} {r r':T->T->T->Gp->(Gp->Prop)->Prop} (h:Set3 X r) (i:∀o j v G Q,r' o j v G Q->r o j v G Q):Set3 X r':=fun pins s τ G H o j v a b c Q I ro rj rv q=>h pins s τ G H o j v a b c Q I ro rj rv (i o j v G Q q)
theorem Sl3.imp {X:L2.Cx} {r r':T->Option Int->Option Int->Gp->VK3->Prop} (h:Sl3 X r) (i:∀x l u G Q,r' x l u G Q->r x l u G Q):Sl3 X r':=fun pins s τ G H x v vl vu lo hi sl Q I rx hs pl pu q=>h pins s τ G H x v vl vu lo hi sl Q I rx hs pl pu (i x lo hi G Q q)
noncomputable def addR (G:Gp):T->T->Option Res
 | .int i,.int j=>some (.val (.int (i+j)))
 | .ref p,.ref q=>match G p,G q with
  | some (.lst xs),some (.lst ys)=>if xs.length+ys.length<=sizeLine then some (.newL (xs++ys)) else none
  | _,_=>none
 | .tup xs,.tup ys=>if xs.length≠0/\xs.length+ys.length<=sizeLine then some (.val (.tup (xs++ys))) else none
 | _,_=>none
noncomputable def jQi:R3:=fun x y G Q=>∃r,addR G x y=some r/\fin3 r G Q
theorem add_F {x y:T} {G:Gp} {Q:VK3} (h:jQi x y G Q):rAddA x y G Q:=by
 obtain⟨r,hr,q⟩:=h
 unfold addR at hr
 split at hr
 ·cases hr;exact .inl ⟨_,_,rfl,rfl,q⟩
 ·rename_i p q'
  split at hr
  ·rename_i xs ys h1 h2
   split at hr
   ·rename_i hz;cases hr;exact .inr (.inl ⟨p,q',xs,ys,rfl,rfl,h1,h2,hz,q⟩)
   ·cases hr
  ·cases hr
 ·rename_i xs ys
  split at hr
  ·rename_i hz;cases hr;exact .inr (.inr ⟨xs,ys,rfl,rfl,fun z=>hz.1 (by rw[z];rfl),hz.2,q⟩)
  ·cases hr
 ·cases hr
theorem o_addF {X:L2.Cx}:Op3 X (binaryOp .Add) jQi:=o_addA.imp fun _ _ _ _=>add_F
noncomputable def mulR (G:Gp):T->T->Option Res
 | .int i,.int j=>some (.val (.int (i*j)))
 | .ref p,.int n=>match G p with
  | some (.lst xs)=>if n.toNat * xs.length<=sizeLine/\n<2^62/\ -(2^62)<n then some (.newL (List.replicate n.toNat xs).flatten) else none
  | _=>none
 | _,_=>none
noncomputable def mulC:T->T->Prop
 | .int i,.int j=>L2.CMul i j
 | _,_=>True
noncomputable def jXs:R3:=fun x y G Q=>∃r,mulR G x y=some r/\mulC x y/\fin3 r G Q
theorem mul_F {x y:T} {G:Gp} {Q:VK3} (h:jXs x y G Q):rMulA x y G Q:=by
 obtain⟨r,hr,c,q⟩:=h
 unfold mulR at hr
 split at hr
 ·cases hr;exact .inl ⟨_,_,rfl,rfl,c,q⟩
 ·rename_i p n
  split at hr
  ·rename_i xs h1
   split at hr
   ·rename_i hz;cases hr;exact .inr ⟨p,xs,n,rfl,rfl,h1,hz.1,hz.2.1,hz.2.2,q⟩
   ·cases hr
  ·cases hr
 ·cases hr
theorem jU6 {X:L2.Cx}:Op3 X (binaryOp .Mult) jXs:=o_mulA.imp fun _ _ _ _=>mul_F
noncomputable def ixR (G:Gp) (x y:T):Option T:=match seqT G x with
 | some xs=>match y with
  | .int i=>L2.atI xs i
  | _=>none
 | none=>match dAt G x y with
  | some o=>o
  | none=>none
noncomputable def rIxF:R3:=fun x y G Q=>∃t,ixR G x y=some t/\Q t G
theorem ix_F' {x y:T} {G:Gp} {Q:VK3} (h:rIxF x y G Q):rIxA x y G Q:=by
 obtain⟨t,ht,q⟩:=h
 unfold ixR at ht
 split at ht
 ·rename_i xs hx
  split at ht
  ·rename_i i;exact .inl ⟨xs,i,t,hx,rfl,ht,q⟩
  ·cases ht
 ·split at ht
  ·rename_i o ho;subst ht;exact .inr ⟨t,ho,q⟩
  ·cases ht
theorem ix_F {X:L2.Cx} (hu:X.A.units+20<cLine):Ix3 X rIxF:=(ix_anyA hu).imp fun _ _ _ _=>ix_F'
noncomputable def setR (G:Gp) (o i v:T):Option Gp:=match o with
 | .ref p=>match G p with
  | some (.lst xs)=>match i with
   | .int k=>match L2.ixN xs.length k with
    | some j=>some (gup G p (.lst (xs.set j v)))
    | none=>none
   | _=>none
  | some (.dct kvs)=>match i with
   | .tup ys=>match jX9 ys with
    | some ks=>if kvs.length<sizeLine then some (gup G p (.dct (putT kvs ks v))) else none
    | none=>none
   | _=>none
  | some (.dck kvs)=>match kJz i with
   | some k=>if kvs.length<sizeLine then some (gup G p (.dck (putT kvs k v))) else none
   | none=>none
  | some (.fdc _)=>none
  | some (.ins _ _)=>none
  | none=>none
 | _=>none
noncomputable def jXr:T->T->T->Gp->(Gp->Prop)->Prop:=fun o i v G Q=>∃G',setR G o i v=some G'/\Q G'
theorem set_F' {o i v:T} {G:Gp} {Q:Gp->Prop} (h:jXr o i v G Q):rSetA o i v G Q:=by
 obtain⟨G',hr,q⟩:=h
 unfold setR at hr
 split at hr
 ·rename_i p
  split at hr
  ·rename_i xs h1
   split at hr
   ·rename_i k
    split at hr
    ·rename_i j hj;cases hr;exact .inl ⟨p,xs,k,j,rfl,rfl,h1,hj,q⟩
    ·cases hr
   ·cases hr
  ·rename_i kvs h1
   split at hr
   ·rename_i ys
    split at hr
    ·rename_i ks hk
     split at hr
     ·rename_i hz;cases hr;exact .inr (.inl ⟨p,ys,ks,kvs,rfl,rfl,hk,h1,hz,q⟩)
     ·cases hr
    ·cases hr
   ·cases hr
  ·rename_i kvs h1
   split at hr
   ·rename_i k hk
    split at hr
    ·rename_i hz;cases hr;exact .inr (.inr ⟨p,k,kvs,rfl,hk,h1,hz,q⟩)
    ·cases hr
   ·cases hr
  ·cases hr
  ·cases hr
  ·cases hr
 ·cases hr
theorem s_F {X:L2.Cx} (hu:X.A.units+20<cLine):Set3 X jXr:=(s_any hu).imp fun _ _ _ _ _=>set_F'
noncomputable def rLeF:R3:=fun x y G Q=>∃b,(match x,y with
 | .int i,.int j=>some (decide (i<=j))
 | .tup [.int a,.int b],.tup [.int c,.int d]=>some (HT.lexLe [a,b] [c,d])
 | _,_=>none)=some b/\Q (.bl b) G
theorem le_F' {x y:T} {G:Gp} {Q:VK3} (h:rLeF x y G Q):rLeA x y G Q:=by
 obtain⟨b,hb,q⟩:=h
 split at hb
 ·cases hb;exact .inl ⟨_,_,rfl,rfl,q⟩
 ·cases hb;exact .inr ⟨_,_,rfl,rfl,q⟩
 ·cases hb
theorem o_leF {X:L2.Cx} (hu:X.A.units+20<cLine):Op3 X (compareOp .LtE) rLeF:=(o_leA hu).imp fun _ _ _ _=>le_F'
noncomputable def inR (G:Gp) (x y:T):Option Bool:=match seqT G y with
 | some xs=>if jY5 x=true/\xs.all jY5=true then some (inT x xs) else none
 | none=>match dAt G y x with
  | some o=>some o.isSome
  | none=>none
noncomputable def jVb:R3:=fun x y G Q=>∃b,inR G x y=some b/\Q (.bl (!b)) G
theorem notIn_F' {x y:T} {G:Gp} {Q:VK3} (h:jVb x y G Q):rNotInL x y G Q:=by
 obtain⟨b,hb,q⟩:=h
 unfold inR at hb
 split at hb
 ·rename_i xs hx
  split at hb
  ·rename_i hc;cases hb;exact .inl ⟨xs,hx,hc.1,hc.2,q⟩
  ·cases hb
 ·split at hb
  ·rename_i o ho;cases hb;exact .inr ⟨o,ho,q⟩
  ·cases hb
theorem jZi {X:L2.Cx} (hu:X.A.units+20<cLine):Op3 X (compareOp .NotIn) jVb:=(o_notIn hu).imp fun _ _ _ _=>notIn_F'
noncomputable def slR (G:Gp) (x:T) (lo hi:Option Int):Option Res:=match x with
 | .tup xs=>some (.val (.tup (cutT xs lo hi)))
 | .scr xs=>some (.newL (cutT xs lo hi))
 | .ref p=>match G p with
  | some (.lst xs)=>some (.newL (cutT xs lo hi))
  | _=>none
 | _=>none
noncomputable def rSlF:T->Option Int->Option Int->Gp->VK3->Prop:=fun x lo hi G Q=>∃r,slR G x lo hi=some r/\fin3 r G Q
theorem sl_F' {x:T} {lo hi:Option Int} {G:Gp} {Q:VK3} (h:rSlF x lo hi G Q):rSlA x lo hi G Q:=by
 obtain⟨r,hr,q⟩:=h
 unfold slR at hr
 split at hr
 ·cases hr;exact .inr ⟨_,rfl,q⟩
 ·cases hr;exact .inl ⟨_,rfl,q⟩
 ·split at hr
  ·rename_i xs h1;cases hr;exact .inl ⟨xs,by simp only[jU4,h1,asL],q⟩
  ·cases hr
 ·cases hr
theorem sl_F {X:L2.Cx}:Sl3 X rSlF:=sl_any.imp fun _ _ _ _ _=>sl_F'
end L3
namespace L2
open PySem PySem.Spec PyProof.Rows
noncomputable def Its (lo c:Int) (n:Nat):It:=⟨fun i _=>i<n,fun i H x H'=>H'=H/\x= .int (lo+i*c),fun i _=>n<=i⟩
theorem turn_ranges {P:Program} {w:World} {K:PySem.W.Frag} {tg:Expr} (it:Addr) (lo c:Int) (n:Nat):Turn P w K tg (Its lo c n) [it] it (fun i h=>IsRangeIter h it (lo+(i:Nat)*c) ((n:Int)-(i:Nat)) c) where
 mem:=by simp
 obj:=fun i h st b hb=>by
  have e:b=it:=by simpa using hb
  subst e
  exact⟨_,st,fun v z=>by
   have z':Data.fields _=Data.cell v:=z
   cases z'⟩
 keep:=fun i h h' st k=>k it (by simp) _ st
 item:=by
  intro X hP hw hK hc i pins s σ H E I hf st hg
  subst hP hw hK
  obtain⟨f0,f1,f2,f3,f4,f5⟩:=hf it (by simp)
  have W:=Walks.range (prog:=X.prog) (w:=X.w) (I.ok.hd hc) it lo c n
  refine W.item i s _ _ hg st fun v h' tk hv st' kk=> ?_
  obtain⟨t,rfl⟩:=hv
  have I1:Inv X pins σ H {s with heap:=h',toks:=tk}:=I.turned (fun b o hb e=>kk b o (by simpa using hb) e) f0 f1 f3 f4 f5
  exact⟨_,rfl,go_of (s:={s with heap:=h',toks:=tk}) (n:="range_iterator") st' rfl rfl (by decide) ⟨.int (lo+i*c),H,I1,⟨t,rfl⟩,⟨rfl,rfl⟩,st',fun b hb=>(hf b hb).1⟩⟩
 done:=by
  intro X hP hw hK hc i pins s σ H E I hf st hg
  subst hP hw hK
  obtain⟨f0,f1,f2,f3,f4,f5⟩:=hf it (by simp)
  exact wpAny_pyNext_range_end (I.ok.hd hc) st (by have:n<=i:=hg;omega) fun h' eb=>⟨rfl,I.turned (t':=s.toks) (fun b o hb e=>eb b o hb e) f0 f1 f3 f4 f5⟩
 self:=fun _ _ _ _ _ st h=>wpAny_pyIter_rangeiter st h
section
variable {X:Cx} {tg:Expr}
theorem ranges_it {pins:List (Addr×Obj)} {σ:St} {H:Hp} {s:Shared} {R:It->Hp->Prop} {E:Value->Shared->Prop} {lo hi c:Int} {t u v:Tok} {tk:Nat} (I:Inv X pins σ H s) (hsm:Builtin.Range.small lo hi c=true)
  (q:R (Its lo c (Builtin.Range.rangeSize lo hi c).toNat) H):wpAny (model X.prog X.w) X.A (pyIter (.ref s.heap.objs.size)) (PIE X pins σ tg R) E {s with heap:=s.heap.push {cls:= .type "range",data:= .fields #[.int lo t,.int hi u,.int c v]},toks:=tk}:=by
 refine wpAny_pyIter_range (IsRange.new ..) hsm ?_
 have I1:Inv X pins σ H {s with heap:=s.heap.push {cls:= .type "range",data:= .fields #[.int lo t,.int hi u,.int c v]},toks:=tk}:=I.kept fun b o e=>Heap.get?_push_of_some _ e
 refine⟨(s.heap.push {cls:= .type "range",data:= .fields #[.int lo t,.int hi u,.int c v]}).objs.size,[(s.heap.push {cls:= .type "range",data:= .fields #[.int lo t,.int hi u,.int c v]}).objs.size],_,_,H,rfl,
  I1.kept (t':=tk) fun b o e=>Heap.get?_push_of_some _ e,turn_ranges _ lo c (Builtin.Range.rangeSize lo hi c).toNat,?_,fun b hb=> ?_,q⟩
 ·show IsRangeIter _ _ (lo+((0:Nat):Int)*c) ((((Builtin.Range.rangeSize lo hi c).toNat:Nat):Int)-((0:Nat):Int)) c
  rw[<-rangeSize_toNat,show lo+((0:Nat):Int)*c=lo by simp,show Builtin.Range.rangeSize lo hi c-((0:Nat):Int)=Builtin.Range.rangeSize lo hi c by simp]
  exact Heap.get?_push_size _ rfl
 ·have e:b=(s.heap.push {cls:= .type "range",data:= .fields #[.int lo t,.int hi u,.int c v]}).objs.size:=by simpa using hb
  subst e
  exact I1.fpOk (lJd _) (I1.hok.fresh (lJd _))
end
end L2
namespace L3
open PySem PySem.Spec PyProof.Rows L2
noncomputable def rngS (lo c:Int) (n:Nat):List T:=(List.range n).map fun (k:Nat)=>T.int (lo+k*c)
noncomputable def iRng3 (ta:TA3):TI3:=fun τ G R=>ta τ G fun vs G1=>∃i j c:Int,vs=[.int i,.int j,.int c]/\(c≠0/\c.natAbs<1073741824/\Builtin.Range.small i j c=true)/\R (rngS i c (Builtin.Range.rangeSize i j c).toNat) (fun _=>True) G1
theorem items_rngS {K:PySem.W.Frag} {H:Hp} (lo c:Int) (n:Nat):Items K H (Its lo c n) (rngS lo c n) fun _=>True:=by
 intro i H' G e g _
 have hl:(rngS lo c n).length=n:=by simp[rngS]
 refine⟨fun h=>by rw[hl] at h;exact h,fun h=>by rw[hl] at h;exact h,fun hi x H2 ⟨eH,ex⟩=> ?_⟩
 rw[hl] at hi
 subst eH;subst ex
 exact⟨.refl _,g,.int (lo+i*c),by simp[rngS,hi],rfl⟩
theorem i_range3 {X:Cx} {tg:Expr} {pos:Pos} {a b c:Expr} {ta:TA3} {p:Pos} (hg:Gl X "range") (hm:X.mg "range"=none) (ha:PA3 X [a,b,c] ta) (hs:starEach [a,b,c] X.env=[(false,eval a X.env),(false,eval b X.env),(false,eval c X.env)]:=by rfl) (hs2:starEach [b,c] X.env=[(false,eval b X.env),(false,eval c X.env)]:=by rfl):
  PI3 X tg (.Call (.Name "range" p) [a,b,c] [] pos) (iRng3 ta):=by
 intro pins s τ G H R I h
 obtain⟨σ,I0,hs0,hg0⟩:=id I
 refine Call_ (jVm I0 hg hm boot_range (PyProof.Rows.callWith_type1 (thn (ha pos pins s τ G H _ I h) fun us s1 w_=>w_.el fun xs G1 H1 e1 i_ r_ q1=>i_.el fun σ I1 hs1 hg1=>r_.el fun as ras rvs=> ?_) (by rw[hs,hs2]) (by rw[hs2];rfl)))
 obtain⟨i,j,k,e,⟨q1,q2,q3⟩,q⟩:=q1
 subst e
 obtain⟨v,as1,rfl,rv,ras1⟩:=ras
 obtain⟨w,z,rfl,rw',rz⟩:=reps2 ras1
 cases (show v= .int i from rv);cases (show w= .int j from rw');cases (show z= .int k from rz)
 cases rvs with
 | cons ru rvs=>
  obtain⟨u',u'',rfl,ru',ru''⟩:=Vals.two rvs
  obtain⟨t,rfl⟩:=ru
  obtain⟨t',rfl⟩:=ru'
  obtain⟨t'',rfl⟩:=ru''
  refine call_range_3 q1 (thn (ranges_it (tg:=tg) (R:=fun J H'=>J=Its i k (Builtin.Range.rangeSize i j k).toNat/\H'=H1) I1 q3 ⟨rfl,rfl⟩) fun itv s2 z=> ?_) (Or.inl (PyProof.noPylong_small q2))
  obtain⟨it,fp,tn,J,H',ei,I2,T0,st,fk,eJ,eH⟩:=z
  subst eJ;subst eH
  exact⟨it,fp,tn,_,rngS i k (Builtin.Range.rangeSize i j k).toNat,fun _=>True,G1,H',ei,e1,⟨σ,I2,hs1,hg1⟩,T0,st,fk,items_rngS i k _,q⟩
def Draw (P:Program) (w:World) (A:Around) (i:Addr) (r:Option Value) (S S':Heap->Prop):Prop:=
 ∀(s:Shared) (Q E:Value->Shared->Prop),S s.heap->
  (∀x g,r=some x->S' g->Heap.SameBut i s.heap g->Q x {s with heap:=g})->
  (∀g e o,r=none->Heap.ExtBut i s.heap g->g.get? e=some o->o.cls= .type "StopIteration"->E (.ref e) {s with heap:=g})->
  wpAny (model P w) A (Builtin.SmallTypes.nextOf (.ref i)) Q E s
def OnTup (i t:Addr) (k:Nat) (xs:Array Value) (h:Heap):Prop:=h.IsTupleIter i t k/\h.IsTuple t xs
theorem kU8 {P:Program} {w:World} {A:Around} {i t:Addr} {k:Nat} {xs:Array Value} (hh:A.handled=none) (ne:t≠i):Draw P w A i xs[k]? (OnTup i t k xs) (OnTup i t (k+1) xs):=by
 rintro s Q E ⟨⟨o,ho,hc,hd⟩,q,hq,hqc,n,hn⟩ item stop
 have ty:s.TypeIs (.ref i) "tuple_iterator":=⟨o,ho,hc⟩
 refine wpAny_bind (wpAny_callSpecial?_slot (name:=Str.ofString "__next__") ty F.slot_tuple_iterator_next (wpAny_call_entry F.slot_tuple_iterator_next ty F.entry_tuple_iterator_next ?_ (F.args_tuple_iterator_next_1 _)))
 refine (show wpAny _ _ (field (.ref i) 0 >>= _) _ _ s from wpAny_bind (wpAny_field ho hd (x:= .ref t) rfl ?_))
 refine (show wpAny _ _ (if (Value.ref t == Value.none)=true then _ else field (.ref i) 1 >>= _) _ _ s from ?_)
 rw[if_neg (by exact lJf)]
 refine wpAny_bind (wpAny_field ho hd (x:= .int k 0) rfl (show wpAny _ _ (seqItems? (.ref t) >>= _) _ _ s from wpAny_bind (wpAny_seqItems hq hn ?_)))
 cases hx:xs[k]? with
 | some x=>
  simp only[hx,Int.toNat_natCast]
  have up:OnTup i t (k+1) xs (s.heap.update i (Obj.mapFields (·.setIfInBounds 1 (rawInt ((k:Int)+1))))):=by
   refine⟨⟨_,Heap.get?_update_self _ ho (Obj.isFreed_of_fields (Obj.data_mapFields hd _)),(Obj.cls_mapFields ..).trans hc,?_⟩,q,(Heap.SameBut.update ..).extBut t q ne hq,hqc,n,hn⟩
   rw[Obj.data_mapFields hd];simp[rawInt]
  exact wpAny_bind (wpAny_setField ho hd (by simp) (wpAny_pure ⟨x,rfl,wpAny_pure (item x _ hx up (Heap.SameBut.update ..))⟩))
 | none=>
  simp only[hx,Int.toNat_natCast]
  refine wpAny_bind (wpAny_rule (wpAny_bind (wpAny_setField ho hd (by simp) (show wpAny _ _ (newExc (.type "StopIteration") [] >>= _) _ _ _ from wpAny_bind ?_))))
  simp only[newExc,newTuple,raiseNew]
  refine wpAny_bind (wpAny_newObj_type (wpAny_bind (m:=firstArgMember _ _) (wpAny_of_eq (a:=Value.none) (by first | rfl | (simp only[firstArgMember];rfl)) (wpAny_newObj_type ?_ (by size_fits)))) (by size_fits))
  refine wpAny_bind (wpAny_handled ?_);rw[show A.in1.handled=none from hh]
  exact wpAny_bind (wpAny_pure (wpAny_throw (stop _ _ _ hx (((Heap.SameBut.update ..).extBut.push _).push _) (Heap.get?_push_size _ rfl) rfl)))
noncomputable def itOf (t:Addr):Obj:={cls:= .type "tuple_iterator",data:= .fields #[.ref t,.int 0 0]}
theorem zapart {n a b:Nat} (ha:a<n) (hb:b<n):ZipApart (n+4) (n+2) (n+3) n (n+1) a b:=by
 constructor<;>(show @Ne Nat _ _;omega)
noncomputable def Itv (K:PySem.W.Frag) (a:Addr) (n:Nat):It:=
 ⟨fun i H=>i<n/\∃xs x,SqL K H a xs/\xs.length=n/\xs[n-1-i]? =some x,fun i H x H'=>H'=H/\∀xs,SqL K H a xs->xs[n-1-i]? =some x,fun i _=>n<=i⟩
theorem turn_rev {P:Program} {w:World} {K:PySem.W.Frag} {tg:Expr} (a it:Addr) (n:Nat):Turn P w K tg (Itv K a n) [it] it (fun i h=>i<=n/\h.IsRevIter it a ((n:Int)-1-(i:Nat))) where
 mem:=lKt _
 obj:=fun i h ⟨_,o,e,c,d⟩ b hb=>by
  obtain rfl:=lJk.mp hb
  exact⟨o,e,fun v z=>by rw[d] at z;cases z⟩
 keep:=fun i h h' ⟨l,st⟩ k=>⟨l,st.at fun o e=>k it (lKt _) o e⟩
 item:=by
  rintro X hP hw hK hc i pins s σ H E I hf ⟨hl,st⟩ ⟨hi,xs,x,hq,hn,hx⟩
  subst hP hw hK
  obtain⟨its,rv,p,hz⟩:=I.list hq
  obtain⟨u,hu,ru⟩:=rv.get hx
  obtain⟨f0,f1,_,f3,f4,f5⟩:=hf it (lKt _)
  rw[show (n:Int)-1-(i:Nat)=((n-1-i:Nat):Int) by omega] at st
  refine wpAny_pyNext_rev_item st p.isList (x:=u) (by simpa using hu) fun h' st' sb=> ?_
  rw[show ((n-1-i:Nat):Int)-1=(n:Int)-1-((i+1:Nat):Int) by omega] at st'
  have I1:Inv X pins σ H {s with heap:=h'}:=I.turned (t':=s.toks) (fun b o hb e=>(sb.2 b hb).trans e) f0 f1 f3 f4 f5
  obtain⟨o,e,c,d⟩:=id st'
  exact⟨u,rfl,go_of (s:={s with heap:=h'}) e c d (by decide) ⟨x,H,I1,ru,⟨rfl,fun ys hy=>(I.list_inj hy hq).symm▸hx⟩,⟨hi,st'⟩,fun b hb=>(hf b hb).1⟩⟩
 done:=by
  rintro X hP hw hK hc i pins s σ H E I hf ⟨hl,st⟩ hg
  subst hP hw hK
  have hg':n<=i:=hg
  obtain⟨f0,f1,_,f3,f4,f5⟩:=hf it (lKt _)
  rw[show (n:Int)-1-(i:Nat)= -1 by omega] at st
  exact wpAny_pyNext_rev_end (I.ok.hd hc) st fun h' eb=>⟨rfl,I.turned (t':=s.toks) (fun b o hb e=>eb b o hb e) f0 f1 f3 f4 f5⟩
 self:=fun _ _ _ _ _ ⟨_,st⟩ h=>wpAny_pyIter_revIter st h
noncomputable def iRev (ta:TA3):TI3:=fun τ G R=>ta τ G fun vs G1=>∃x xs,vs=[x]/\jU4 G1 x=some xs/\R xs.reverse (fun G'=>jU4 G' x=some xs) G1
theorem i_reversed {X:Cx} {tg:Expr} {pos p:Pos} {a:Expr} {ta:TA3} (hg:Gl X "reversed") (hm:X.mg "reversed"=none) (hv:bootBuiltins "reversed"=some (.type "reversed")) (ha:PA3 X [a] ta) (hs:starEach [a] X.env=[(false,eval a X.env)]:=by rfl):
  PI3 X tg (.Call (.Name "reversed" p) [a] [] pos) (iRev ta):=by
 intro pins s τ G H R I h
 obtain⟨σ0,I0,_,_⟩:=id I
 refine Call_ (jVm I0 hg hm hv (PyProof.Rows.callWith_type1 (thn (ha pos pins s τ G H _ I h) fun us s1 w_=>w_.el fun xs' G1 H1 e1 i_ r_ q1=>i_.el fun σ I1 hs1 hg1=>r_.el fun as ras rvs=> ?_) hs rfl))
 obtain⟨x,xs,e,hx,q⟩:=q1
 subst e
 obtain⟨v,rfl,rv⟩:=jXj ras
 obtain⟨u,rfl,ru⟩:=rvs.one
 obtain⟨pa,vs,rfl,hq,r⟩:=jXu hg1 rv hx
 cases ru
 obtain⟨its,rvv,pl,hz⟩:=I1.list hq
 have hlen:its.length=xs.length:=by have:=rvv.length;have:=r.length;omega
 refine call_reversed_list pl.isList ?_
 have st:(s1.heap.push (revObj pa (((its.toArray).size:Int)-1))).IsRevIter s1.heap.objs.size pa ((xs.length:Int)-1-((0:Nat):Int)):=⟨_,Heap.get?_push_size _ rfl,rfl,by
  show Data.fields #[.ref pa,rawInt (((its.toArray).size:Int)-1)]=_
  rw[show ((its.toArray).size:Int)-1=(xs.length:Int)-1-((0:Nat):Int) by simp[hlen]]⟩
 refine wpAny_pyIter_revIter st ?_
 have fr:∀b∈[s1.heap.objs.size],FpOk X pins H1 b:=fun b hb=>by
  obtain rfl:=lJk.mp hb
  exact I1.fpOk (lJd _) (I1.hok.fresh (lJd _))
 refine⟨s1.heap.objs.size,[s1.heap.objs.size],_,_,xs.reverse,fun G'=>jU4 G' x=some xs,G1,H1,rfl,e1,⟨σ,I1.kept (t':=s1.toks) fun b o e=>Heap.get?_push_of_some _ e,hs1,hg1⟩,turn_rev pa _ xs.length,⟨lJg _,st⟩,fr,?_,q⟩
 intro i H2 G2 e2 g2 sty
 obtain⟨pb,ws,eb,h1,h2⟩:=jXu g2 (Rep.mono e2 _ rv) sty
 cases eb
 have hl2:=h2.length
 rw[List.length_reverse]
 refine⟨fun hi=>⟨hi,ws,ws[xs.length-1-i]'(by omega),h1,by omega,lJc _⟩,fun hi=>hi,fun hi y H' ⟨eH,hy⟩=> ?_⟩
 subst eH
 obtain⟨t,ht,rt⟩:=h2.get' (hy ws h1)
 exact⟨.refl _,g2,t,by rw[List.getElem?_reverse hi];exact ht,rt⟩
end L3
namespace L3
open PySem
theorem atN {α:Type} {xs:List α} {n:Nat}:L2.atI xs (n:Int)=xs[n]? :=by
 unfold L2.atI L2.ixN
 by_cases h:n<xs.length
 ·simp[h]
 ·simp[h]
theorem at0 {α:Type} {x:α} {xs:List α}:L2.atI (x::xs) 0=some x:=(atN (n:=0)).trans rfl
theorem at1 {α:Type} {x y:α} {xs:List α}:L2.atI (x::y::xs) 1=some y:=(atN (n:=1)).trans rfl
theorem at2 {α:Type} {x y z:α} {xs:List α}:L2.atI (x::y::z::xs) 2=some z:=(atN (n:=2)).trans rfl
theorem atZ {α:Type} {xs:List α} {i:Int} (h:0<=i):L2.atI xs i=xs[i.toNat]? :=by
 obtain⟨n,rfl⟩:=lJ7 h
 simpa using atN
theorem at_last {α:Type} {xs:List α} {y:α}:L2.atI (xs++[y]) (-1)=some y:=by
 unfold L2.atI L2.ixN
 have:¬ (0:Int)<= -1:=by decide
 simp only[this,if_false]
 rw[if_pos (by simp;omega)]
 have e:(-1+((xs++[y]).length:Int)).toNat=xs.length:=by simp;omega
 rw[e];simp
theorem kUd {n k:Nat} (h:k<n):L2.ixN n (k:Int)=some k:=by simp[L2.ixN,h]
theorem ix0 {n:Nat}:L2.ixN (n+1) 0=some 0:=kUd (k:=0) (by omega)
theorem ix1 {n:Nat}:L2.ixN (n+2) 1=some 1:=kUd (k:=1) (by omega)
theorem ix2 {n:Nat}:L2.ixN (n+3) 2=some 2:=kUd (k:=2) (by omega)
theorem ix30:L2.ixN 3 0=some 0:=ix0
theorem ix31:L2.ixN 3 1=some 1:=ix1
theorem ix32:L2.ixN 3 2=some 2:=ix2
theorem ixZ {n:Nat} {k:Int} (h0:0<=k) (h:k<n):L2.ixN n k=some k.toNat:=by simp[L2.ixN,h0,h]
theorem addR_int {G:Gp} {i j:Int}:addR G (.int i) (.int j)=some (.val (.int (i+j))):=rfl
theorem addR_lst {G:Gp} {p q:Addr} {xs ys:List T} (h1:G p=some (.lst xs)) (h2:G q=some (.lst ys)) (hz:xs.length+ys.length<=sizeLine):addR G (.ref p) (.ref q)=some (.newL (xs++ys)):=by simp only[addR,h1,h2,hz,if_true]
theorem mulR_int {G:Gp} {i j:Int}:mulR G (.int i) (.int j)=some (.val (.int (i*j))):=rfl
theorem mulC_int {i j:Int}:mulC (.int i) (.int j)=L2.CMul i j:=rfl
theorem mulC_ref {p:Addr} {j:Int}:mulC (.ref p) (.int j)=True:=rfl
theorem fin_val {t:T} {G:Gp} {Q:VK3}:fin3 (.val t) G Q=Q t G:=rfl
theorem fin_new {xs:List T} {G:Gp} {Q:VK3}:fin3 (.newL xs) G Q=∀p,G p=none->Q (.ref p) (gup G p (.lst xs)):=rfl
theorem ixR_tup {G:Gp} {xs:List T} {i:Int}:ixR G (.tup xs) (.int i)=L2.atI xs i:=rfl
theorem ixR_scr {G:Gp} {xs:List T} {i:Int}:ixR G (.scr xs) (.int i)=L2.atI xs i:=rfl
theorem jQu {G:Gp} {p:Addr} {xs:List T} {i:Int} (h:G p=some (.lst xs)):ixR G (.ref p) (.int i)=L2.atI xs i:=by simp only[ixR,seqT,h,asL]
theorem jY8 {G:Gp} {p:Addr} {xs:List T} {k:Int} {j:Nat} {v:T} (h:G p=some (.lst xs)) (hj:L2.ixN xs.length k=some j):setR G (.ref p) (.int k) v=some (gup G p (.lst (xs.set j v))):=by simp only[setR,h,hj]
theorem seqT_tup {G:Gp} {xs:List T}:seqT G (.tup xs)=some xs:=rfl
theorem jJp {G:Gp} {p:Addr} {xs:List T} (h:G p=some (.lst xs)):seqT G (.ref p)=some xs:=by simp only[seqT,h,asL]
theorem setR_m {G:Gp} {p:Addr} {xs:List T} {k:Int} {v:T} (h:G p=some (.lst xs)):setR G (.ref p) (.int k) v=(L2.ixN xs.length k).map fun j=>gup G p (.lst (xs.set j v)):=by
 cases e:L2.ixN xs.length k with
 | none=>simp only[setR,h,e,Option.map_none]
 | some j=>simp only[setR,h,e,Option.map_some]
theorem setR_gup {G:Gp} {p:Addr} {xs:List T} {k:Int} {v:T}:setR (gup G p (.lst xs)) (.ref p) (.int k) v=(L2.ixN xs.length k).map fun j=>gup G p (.lst (xs.set j v)):=by
 rw[setR_m jJg];simp only[kK8]
theorem ixR_gup {G:Gp} {p:Addr} {xs:List T} {i:Int}:ixR (gup G p (.lst xs)) (.ref p) (.int i)=L2.atI xs i:=jQu jJg
theorem seqT_gup {G:Gp} {p:Addr} {xs:List T}:seqT (gup G p (.lst xs)) (.ref p)=some xs:=jJp jJg
def ForAt (g:TG3) (tb:TS3) (D:Ends3) (τ:St3) (xs:List T) (stay:Gp->Prop) (G:Gp):Prop:=∃P:Nat->St3->Gp->Prop,P 0 τ G/\(∀i τ G,i<=xs.length->P i τ G->stay G)/\
 (∀i x τ G,xs[i]? =some x->P i τ G->g x τ G fun τ2 G2=>tb {D with nx:=P (i+1),ct:=P (i+1),bk:=D.nx} τ2 G2)/\∀ τ G,P xs.length τ G->D.nx τ G
theorem jJ6 {wi:TI3} {g:TG3} {tb:TS3} {D:Ends3} {τ:St3} {G:Gp}:tFor wi g tb D τ G=wi τ G fun xs stay G1=>ForAt g tb D τ xs stay G1:=rfl
def CompAt (mask:List Bool) (g:TG3) (tif:TT3) (te:TE3) (τ:St3) (xs:List T) (stay:Gp->Prop) (G:Gp) (Q:VK3):Prop:=tCompAt mask g tif te τ xs stay G Q
theorem tComp_at {mask:List Bool} {wi:TI3} {g:TG3} {tif:TT3} {te:TE3} {τ:St3} {G:Gp} {Q:VK3}:jU3 mask wi g tif te τ G Q=wi τ G fun xs stay G1=>CompAt mask g tif te τ xs stay G1 Q:=rfl
def Sub (G G':Gp):Prop:=∀c o,G c=some o->G' c=some o
theorem Sub.refl (G:Gp):Sub G G:=fun _ _ h=>h
theorem Sub.trans {G G1 G2:Gp} (h:Sub G G1) (h':Sub G1 G2):Sub G G2:=fun c o e=>h' c o (h c o e)
theorem Sub.new {p:Addr} {G:Gp} {o:GO} (hp:G p=none):Sub G (gup G p o):=fun c u e=>by rw[jJi];exact e;rintro rfl;rw[hp] at e;cases e
theorem Sub.over {p:Addr} {G G':Gp} {o:GO} (h:Sub G G') (hp:G p=none):Sub G (gup G' p o):=fun c u e=>by rw[jJi];exact h c u e;rintro rfl;rw[hp] at e;cases e
theorem Sub.none {G G':Gp} {p:Addr} (h:Sub G G') (hp:G' p=none):G p=none:=by
 cases e:G p with
 | none=>rfl
 | some o=>rw[h p o e] at hp;cases hp
theorem jK1 {G:Gp} {a p:Addr} {o:GO} (h:gup G a o p=none):p≠a/\G p=none:=by
 by_cases e:p=a
 ·subst e;rw[jJg] at h;cases h
 ·rw[jJi e] at h;exact⟨e,h⟩
theorem jJd {G:Gp} {a p:Addr} {o:GO} (h:G a=some o) (hp:G p=none):a≠p:=by rintro rfl;rw[h] at hp;cases hp
theorem Sub.seq {G G':Gp} {x:T} {xs:List T} (h:Sub G G') (e:seqT G x=some xs):seqT G' x=some xs:=by
 cases x with
 | ref p=>have:=jYs e;simp only[seqT,h p _ this,asL]
 | tup _=>exact e
 | scr _=>exact e
 | non=>exact e
 | bl _=>exact e
 | int _=>exact e
 | str _=>exact e
 | ty _=>exact e
theorem jQ5 {α β:Type} {enc:α->β} {es:List α} {i:Nat} {x:β} (h:(es.map enc)[i]? =some x):∃e,es[i]? =some e/\x=enc e:=by
 rw[lJj] at h
 cases e1:es[i]? with
 | none=>rw[e1] at h;cases h
 | some e=>rw[e1] at h;exact⟨e,rfl,(lJx h).symm⟩
theorem kXw {α:Type} {mask:List Bool} {g:TG3} {tif:TT3} {te:TE3} {τ:St3} {es:List α} {enc:α->T} {stay:Gp->Prop} {G:Gp} {Q:VK3} (f:α->Option T) (hz:es.length<=sizeLine) (hst:∀G',Sub G G'->stay G')
  (h:∀(i:Nat) e,es[i]? =some e->∀G' (K:T->Gp->Prop) (K0:Gp->Prop),Sub G G'->(∀y G4,f e=some y->Sub G' G4->K y G4)->(f e=none->∀G4,Sub G' G4->K0 G4)->g (enc e) (msk mask τ) G' fun τ2 G2=>tif τ2 G2 fun b G3=>if b=true then te τ2 G3 K else K0 G3)
  (hq:∀D G',G D=none->G' D=some (.lst (es.filterMap f))->Sub G G'->Q (.ref D) G'):CompAt mask g tif te τ (es.map enc) stay G Q:=by
 intro D hD
 refine⟨fun i acc G'=>acc=(es.take i).filterMap f/\G' D=some (.lst acc)/\Sub G G',⟨by simp,jJg,.new hD⟩,?_,?_,?_⟩
 ·rintro i acc G' hi ⟨ea,eg,hs⟩
  exact⟨hst G' hs,eg⟩
 ·rintro i x acc G' hx0 ⟨ea,eg,hs⟩
  obtain⟨e,hx,rfl⟩:=jQ5 hx0
  have hi:i<es.length:=(lJa.mp hx).1
  have tk:es.take (i+1)=es.take i++[e]:=by rw[lKa,hx];rfl
  have hlen:acc.length<sizeLine:=by
   have h1:acc.length<=(es.take i).length:=by rw[ea];exact List.length_filterMap_le _ _
   rw[lKk] at h1;omega
  refine h i e hx G' _ _ hs (fun y G4 hy h4=>⟨h4 D _ eg,hlen,?_,jJg,(hs.trans h4).over hD⟩) fun hn G4 h4=>⟨?_,h4 D _ eg,hs.trans h4⟩
  ·rw[tk,lK8,<-ea];simp[hy]
  ·rw[tk,lK8,<-ea];simp[hn]
 ·rintro acc G' ⟨ea,eg,hs⟩
  rw[lJb,lKf] at ea
  rw[ea] at eg
  exact hq D G' hD eg hs
theorem jUa {α:Type} {mask:List Bool} {g:TG3} {tif:TT3} {te:TE3} {τ:St3} {es:List α} {enc:α->T} {stay:Gp->Prop} {G:Gp} {Q:VK3} (f:α->T) (hz:es.length<=sizeLine) (hst:∀G',Sub G G'->stay G')
  (h:∀(i:Nat) e,es[i]? =some e->∀G' (K:T->Gp->Prop) (K0:Gp->Prop),Sub G G'->(∀G4,Sub G' G4->K (f e) G4)->g (enc e) (msk mask τ) G' fun τ2 G2=>tif τ2 G2 fun b G3=>if b=true then te τ2 G3 K else K0 G3)
  (hq:∀D G',G D=none->G' D=some (.lst (es.map f))->Sub G G'->Q (.ref D) G'):CompAt mask g tif te τ (es.map enc) stay G Q:=by
 refine kXw (fun e=>some (f e)) hz hst (fun i e he G' K K0 hs hk _=>h i e he G' K K0 hs fun G4 h4=>hk _ G4 rfl h4) fun D G' hD h1 h2=>hq D G' hD ?_ h2
 rw[h1];congr 2;induction es with
 | nil=>rfl
 | cons a as ih=>simp
theorem jK2 {G:Gp} {p:Addr} {xs:List T} (h:G p=some (.lst xs)):tyT G "list" (.ref p)=True:=by simp[tyT,h]
theorem tyT_gup {G:Gp} {p:Addr} {xs:List T}:tyT (gup G p (.lst xs)) "list" (.ref p)=True:=jK2 jJg
theorem kUv {α:Type} {mask:List Bool} {g:TG3} {tif:TT3} {te:TE3} {τ:St3} {es:List α} {enc:α->T} {stay:Gp->Prop} {G:Gp} {Q:VK3} (f:α->List T) (hz:es.length<=sizeLine) (hst:∀G',Sub G G'->stay G')
  (h:∀(i:Nat) e,es[i]? =some e->∀G' (K:T->Gp->Prop) (K0:Gp->Prop),Sub G G'->(∀p G4,G' p=none->G4 p=some (.lst (f e))->Sub G' G4->K (.ref p) G4)->g (enc e) (msk mask τ) G' fun τ2 G2=>tif τ2 G2 fun b G3=>if b=true then te τ2 G3 K else K0 G3)
  (hq:∀D rs G',G D=none->G' D=some (.lst (rs.map T.ref))->Sub G G'->rs.length=es.length->(D::rs).Nodup->(∀(i:Nat) (r:Addr) (e:α),rs[i]? =some r->es[i]? =some e->G r=none/\G' r=some (.lst (f e)))->Q (.ref D) G'):CompAt mask g tif te τ (es.map enc) stay G Q:=by
 intro D hD
 refine⟨fun i acc G'=>∃rs:List Addr,acc=rs.map T.ref/\rs.length=i/\G' D=some (.lst acc)/\Sub G G'/\(D::rs).Nodup/\(∀(i:Nat) (r:Addr) (e:α),rs[i]? =some r->es[i]? =some e->G r=none/\G' r=some (.lst (f e))),⟨[],rfl,rfl,jJg,.new hD,by simp,by simp⟩,?_,?_,?_⟩
 ·rintro i acc G' hi ⟨rs,ea,hl,eg,hs,hn,hr⟩
  exact⟨hst G' hs,eg⟩
 ·rintro i x acc G' hx0 ⟨rs,ea,hl,eg,hs,hn,hr⟩
  obtain⟨e,hx,rfl⟩:=jQ5 hx0
  have hi:i<es.length:=(lJa.mp hx).1
  have hlen:acc.length<sizeLine:=by rw[ea,lJb];omega
  refine h i e hx G' _ _ hs fun p G4 hp h4 s4=>⟨s4 D _ eg,hlen,rs++[p],by simp[ea],by simp[hl],jJg,(hs.trans s4).over hD,?_,?_⟩
  ·have hDp:D≠p:=jJd eg hp
   have hpr:p∉rs:=by
    intro hm
    obtain⟨j,hj⟩:∃j:Nat,_:=lJq hm
    have hjl:j<rs.length:=(lJa.mp hj).1
    have:=(hr j p es[j] hj (lJc (by omega))).2
    rw[hp] at this;cases this
   rw[lKj] at hn
   simp only[lKj,lJt,lJk,not_or,lKy,lKz,not_false_eq_true,List.nodup_nil,and_true]
   exact⟨⟨hn.1,hDp⟩,hn.2,trivial,fun a ha b hb=>by subst hb;rintro rfl;exact hpr ha⟩
  ·intro j r e' hj he'
   have hjl:j<rs.length+1:=by have:=(lJa.mp hj).1;simpa using this
   by_cases hjr:j<rs.length
   ·rw[lJ0 hjr] at hj
    obtain⟨q1,q2⟩:=hr j r e' hj he'
    have:r≠D:=by rintro rfl;exact (lKj.mp hn).1 (lJe hj)
    exact⟨q1,by rw[jJi this];exact s4 _ _ q2⟩
   ·have hj2:j=rs.length:=by omega
    subst hj2
    rw[lK7 (lJd _)] at hj
    simp at hj
    subst hj
    rw[hl,hx] at he';cases he'
    exact⟨hs.none hp,by rw[jJi (jJd eg hp).symm];exact h4⟩
 ·rintro acc G' ⟨rs,ea,hl,eg,hs,hn,hr⟩
  rw[ea] at eg
  exact hq D rs G' hD eg hs (by simpa using hl) hn hr
end L3
namespace L3
open PySem PySem.Spec PyProof.Rows L2
section
variable {X:Cx}
noncomputable def rAddE:R3:=fun x y G Q=>∃ys,x= .tup []/\y= .tup ys/\Q (.tup ys) G
theorem o_addE:Op3 X (binaryOp .Add) rAddE:=by
 rintro pins s τ G H x y v u Q ⟨σ,I,hs,hg⟩ ⟨a,ra,rv⟩ ⟨b,rb,ru⟩ ⟨ys,ex,ey,q⟩
 subst ex;subst ey
 obtain⟨pa,vs,rfl,h1,r1⟩:=(show ∃p vs,a= .ref p/\H p=some (.tup vs)/\Reps X.K H [] vs from ra)
 obtain⟨pb,ws,rfl,h2,r2⟩:=(show ∃p vs,b= .ref p/\H p=some (.tup vs)/\Reps X.K H ys vs from rb)
 cases rv;cases ru
 obtain⟨its,q1,p1,_⟩:=I.tuple (.of h1)
 obtain⟨its2,q2,p2,_⟩:=I.tuple (.of h2)
 have e0:its.toArray.isEmpty=true:=by
  have e1:=r1.length
  have e2:=q1.length
  have:its=[]:=List.eq_nil_of_length_eq_zero (by simp at e1;omega)
  rw[this];rfl
 obtain⟨⟨cls,dd,data,sl⟩,ho,hc,n,hd⟩:=id p1
 obtain⟨⟨cls2,dd2,data2,sl2⟩,ho2,hc2,n2,hd2⟩:=id p2
 simp only at hc hd hc2 hd2
 subst hc hd hc2 hd2
 exact concat_meets ⟨_,ho,rfl⟩ ⟨_,ho2,rfl⟩ noFill_tuple_add seq_tuple_add PySem.F.slot_tuple_add PySem.F.entry_tuple_add (PySem.F.args_tuple_add_2 _ _) (tuple_addW0 pa pb its.toArray its2.toArray n n2 dd dd2 sl sl2 e0)
  ⟨ho,ho2,.tup ys,G,H,.refl H,⟨σ,I,hs,hg⟩,⟨.ref pb,⟨pb,ws,rfl,h2,r2⟩,rfl⟩,q⟩
noncomputable def jZ2:R3:=fun x y G Q=>jQi x y G Q\/rAddE x y G Q
theorem kUl:Op3 X (binaryOp .Add) jZ2:=o_addF.or o_addE
end
theorem draws_tup {P:Program} {w:World} {A:Around} (hh:A.handled=none) (it t:Addr) (ne:t≠it) (xs:Array Value):Draws P w A it [it,t] xs.size (fun i v=>xs[i]? =some v) (fun i h=>OnTup it t i xs h) where
 live:=fun _ _ ⟨⟨o,ho,_⟩,_⟩=>⟨o,ho⟩
 frame:=fun _ _ _ ⟨⟨o,ho,r⟩,⟨q,hq,r'⟩⟩ k=>⟨⟨o,k it (by simp) o ho,r⟩,⟨q,k t (by simp) q hq,r'⟩⟩
 item:=fun i s Q E hi st hQ=>kU8 hh ne s Q E st (fun x g e s' b=>hQ x g s.toks e s' b) fun _ _ _ e=>by rw[Array.getElem?_eq_getElem hi] at e;cases e
 done:=fun s Q E st hE=>kU8 hh ne s Q E st (fun x _ e=>by rw[Array.getElem?_eq_none (lJd _)] at e;cases e) fun g e o _ b he hc=>hE g e b ⟨o,he,hc⟩
noncomputable def enumOf (i:Addr):Obj:={cls:= .type "enumerate",data:= .fields #[.none,.bool false,.ref i,rawInt 0,.none,.none]}
theorem enum_new (t:Addr) (xs:Array Value):
  Meets (Builtin.«enumerate.__new__» ⟨[.type "enumerate",.ref t],[]⟩) fun _ R s=>s.heap.IsTuple t xs/\R (.ok (.ret (.ref (s.heap.push (itOf t)).objs.size))) {s with heap:=(s.heap.push (itOf t)).push (enumOf s.heap.objs.size)}:=by
 refine .of_wp fun P w A R s ⟨ht,h⟩=> ?_
 obtain⟨g,a1,a2,a3,a4⟩:=s
 have sb:=sub_enumerate
 have m1:Heap.IsTuple (Shared.heap ⟨g,a1,a2,a3,a4⟩) t xs:=ht
 obtain⟨⟨c,dct,dt,sl⟩,hl,hc,n,hd⟩:=id ht
 replace hc:c= .type "tuple":=hc
 replace hd:dt= .seq xs n:=hd
 subst hc hd
 wp_walk using AutoSeq1.wpAny_loadPart' hl
 refine wpAny_stack_any (fun stk=>wpAny_pure ?_)
 split
 ·rename_i k _ _ _ _ _
  cases (k == Value.type "enumerate")<;>(wp_walk using AutoSeq1.wpAny_loadPart' hl,wpAny_pyIter_tuple m1;exact⟨_,rfl,h⟩)
 ·wp_walk using AutoSeq1.wpAny_loadPart' hl,wpAny_pyIter_tuple m1;exact⟨_,rfl,h⟩
theorem enum_made {P:Program} {w:World} {A:Around} {s:Shared} {t:Addr} {xs:Array Value} {Q E:Value->Shared->Prop} (ht:s.heap.IsTuple t xs)
  (h:∀g n,n=s.heap.objs.size->IsEnum g (n+1) n 0 .none->OnTup n t 0 xs g->(∀c o,s.heap.get? c=some o->g.get? c=some o)->Q (.ref (n+1)) {s with heap:=g}):wpAny (model P w) A (call (.type "enumerate") [.ref t]) Q E s:=by
 refine callType_new F.called_enumerate (by decide) (F.typeCall_enumerate_1 _) (F.newCall_enumerate_1 _) (fun obj=>F.args_object_init_2 obj _) F.entry_enumerate_new (enum_new t xs) ⟨ht,?_⟩
 have hn:∀(g:Heap) (o:Obj),(g.push o).objs.size=g.objs.size+1:=fun _ _=>Heap.size_push ..
 have up:∀ {g:Heap} {o q:Obj} {c:Addr},g.get? c=some q->(g.push o).get? c=some q:=fun e=>Heap.get?_push_of_some _ e
 obtain⟨q,hq,hr⟩:=ht
 have c0:((s.heap.push (itOf t)).push (enumOf s.heap.objs.size)).get? s.heap.objs.size=some (itOf t):=up (Heap.get?_push_size _ rfl)
 have c1:((s.heap.push (itOf t)).push (enumOf s.heap.objs.size)).get? (s.heap.push (itOf t)).objs.size=some (enumOf s.heap.objs.size):=Heap.get?_push_size _ rfl
 show _/\_
 simp only[hn] at c1 ⊢
 exact⟨⟨_,c1,rfl⟩,h _ _ rfl c1 ⟨⟨_,c0,rfl,rfl⟩,q,up (up hq),hr⟩ fun c o e=>up (up e)⟩
theorem jXi {P:Program} {w:World} {A:Around} {s:Shared} {e it t:Addr} {i:Int} {k:Nat} {old:Value} {xs:Array Value} {Q:Option Value->Shared->Prop} {E:Value->Shared->Prop} (hh:A.handled=none) (ne:t≠it) (he:IsEnum s.heap e it i old) (st:OnTup it t k xs s.heap) (hk:xs.size<=k)
  (hQ:∀g,Heap.ExtBut it s.heap g->Q none {s with heap:=g}):wpAny (model P w) A (pyNext (.ref e)) Q E s:=by
 have ty:s.TypeIs (.ref e) "enumerate":=⟨_,he,rfl⟩
 refine wpAny_bind (wpAny_attempt (wpAny_callSpecial?_slot (name:=Str.ofString "__next__") ty F.slot_enumerate_next (wpAny_call_entry F.slot_enumerate_next ty F.entry_enumerate_next ?_ (F.args_enumerate_next_1 _))))
 refine (show wpAny _ _ (field (.ref e) 2 >>= _) _ _ _ from wpAny_bind (wpAny_field he rfl (x:= .ref it) rfl (wpAny_bind ?_)))
 refine kU8 (A:=A.in1) hh ne s _ _ st (fun x _ e=>by rw[Array.getElem?_eq_none hk] at e;cases e) fun g x o _ b hx hc=> ?_
 exact wpAny_bind (wpAny_isInstance (T:="StopIteration") (b:=true) ⟨o,hx,hc⟩ isSubtype_stop (wpAny_pure (hQ g b)))
noncomputable def Itn (K:PySem.W.Frag) (a:Addr):It:=
 ⟨fun i H=>∃xs x,SqT K H a xs/\xs[i]? =some x,fun i H x H'=>∃p y,H p=none/\x= .ref p/\(∀xs,SqT K H a xs->xs[i]? =some y)/\H'=upd H p (.tup [.int i,y]),fun i H=>∃xs,SqT K H a xs/\xs.length<=i⟩
theorem enum_off {h:Heap} {a e it:Addr} {i:Int} {old:Value} {k:Nat} {xs:Array Value} (he:IsEnum h e it i old) (hi:h.IsTupleIter it a k) (ht:h.IsTuple a xs):a≠it/\e∉[it,a]:=by
 obtain⟨o,ho,hc,_⟩:=hi
 obtain⟨q,hq,hqc,_⟩:=ht
 refine⟨fun z=> ?_,fun m=> ?_⟩
 ·subst z;rw[ho] at hq;cases hq;rw[hc] at hqc;simp at hqc
 ·simp only[lJn,lKz,or_false] at m
  rcases m with rfl | rfl
  ·rw[he] at ho;cases ho;simp at hc
  ·rw[he] at hq;cases hq;simp at hqc
theorem turn_enumT {P:Program} {w:World} {K:PySem.W.Frag} {elts:List Expr} {k:Nat} {pos:Pos} (a e it:Addr) (hei:e≠it):
  Turn P w K (.Tuple elts k pos) (Itn K a) [e,it] e (fun i h=>(∃old,IsEnum h e it i old)/\h.IsTupleIter it a i) where
 mem:=lKe ..
 obj:=fun i h ⟨⟨old,h1⟩,h2⟩ b hb=>by
  simp only[lKz,lJn,or_false] at hb
  rcases hb with rfl | rfl
  ·exact⟨_,h1,fun v z=>nomatch (show Data.fields _=Data.cell v from z)⟩
  ·obtain⟨o,e2,c,d⟩:=h2
   exact⟨o,e2,fun v z=>by rw[d] at z;cases z⟩
 keep:=fun i h h' ⟨⟨old,h1⟩,h2⟩ kp=>⟨⟨old,kp e (by simp) _ h1⟩,h2.at fun o q=>kp it (by simp) o q⟩
 item:=by
  rintro X hP hw hK hc i pins s σ H E I hf ⟨⟨old,he⟩,hit⟩ ⟨xs,x,hq,hx⟩
  subst hP hw hK
  obtain⟨its,rv,p,hz⟩:=I.tuple hq
  obtain⟨u,hu,ru⟩:=rv.get hx
  have p':s.heap.IsTuple a its.toArray:=p
  obtain⟨nei,hef⟩:=enum_off he hit p'
  have hlt:i<its.toArray.size:=by simpa using (lJa.mp hu).1
  refine wpAny_pyNext_enum_itemD (draws_tup (A:=X.A.in1) (I.ok.hd hc) it a nei its.toArray) he ⟨hit,p'⟩ hlt hei hef fun x' h1 tk hx' ho hit1 hT hsz hk=> ?_
  obtain rfl:u=x':=by simpa[hu] using hx'
  refine⟨_,rfl,wpAny_letOwnedTupleGo_enum ho fun h2 he2 hs2=> ?_⟩
  have hel:e<s.heap.objs.size:=Heap.lt_size he
  have hp2:∀b o,b∉[e,it]->s.heap.get? b=some o->h2.get? b=some o:=fun b o hb q=>by
   simp only[lJn,lKz,or_false,not_or] at hb
   exact (hs2.2 b hb.1).trans (hk b o hb.1 hb.2 q)
  have hT2:h2.get? s.heap.objs.size=some {cls:= .type "tuple",data:= .seq #[.int i tk,u]}:=(hs2.2 _ (Nat.ne_of_gt hel)).trans hT
  have I2:=turnedTup (t':=tk+1) (h':=h2) (p:=s.heap.objs.size) (vs:=[.int i,x]) (us:=[.int i tk,u]) I hp2 hf (lJd _) ⟨_,hT2,rfl,_,rfl,rfl⟩ (.cons ⟨_,rfl⟩ (.cons ru .nil)) (by show 2<=sizeLine;decide)
  refine⟨.ref s.heap.objs.size,_,I2,rfl,⟨_,x,I.hok.fresh (lJd _),rfl,fun ys hy=>by rw[I.tuple_inj hy hq];exact hx,rfl⟩,⟨⟨u,by simpa using he2⟩,hit1.1.at fun o q=>(hs2.2 it hei.symm).trans q⟩,fun b hb=> ?_⟩
  have hbs:∃o,s.heap.get? b=some o:=by
   have hb':=hb
   simp only[lKz,lJn,or_false] at hb'
   rcases hb' with rfl | rfl
   ·exact⟨_,he⟩
   ·obtain⟨o,q,_⟩:=hit;exact⟨o,q⟩
  obtain⟨o,q⟩:=hbs
  rw[jKp (lJl (Heap.lt_size q))]
  exact (hf b hb).1
 done:=by
  rintro X hP hw hK hc i pins s σ H E I hf ⟨⟨old,he⟩,hit⟩ ⟨xs,hq,hx⟩
  subst hP hw hK
  obtain⟨its,rv,p,hz⟩:=I.tuple hq
  have p':s.heap.IsTuple a its.toArray:=p
  obtain⟨nei,hef⟩:=enum_off he hit p'
  have hl:=rv.length
  refine jXi (I.ok.hd hc) nei he ⟨hit,p'⟩ (by simp;omega) fun h1 hx1=>⟨rfl,turnedL (t':=s.toks) I (fun b o hb q=>hx1 b o (fun z=>hb (by simp[z])) q) hf⟩
 self:=fun _ _ _ _ _ ⟨⟨old,he⟩,_⟩ h=>wpAny_pyIter_enum he h
noncomputable def iEnT (ta:TA3):TI3:=fun τ G R=>ta τ G fun vs G1=>∃xs,vs=[.tup xs]/\R (numT xs) (fun _=>True) G1
theorem i_enT {X:Cx} {elts:List Expr} {k:Nat} {tpos pos p:Pos} {a:Expr} {ta:TA3} (hg:Gl X "enumerate") (hm:X.mg "enumerate"=none) (hv:bootBuiltins "enumerate"=some (.type "enumerate")) (ha:PA3 X [a] ta) (hs:starEach [a] X.env=[(false,eval a X.env)]:=by rfl):
  PI3 X (.Tuple elts k tpos) (.Call (.Name "enumerate" p) [a] [] pos) (iEnT ta):=by
 intro pins s τ G H R I h
 obtain⟨σ0,I0,_,_⟩:=id I
 refine Call_ (jVm I0 hg hm hv (PyProof.Rows.callWith_type1 (thn (ha pos pins s τ G H _ I h) fun us s1 w_=>w_.el fun xs' G1 H1 e1 i_ r_ q1=>i_.el fun σ I1 hs1 hg1=>r_.el fun as ras rvs=> ?_) hs rfl))
 obtain⟨xs,e,q⟩:=q1
 subst e
 obtain⟨v,rfl,rv⟩:=jXj ras
 obtain⟨u,rfl,ru⟩:=rvs.one
 obtain⟨pa,vs,rfl,hq,r⟩:=(show ∃p vs,v= .ref p/\H1 p=some (.tup vs)/\Reps X.K H1 xs vs from rv)
 cases ru
 obtain⟨its,rvv,pl,hz⟩:=I1.tuple (.of hq)
 refine enum_made (show s1.heap.IsTuple pa its.toArray from pl) fun h1 n hn he hit hk=> ?_
 subst hn
 have I2:Inv X pins σ H1 {s1 with heap:=h1}:=I1.kept (t':=s1.toks) hk
 refine wpAny_pyIter_enum (Q:=PIE3 X pins τ H (.Tuple elts k tpos) R) he ?_
 have fr:∀b∈[s1.heap.objs.size+1,s1.heap.objs.size],FpOk X pins H1 b:=fun b hb=>by
  simp only[lKz,lJn,or_false] at hb
  have hle:s1.heap.objs.size<=b:=by omega
  exact I1.fpOk hle (I1.hok.fresh hle)
 refine⟨s1.heap.objs.size+1,[s1.heap.objs.size+1,s1.heap.objs.size],_,_,numT xs,fun _=>True,G1,H1,rfl,e1,⟨σ,I2,hs1,hg1⟩,turn_enumT pa _ _ (Nat.succ_ne_self _),⟨⟨.none,he⟩,hit.1⟩,fr,?_,q⟩
 intro i H2 G2 e2 g2 _
 obtain⟨pb,ws,eb,h1',h2⟩:=(show ∃p vs,V.ref pa= .ref p/\H2 p=some (.tup vs)/\Reps X.K H2 xs vs from Rep.mono e2 _ rv)
 cases eb
 have hlen:=h2.length
 refine⟨fun hi=> ?_,fun hi=>⟨ws,.of h1',by rw[jJ9] at hi;omega⟩,fun hi y H' ⟨pp,z,hn,ey,hy,eH⟩=> ?_⟩
 ·rw[jJ9] at hi
  exact⟨ws,ws[i]'(by omega),.of h1',by simp[hlen▸hi]⟩
 ·subst ey;subst eH
  obtain⟨t,ht,rt⟩:=h2.get' (hy ws (.of h1'))
  exact⟨.upd (.none hn),g2.tupNew hn,_,jVc ht,Rep.tupNew ⟨_,_,rfl,rfl,_,_,rfl,rt,rfl⟩ hn⟩
section
variable {X:Cx}
noncomputable def tDisp1 (tk tv:TE3):TE3:=fun τ G Q=>∀p,G p=none->tk τ (gup G p (.dck [])) fun x G1=>tv τ G1 fun y G2=>∃k,kJz x=some k/\G2 p=some (.dck [])/\Q (.ref p) (gup G2 p (.dck [(k,y)]))
theorem e_disp1 {pos:Pos} {k v:Expr} {tk tv:TE3} (hk:PE3 X k tk) (hv:PE3 X v tv):PE3 X (.Dict [some k] [v] pos) (tDisp1 tk tv):=by
 rintro pins s τ G H Q ⟨σ,I,hs,hg⟩ h
 have hn:=I.hok.fresh (lJd s.heap.objs.size)
 have I1:=I.laid (a:=s.heap.objs.size) (o:= .dK []) (h':=s.heap.push {cls:= .type "dict",data:= .dict #[]}) (t':=s.toks) (fun _ _ q=>Heap.get?_push_of_some _ q) (lJd _) (dk_empty s.heap I.big)
 have I3:Inv3 X pins τ (gup G s.heap.objs.size (.dck [])) (upd H s.heap.objs.size (.dK [])) {s with heap:=s.heap.push {cls:= .type "dict",data:= .dict #[]},toks:=s.toks}:=
  ⟨σ,I1,hs.mono (.upd (.none hn)),hg.upd (.none hn) (go:= .dck []) ⟨[],jK7,.nil⟩⟩
 refine wpAny_Dict_walk (knd:=jKo X.prog X.w) rfl rfl (by simp) (by simp) (pairTrees_cons_walk (thn (hk pins _ τ _ _ _ I3 (h _ (hg.fresh hn))) fun u s1 w_=>w_.el fun x G1 H1 e1 J1 ru q1=>thn (hv pins s1 τ G1 H1 _ J1 q1) fun u2 s2 w_=>w_.el fun y G2 H2 e2 i_ ru2 ⟨key,hkey,hd,q2⟩=>i_.el fun σ2 J2 hs2 hg2=>pairTrees_nil_walk ?_))
 obtain⟨ws,hH2,pk⟩:=(show ∃ws,H2 s.heap.objs.size=some (.dK ws)/\PKV X.K H2 [] ws from hg2 _ _ hd)
 cases pk
 obtain⟨a,ra,rva⟩:=ru.mono e2
 obtain⟨c,rc,rvc⟩:=ru2
 obtain rfl:=jZn hkey ra
 obtain⟨rs,cr,rk⟩:=kUy (P:=X.prog) (w:=X.w) (kvs:=[(key,c)]) (ws:=[(u,u2)]) (.cons ⟨rva,rvc⟩ .nil)
 obtain⟨z,hdd,vs0,r0,dd⟩:=dk_of J2.hok hH2
 cases r0
 refine⟨rs,cr,dd,fun h' dd' hsb=> ?_⟩
 have he:∃q,h'.get? s.heap.objs.size=some q:=let ⟨q,_,_,hq,_⟩:=dd';⟨q,hq⟩
 have JJ:=kXv (t':=s2.toks+[(u,u2)].length) J2 (by rw[hH2];exact True.intro) hsb he (dk_new (kvs:=[(key,c)]) (by rw[sizeLine_eq];exact Nat.succ_le_of_lt (Nat.succ_pos _)) hdd (rk.merge .nil) dd')
 have ext:Ext H2 (upd H2 s.heap.objs.size (.dK [(key,c)])):= .upd (.dK hH2)
 exact⟨.ref s.heap.objs.size,_,_,(((Ext.upd (.none hn)).trans e1).trans e2).trans ext,⟨σ2,JJ,hs2.mono ext,hg2.upd (.dK hH2) (go:= .dck [(key,y)]) ⟨_,jK7,PKV.put (kvs:=[]) .nil key (Rep.mono ext _ rc)⟩⟩,⟨.ref _,rfl,rfl⟩,q2⟩
end
section
variable {X:Cx}
theorem kV_of {P:Program} {w:World} {k:Key} {u:Value} (h:(jKo P w).is k u=true):RelV (kV k) u:=by
 cases k with
 | inl i=>exact Value.isInt_shape h
 | inr x=>
  have h':Value.isStrOf x u=true:=h
  cases u<;>simp[Value.isStrOf] at h'
  subst h';exact⟨_,rfl⟩
theorem vals_keys:∀(us:List Value) (ks:List Key),us.length=ks.length->(∀(j:Nat) (v:Value) (k:Key),us[j]? =some v->ks[j]? =some k->RelV (kV k) v)->Vals (ks.map kV) us
 | [],[],_,_=> .nil
 | u::us,k::ks,hl,h=> .cons (h 0 u k rfl rfl) (vals_keys us ks (by simpa using hl) fun j v k' h1 h2=>h (j+1) v k' h1 h2)
 | [],_::_,e,_=>by simp at e
 | _::_,[],e,_=>by simp at e
theorem kKj {K:PySem.W.Frag} {H:Hp}:∀ks:List Key,Reps K H (ks.map kT) (ks.map kV)
 | []=>rfl
 | .inl i::ks=>⟨_,_,rfl,rfl,kKj ks⟩
 | .inr x::ks=>⟨_,_,rfl,rfl,kKj ks⟩
theorem KV.keys {kvs:List (Key×V)} {vs:List (Key×Value)} (h:KV kvs vs):vs.map Prod.fst=kvs.map Prod.fst:=by
 unfold KV at h
 induction h with
 | nil=>rfl
 | cons h t ih=>rw[lJm,lJm,ih,h.1]
theorem PKV.keys {K:PySem.W.Frag} {H:Hp} {kvs:List (Key×T)} {ws:List (Key×V)} (h:PKV K H kvs ws):ws.map Prod.fst=kvs.map Prod.fst:=by
 unfold PKV at h
 induction h with
 | nil=>rfl
 | cons h t ih=>rw[lJm,lJm,ih,h.1]
noncomputable def kUk:List T->Gp->VK3->Prop:=fun xs G Q=>∃(p:Addr) (kvs:List (Key×T)),xs=[.ref p]/\G p=some (.dck kvs)/\∀q,G q=none->Q (.ref q) (gup G q (.lst (kvs.map fun kv=>kT kv.1)))
theorem c_listD (hc:X.calm=true):Call3 X (.type "list") kUk:=by
 rintro pins s τ G H xs us Q ⟨σ,I,hs,hg⟩ ⟨as,ras,rvs⟩ ⟨p,kvs,e,hp,q⟩
 subst e
 obtain⟨v,rfl,rv⟩:=jXj ras
 obtain⟨u,rfl,ru⟩:=rvs.one
 cases (show v= .ref p from rv);cases ru
 obtain⟨ws,h1,h2⟩:=(show ∃ws,H p=some (.dK ws)/\PKV X.K H kvs ws from hg p _ hp)
 obtain⟨z,hd,vs,kv,dd⟩:=dk_of I.hok h1
 obtain⟨ep,dat⟩:=dd.dictAt
 have hk:=KV.keys kv
 have hk2:ws.map Prod.fst=kvs.map Prod.fst:=PKV.keys h2
 have hlen:vs.length=ws.length:=by simpa using congrArg List.length hk
 refine PySem.W.kdl_call (PySem.W.kdl_dict (knd:=jKo X.prog X.w) (kvs:=vs) (ep:=ep) hd) (I.ok.hd hc) dat (by omega) fun h' tk acc c' kp hn it=> ?_
 have hv:Vals ((kvs.map Prod.fst).map kV) acc.toList:=vals_keys _ _ (by rw[<-hk2,<-hk];simpa using it.1) fun j v k h1 h2=>by
  obtain⟨k',x,e1,e2⟩:=it.2 j v (by simpa using h1)
  rw[<-hk2,<-hk,lJj,e1] at h2
  cases h2
  exact kV_of e2
 have fr:=I.hok.fresh (lJd s.heap.objs.size)
 have hkl:(kvs.map Prod.fst).length=ws.length:=by rw[<-hk2];simp
 have I3:=I.laid (a:=s.heap.objs.size) (o:= .lst ((kvs.map Prod.fst).map kV)) (h':=h') (t':=tk) kp (lJd _) ⟨by rw[lJb,hkl];exact z,acc.toList,c',hv,by simpa using hn⟩
 have ext:Ext H (upd H s.heap.objs.size (.lst ((kvs.map Prod.fst).map kV))):= .upd (.none fr)
 refine⟨.ref _,_,_,ext,⟨σ,I3,hs.mono ext,hg.lstNew (kKj _) (.none fr)⟩,⟨.ref _,rfl,rfl⟩,?_⟩
 have:=q _ (hg.fresh fr)
 rw[lJr]
 exact this
end
end L3
namespace L3
open PySem PySem.Spec PyProof.Rows L2 MeetsSeq
section
variable {X:Cx}
end
end L3
namespace L3
open PySem PySem.Spec PyProof.Rows L2
section
variable {X:Cx}
end
section
variable {X:Cx}
end
section
variable {P:Program} {w:World} {A:Around} {E:Value->Shared->Prop} {s:Shared} {d:Addr}
end
section
variable {X:Cx}
noncomputable def lenG (G:Gp):T->Option Nat
 | .ref p=>match G p with
  | some (.lst xs)=>some xs.length
  | some (.dct kvs)=>some kvs.length
  | some (.dck kvs)=>some kvs.length
  | some (.fdc _)=>none
  | some (.ins _ _)=>none
  | none=>none
 | .tup xs=>some xs.length
 | .scr xs=>some xs.length
 | _=>none
end
noncomputable def Itl (K:PySem.W.Frag) (a1 a2:Addr):It:=
 ⟨fun i H=>∃xs ys x y,SqL K H a1 xs/\SqL K H a2 ys/\xs[i]? =some x/\ys[i]? =some y,
  fun i H v H'=>∃p x y,H p=none/\v= .ref p/\(∀xs,SqL K H a1 xs->xs[i]? =some x)/\(∀ys,SqL K H a2 ys->ys[i]? =some y)/\H'=upd H p (.tup [x,y]),
  fun i H=>∃xs ys,SqL K H a1 xs/\SqL K H a2 ys/\(xs.length<=i\/ys.length<=i)⟩
section
variable {X:Cx}
theorem jVj:∀ {is:List Int} {us:List Value},Vals (is.map V.int) us->∃ps:List (Int×Tok),us=ps.map (fun p=> .int p.1 p.2)/\ps.map (·.1)=is
 | [],_,.nil=>⟨[],rfl,rfl⟩
 | i::is,_,.cons ⟨t,e⟩ r=>by
  obtain⟨ps,e1,e2⟩:=jVj r
  subst e1;subst e2;subst e
  exact⟨(i,t)::ps,rfl,rfl⟩
end
section
variable {X:Cx}
noncomputable def tDisp1T (tk tv:TE3):TE3:=fun τ G Q=>∀p,G p=none->tk τ (gup G p (.dct [])) fun x G1=>tv τ G1 fun y G2=>∃ys ks,x= .tup ys/\jX9 ys=some ks/\G2 p=some (.dct [])/\Q (.ref p) (gup G2 p (.dct [(ks,y)]))
theorem e_disp1T (hu:X.A.units+20<cLine) {pos:Pos} {k v:Expr} {tk tv:TE3} (hk:PE3 X k tk) (hv:PE3 X v tv):PE3 X (.Dict [some k] [v] pos) (tDisp1T tk tv):=by
 rintro pins s τ G H Q ⟨σ,I,hs,hg⟩ h
 have hn:=I.hok.fresh (lJd s.heap.objs.size)
 have I1:=I.laid (a:=s.heap.objs.size) (o:= .dT []) (h':=s.heap.push {cls:= .type "dict",data:= .dict #[]}) (t':=s.toks) (fun _ _ q=>Heap.get?_push_of_some _ q) (lJd _) (dt_empty s.heap I.big)
 have I3:Inv3 X pins τ (gup G s.heap.objs.size (.dct [])) (upd H s.heap.objs.size (.dT [])) {s with heap:=s.heap.push {cls:= .type "dict",data:= .dict #[]},toks:=s.toks}:=
  ⟨σ,I1,hs.mono (.upd (.none hn)),hg.upd (.none hn) (go:= .dct []) ⟨[],jK7,.nil⟩⟩
 refine wpAny_Dict_any rfl rfl (by simp) (by simp) (pairTrees_cons_walk (thn (hk pins _ τ _ _ _ I3 (h _ (hg.fresh hn))) fun u s1 w_=>w_.el fun x G1 H1 e1 J1 ru q1=>thn (hv pins s1 τ G1 H1 _ J1 q1) fun u2 s2 w_=>w_.el fun y G2 H2 e2 i_ ru2 ⟨ys,ks,ex,hkey,hd,q2⟩=>i_.el fun σ2 J2 hs2 hg2=>pairTrees_nil_walk ?_))
 subst ex
 obtain⟨ws,hH2,pk⟩:=(show ∃ws,H2 s.heap.objs.size=some (.dT ws)/\PKV X.K H2 [] ws from hg2 _ _ hd)
 cases pk
 obtain⟨a,ra,rva⟩:=ru.mono e2
 obtain⟨c,rc,rvc⟩:=ru2
 obtain⟨q',vs,e,h3,h4⟩:=(show ∃q vs,a= .ref q/\H2 q=some (.tup vs)/\Reps X.K H2 ys vs from ra)
 subst e
 cases (show u=Value.ref q' from rva)
 have eb:=jYn hkey h3 h4
 obtain⟨z,hdd,xs,rel,dd⟩:=dt_of J2.hok hH2
 have hl:xs.length<=sizeLine:=by rw[<-Paired.length rel];exact z
 unfold storeAll
 rw[List.forIn_cons]
 refine wpAny_bind (wpAny_bind (wpAny_dictSet_heap (hsz:=hl) (knd:=jVp X.prog X.w) (show X.A.units+6<cLine by omega) (key_of J2.hok eb) dd fun h' dd' hsb=>wpAny_pure ?_))
 dsimp only
 rw[List.forIn_nil]
 obtain⟨qo,es,ep,hq,k2,k3,k4,_,k5⟩:=dd'
 have JJ:=kXv (t':=s2.toks+(jVp X.prog X.w).draws ks) J2 (by rw[hH2];exact True.intro) hsb ⟨qo,hq⟩ (ob:= .dT (putK [] ks c)) ⟨by rw[sizeLine_eq];exact Nat.succ_le_of_lt (Nat.succ_pos _),hdd,_,(rel.put ks eb rvc).keeps (fun b' ys' ec=>by rw[jKp (ne_of ec hH2 (fun z=>nomatch z))];exact ec),qo,es,ep,hq,k2,k3,k4,k5⟩
 have ext:Ext H2 (upd H2 s.heap.objs.size (.dT (putK [] ks c))):= .upd (.dT hH2)
 exact wpAny_pure ⟨.ref s.heap.objs.size,_,_,(((Ext.upd (.none hn)).trans e1).trans e2).trans ext,⟨σ2,JJ,hs2.mono ext,hg2.upd (.dT hH2) (go:= .dct [(ks,y)]) ⟨_,jK7,PKV.put (kvs:=[]) .nil ks (Rep.mono ext _ rc)⟩⟩,⟨.ref _,rfl,rfl⟩,q2⟩
end
section
variable {X:Cx} {pos:Pos}
end
theorem szle {n:Nat} (h:Nat.ble n 16777216=true):n<=sizeLine:=by rw[PySem.sizeLine_eq];exact Nat.le_of_ble_eq_true h
end L3
namespace L3
theorem xe1 {A0:Type} {σ:Type} {f:A0->σ} {p:A0->Prop} {τ:σ} {C:σ->Prop} (h:∃a0,τ=f a0/\p a0) (k:∀a0,p a0->C (f a0)):C τ:=by
 obtain⟨a0,e,h⟩:=h;rw[e];exact k _ h
theorem xe2 {A0 A1:Type} {σ:Type} {f:A0->A1->σ} {p:A0->A1->Prop} {τ:σ} {C:σ->Prop} (h:∃a0 a1,τ=f a0 a1/\p a0 a1) (k:∀a0 a1,p a0 a1->C (f a0 a1)):C τ:=by
 obtain⟨a0,a1,e,h⟩:=h;rw[e];exact k _ _ h
theorem xe3 {A0 A1 A2:Type} {σ:Type} {f:A0->A1->A2->σ} {p:A0->A1->A2->Prop} {τ:σ} {C:σ->Prop} (h:∃a0 a1 a2,τ=f a0 a1 a2/\p a0 a1 a2) (k:∀a0 a1 a2,p a0 a1 a2->C (f a0 a1 a2)):C τ:=by
 obtain⟨a0,a1,a2,e,h⟩:=h;rw[e];exact k _ _ _ h
theorem xe4 {A0 A1 A2 A3:Type} {σ:Type} {f:A0->A1->A2->A3->σ} {p:A0->A1->A2->A3->Prop} {τ:σ} {C:σ->Prop} (h:∃a0 a1 a2 a3,τ=f a0 a1 a2 a3/\p a0 a1 a2 a3) (k:∀a0 a1 a2 a3,p a0 a1 a2 a3->C (f a0 a1 a2 a3)):C τ:=by
 obtain⟨a0,a1,a2,a3,e,h⟩:=h;rw[e];exact k _ _ _ _ h
theorem xi4 {A0 A1 A2 A3:Type} {σ:Type} {f:A0->A1->A2->A3->σ} {p:A0->A1->A2->A3->Prop} {τ:σ} (a0:A0) (a1:A1) (a2:A2) (a3:A3) (e:τ=f a0 a1 a2 a3) (h:p a0 a1 a2 a3):∃a0 a1 a2 a3,τ=f a0 a1 a2 a3/\p a0 a1 a2 a3:=⟨a0,a1,a2,a3,e,h⟩
theorem xe5 {A0 A1 A2 A3 A4:Type} {σ:Type} {f:A0->A1->A2->A3->A4->σ} {p:A0->A1->A2->A3->A4->Prop} {τ:σ} {C:σ->Prop} (h:∃a0 a1 a2 a3 a4,τ=f a0 a1 a2 a3 a4/\p a0 a1 a2 a3 a4) (k:∀a0 a1 a2 a3 a4,p a0 a1 a2 a3 a4->C (f a0 a1 a2 a3 a4)):C τ:=by
 obtain⟨a0,a1,a2,a3,a4,e,h⟩:=h;rw[e];exact k _ _ _ _ _ h
theorem xi5 {A0 A1 A2 A3 A4:Type} {σ:Type} {f:A0->A1->A2->A3->A4->σ} {p:A0->A1->A2->A3->A4->Prop} {τ:σ} (a0:A0) (a1:A1) (a2:A2) (a3:A3) (a4:A4) (e:τ=f a0 a1 a2 a3 a4) (h:p a0 a1 a2 a3 a4):∃a0 a1 a2 a3 a4,τ=f a0 a1 a2 a3 a4/\p a0 a1 a2 a3 a4:=⟨a0,a1,a2,a3,a4,e,h⟩
theorem xe6 {A0 A1 A2 A3 A4 A5:Type} {σ:Type} {f:A0->A1->A2->A3->A4->A5->σ} {p:A0->A1->A2->A3->A4->A5->Prop} {τ:σ} {C:σ->Prop} (h:∃a0 a1 a2 a3 a4 a5,τ=f a0 a1 a2 a3 a4 a5/\p a0 a1 a2 a3 a4 a5) (k:∀a0 a1 a2 a3 a4 a5,p a0 a1 a2 a3 a4 a5->C (f a0 a1 a2 a3 a4 a5)):C τ:=by
 obtain⟨a0,a1,a2,a3,a4,a5,e,h⟩:=h;rw[e];exact k _ _ _ _ _ _ h
theorem xi6 {A0 A1 A2 A3 A4 A5:Type} {σ:Type} {f:A0->A1->A2->A3->A4->A5->σ} {p:A0->A1->A2->A3->A4->A5->Prop} {τ:σ} (a0:A0) (a1:A1) (a2:A2) (a3:A3) (a4:A4) (a5:A5) (e:τ=f a0 a1 a2 a3 a4 a5) (h:p a0 a1 a2 a3 a4 a5):∃a0 a1 a2 a3 a4 a5,τ=f a0 a1 a2 a3 a4 a5/\p a0 a1 a2 a3 a4 a5:=⟨a0,a1,a2,a3,a4,a5,e,h⟩
theorem xe7 {A0 A1 A2 A3 A4 A5 A6:Type} {σ:Type} {f:A0->A1->A2->A3->A4->A5->A6->σ} {p:A0->A1->A2->A3->A4->A5->A6->Prop} {τ:σ} {C:σ->Prop} (h:∃a0 a1 a2 a3 a4 a5 a6,τ=f a0 a1 a2 a3 a4 a5 a6/\p a0 a1 a2 a3 a4 a5 a6) (k:∀a0 a1 a2 a3 a4 a5 a6,p a0 a1 a2 a3 a4 a5 a6->C (f a0 a1 a2 a3 a4 a5 a6)):C τ:=by
 obtain⟨a0,a1,a2,a3,a4,a5,a6,e,h⟩:=h;rw[e];exact k _ _ _ _ _ _ _ h
theorem xi7 {A0 A1 A2 A3 A4 A5 A6:Type} {σ:Type} {f:A0->A1->A2->A3->A4->A5->A6->σ} {p:A0->A1->A2->A3->A4->A5->A6->Prop} {τ:σ} (a0:A0) (a1:A1) (a2:A2) (a3:A3) (a4:A4) (a5:A5) (a6:A6) (e:τ=f a0 a1 a2 a3 a4 a5 a6) (h:p a0 a1 a2 a3 a4 a5 a6):∃a0 a1 a2 a3 a4 a5 a6,τ=f a0 a1 a2 a3 a4 a5 a6/\p a0 a1 a2 a3 a4 a5 a6:=⟨a0,a1,a2,a3,a4,a5,a6,e,h⟩
theorem xe8 {A0 A1 A2 A3 A4 A5 A6 A7:Type} {σ:Type} {f:A0->A1->A2->A3->A4->A5->A6->A7->σ} {p:A0->A1->A2->A3->A4->A5->A6->A7->Prop} {τ:σ} {C:σ->Prop} (h:∃a0 a1 a2 a3 a4 a5 a6 a7,τ=f a0 a1 a2 a3 a4 a5 a6 a7/\p a0 a1 a2 a3 a4 a5 a6 a7) (k:∀a0 a1 a2 a3 a4 a5 a6 a7,p a0 a1 a2 a3 a4 a5 a6 a7->C (f a0 a1 a2 a3 a4 a5 a6 a7)):C τ:=by
 obtain⟨a0,a1,a2,a3,a4,a5,a6,a7,e,h⟩:=h;rw[e];exact k _ _ _ _ _ _ _ _ h
theorem xe9 {A0 A1 A2 A3 A4 A5 A6 A7 A8:Type} {σ:Type} {f:A0->A1->A2->A3->A4->A5->A6->A7->A8->σ} {p:A0->A1->A2->A3->A4->A5->A6->A7->A8->Prop} {τ:σ} {C:σ->Prop} (h:∃a0 a1 a2 a3 a4 a5 a6 a7 a8,τ=f a0 a1 a2 a3 a4 a5 a6 a7 a8/\p a0 a1 a2 a3 a4 a5 a6 a7 a8) (k:∀a0 a1 a2 a3 a4 a5 a6 a7 a8,p a0 a1 a2 a3 a4 a5 a6 a7 a8->C (f a0 a1 a2 a3 a4 a5 a6 a7 a8)):C τ:=by
 obtain⟨a0,a1,a2,a3,a4,a5,a6,a7,a8,e,h⟩:=h;rw[e];exact k _ _ _ _ _ _ _ _ _ h
theorem xi9 {A0 A1 A2 A3 A4 A5 A6 A7 A8:Type} {σ:Type} {f:A0->A1->A2->A3->A4->A5->A6->A7->A8->σ} {p:A0->A1->A2->A3->A4->A5->A6->A7->A8->Prop} {τ:σ} (a0:A0) (a1:A1) (a2:A2) (a3:A3) (a4:A4) (a5:A5) (a6:A6) (a7:A7) (a8:A8) (e:τ=f a0 a1 a2 a3 a4 a5 a6 a7 a8) (h:p a0 a1 a2 a3 a4 a5 a6 a7 a8):∃a0 a1 a2 a3 a4 a5 a6 a7 a8,τ=f a0 a1 a2 a3 a4 a5 a6 a7 a8/\p a0 a1 a2 a3 a4 a5 a6 a7 a8:=⟨a0,a1,a2,a3,a4,a5,a6,a7,a8,e,h⟩
theorem xe10 {A0 A1 A2 A3 A4 A5 A6 A7 A8 A9:Type} {σ:Type} {f:A0->A1->A2->A3->A4->A5->A6->A7->A8->A9->σ} {p:A0->A1->A2->A3->A4->A5->A6->A7->A8->A9->Prop} {τ:σ} {C:σ->Prop} (h:∃a0 a1 a2 a3 a4 a5 a6 a7 a8 a9,τ=f a0 a1 a2 a3 a4 a5 a6 a7 a8 a9/\p a0 a1 a2 a3 a4 a5 a6 a7 a8 a9) (k:∀a0 a1 a2 a3 a4 a5 a6 a7 a8 a9,p a0 a1 a2 a3 a4 a5 a6 a7 a8 a9->C (f a0 a1 a2 a3 a4 a5 a6 a7 a8 a9)):C τ:=by
 obtain⟨a0,a1,a2,a3,a4,a5,a6,a7,a8,a9,e,h⟩:=h;rw[e];exact k _ _ _ _ _ _ _ _ _ _ h
theorem xi10 {A0 A1 A2 A3 A4 A5 A6 A7 A8 A9:Type} {σ:Type} {f:A0->A1->A2->A3->A4->A5->A6->A7->A8->A9->σ} {p:A0->A1->A2->A3->A4->A5->A6->A7->A8->A9->Prop} {τ:σ} (a0:A0) (a1:A1) (a2:A2) (a3:A3) (a4:A4) (a5:A5) (a6:A6) (a7:A7) (a8:A8) (a9:A9) (e:τ=f a0 a1 a2 a3 a4 a5 a6 a7 a8 a9) (h:p a0 a1 a2 a3 a4 a5 a6 a7 a8 a9):∃a0 a1 a2 a3 a4 a5 a6 a7 a8 a9,τ=f a0 a1 a2 a3 a4 a5 a6 a7 a8 a9/\p a0 a1 a2 a3 a4 a5 a6 a7 a8 a9:=⟨a0,a1,a2,a3,a4,a5,a6,a7,a8,a9,e,h⟩
theorem ae2 {a0 a1 C:Prop} (h:a0/\a1) (k:a0->a1->C):C:=k h.1 h.2
theorem ae3 {a0 a1 a2 C:Prop} (h:a0/\a1/\a2) (k:a0->a1->a2->C):C:=k h.1 h.2.1 h.2.2
theorem ae4 {a0 a1 a2 a3 C:Prop} (h:a0/\a1/\a2/\a3) (k:a0->a1->a2->a3->C):C:=k h.1 h.2.1 h.2.2.1 h.2.2.2
theorem ae5 {a0 a1 a2 a3 a4 C:Prop} (h:a0/\a1/\a2/\a3/\a4) (k:a0->a1->a2->a3->a4->C):C:=k h.1 h.2.1 h.2.2.1 h.2.2.2.1 h.2.2.2.2
theorem ae6 {a0 a1 a2 a3 a4 a5 C:Prop} (h:a0/\a1/\a2/\a3/\a4/\a5) (k:a0->a1->a2->a3->a4->a5->C):C:=k h.1 h.2.1 h.2.2.1 h.2.2.2.1 h.2.2.2.2.1 h.2.2.2.2.2
theorem ae7 {a0 a1 a2 a3 a4 a5 a6 C:Prop} (h:a0/\a1/\a2/\a3/\a4/\a5/\a6) (k:a0->a1->a2->a3->a4->a5->a6->C):C:=k h.1 h.2.1 h.2.2.1 h.2.2.2.1 h.2.2.2.2.1 h.2.2.2.2.2.1 h.2.2.2.2.2.2
theorem ae8 {a0 a1 a2 a3 a4 a5 a6 a7 C:Prop} (h:a0/\a1/\a2/\a3/\a4/\a5/\a6/\a7) (k:a0->a1->a2->a3->a4->a5->a6->a7->C):C:=k h.1 h.2.1 h.2.2.1 h.2.2.2.1 h.2.2.2.2.1 h.2.2.2.2.2.1 h.2.2.2.2.2.2.1 h.2.2.2.2.2.2.2
theorem ae9 {a0 a1 a2 a3 a4 a5 a6 a7 a8 C:Prop} (h:a0/\a1/\a2/\a3/\a4/\a5/\a6/\a7/\a8) (k:a0->a1->a2->a3->a4->a5->a6->a7->a8->C):C:=k h.1 h.2.1 h.2.2.1 h.2.2.2.1 h.2.2.2.2.1 h.2.2.2.2.2.1 h.2.2.2.2.2.2.1 h.2.2.2.2.2.2.2.1 h.2.2.2.2.2.2.2.2
theorem ae10 {a0 a1 a2 a3 a4 a5 a6 a7 a8 a9 C:Prop} (h:a0/\a1/\a2/\a3/\a4/\a5/\a6/\a7/\a8/\a9) (k:a0->a1->a2->a3->a4->a5->a6->a7->a8->a9->C):C:=k h.1 h.2.1 h.2.2.1 h.2.2.2.1 h.2.2.2.2.1 h.2.2.2.2.2.1 h.2.2.2.2.2.2.1 h.2.2.2.2.2.2.2.1 h.2.2.2.2.2.2.2.2.1 h.2.2.2.2.2.2.2.2.2
theorem ae11 {a0 a1 a2 a3 a4 a5 a6 a7 a8 a9 a10 C:Prop} (h:a0/\a1/\a2/\a3/\a4/\a5/\a6/\a7/\a8/\a9/\a10) (k:a0->a1->a2->a3->a4->a5->a6->a7->a8->a9->a10->C):C:=k h.1 h.2.1 h.2.2.1 h.2.2.2.1 h.2.2.2.2.1 h.2.2.2.2.2.1 h.2.2.2.2.2.2.1 h.2.2.2.2.2.2.2.1 h.2.2.2.2.2.2.2.2.1 h.2.2.2.2.2.2.2.2.2.1 h.2.2.2.2.2.2.2.2.2.2
theorem ae13 {a0 a1 a2 a3 a4 a5 a6 a7 a8 a9 a10 a11 a12 C:Prop} (h:a0/\a1/\a2/\a3/\a4/\a5/\a6/\a7/\a8/\a9/\a10/\a11/\a12) (k:a0->a1->a2->a3->a4->a5->a6->a7->a8->a9->a10->a11->a12->C):C:=k h.1 h.2.1 h.2.2.1 h.2.2.2.1 h.2.2.2.2.1 h.2.2.2.2.2.1 h.2.2.2.2.2.2.1 h.2.2.2.2.2.2.2.1 h.2.2.2.2.2.2.2.2.1 h.2.2.2.2.2.2.2.2.2.1 h.2.2.2.2.2.2.2.2.2.2.1 h.2.2.2.2.2.2.2.2.2.2.2.1 h.2.2.2.2.2.2.2.2.2.2.2.2
end L3
namespace L3
open PySem PySem.Spec PyProof.Rows L2
section
variable {X:Cx}
noncomputable def jY7:TS3:=fun _ _ _=>False
theorem kVi {e c:Option Expr} {pos:Pos}:PS3 X (.Raise e c pos) jY7:=fun _ _ _ _ _ _ _ h=>h.elim
end
section
variable {X:Cx}
end
section
variable {X:Cx}
end
section
variable {P:Program} {w:World} {A:Around} {E:Value->Shared->Prop} {s:Shared} {d it:Addr} {o:Obj} {es:Array DictEntry} {ep i:Nat}
end
section
variable {X:Cx}
end
def CN (K:PySem.W.Frag) (cn:Str) (C:Addr):Prop:=PySem.W.nsIn K mainGlobals cn=some (some (.ref C))
theorem CN.one {K:PySem.W.Frag} {cn:Str} {C D:Addr} (h:CN K cn C) (h':CN K cn D):C=D:=by
 unfold CN at h h';rw[h] at h';cases h';rfl
structure ObF (K:PySem.W.Frag) (cn f:Str):Prop where
 ex:∃C,CN K cn C/\Cls K C/\NoAttr K C f
noncomputable def jX0 (f:Str) (t:T):List (Str×T)->List (Str×T)
 | []=>[(f,t)]
 | (g,x)::r=>if g=f then (g,t)::r else (g,x)::jX0 f t r
noncomputable def fldT (f:Str):List (Str×T)->Option T
 | []=>none
 | (g,x)::r=>if g=f then some x else fldT f r
theorem pkv_fld {K:PySem.W.Frag} {H:Hp} {fs:List (Str×T)} {ws:List (Str×V)} (h:PKV K H fs ws) (f:Str):
  (fldT f fs=none->ws.lookup f=none)/\∀t,fldT f fs=some t->∃v,ws.lookup f=some v/\Rep K H t v:=by
 unfold PKV at h
 induction h with
 | nil=>exact⟨fun _=>rfl,fun t e=>by cases e⟩
 | @cons a b l m r _ ih=>
  obtain⟨g,x⟩:=a;obtain⟨g',v⟩:=b;obtain⟨e,rv⟩:=r;cases e
  by_cases q:g=f
  ·subst q
   refine⟨fun e=> ?_,fun t e=> ?_⟩
   ·simp[fldT] at e
   ·simp only[fldT,if_true] at e;cases e;exact⟨v,by simp[List.lookup],rv⟩
  ·have e2:List.lookup f ((g,v)::m)=List.lookup f m:=by
    have:(f == g)=false:=by simp;exact fun z=>q z.symm
    simp only[List.lookup,this]
   rw[e2];simp only[fldT,q,if_false];exact ih
theorem pkv_put {K:PySem.W.Frag} {H:Hp} {fs:List (Str×T)} {ws:List (Str×V)} (h:PKV K H fs ws) (f:Str) {t:T} {v:V} (r:Rep K H t v):PKV K H (jX0 f t fs) (putF f v ws):=by
 unfold PKV at h ⊢
 induction h with
 | nil=>exact .cons ⟨rfl,r⟩ .nil
 | @cons a b l m r0 ht ih=>
  obtain⟨g,x⟩:=a;obtain⟨g',u⟩:=b;obtain⟨e,rv⟩:=r0;cases e
  by_cases q:g=f
  ·simp only[jX0,putF,q,if_true];exact .cons ⟨rfl,r⟩ ht
  ·simp only[jX0,putF,q,if_false];exact .cons ⟨rfl,rv⟩ ih
noncomputable def fldR (cn f:Str) (G:Gp):T->Option T
 | .ref a=>match G a with
  | some (.ins c fs)=>if c=cn then fldT f fs else none
  | _=>none
 | _=>none
noncomputable def kKf (cn f:Str) (G:Gp) (x y:T):Option Gp:=match x with
 | .ref a=>match G a with
  | some (.ins c fs)=>if c=cn/\fs.length<1000 then some (gup G a (.ins c (jX0 f y fs))) else none
  | _=>none
 | _=>none
noncomputable def obR (cn m:Str) (G:Gp):T->Bool
 | .ref a=>match G a with
  | some (.ins c fs)=>decide (c=cn)&&(fldT m fs).isNone
  | _=>false
 | _=>false
theorem fldR_cases {cn f:Str} {G:Gp} {x t:T} (h:fldR cn f G x=some t):∃a fs,x= .ref a/\G a=some (.ins cn fs)/\fldT f fs=some t:=by
 unfold fldR at h
 split at h
 ·rename_i a
  split at h
  ·rename_i c fs hG
   split at h
   ·rename_i e;subst e;exact⟨a,fs,rfl,hG,h⟩
   ·cases h
  ·cases h
 ·cases h
theorem setFR_cases {cn f:Str} {G G':Gp} {x t:T} (h:kKf cn f G x t=some G'):∃a fs,x= .ref a/\G a=some (.ins cn fs)/\fs.length<1000/\G'=gup G a (.ins cn (jX0 f t fs)):=by
 unfold kKf at h
 split at h
 ·rename_i a
  split at h
  ·rename_i c fs hG
   split at h
   ·rename_i e;obtain⟨e,l⟩:=e;subst e;cases h;exact⟨a,fs,rfl,hG,l,rfl⟩
   ·cases h
  ·cases h
 ·cases h
theorem obR_cases {cn m:Str} {G:Gp} {x:T} (h:obR cn m G x=true):∃a fs,x= .ref a/\G a=some (.ins cn fs)/\fldT m fs=none:=by
 unfold obR at h
 split at h
 ·rename_i a
  split at h
  ·rename_i c fs hG
   rw[lJ8,decide_eq_true_iff] at h
   obtain⟨e,l⟩:=h;subst e;exact⟨a,fs,rfl,hG,by simpa using l⟩
  ·cases h
 ·cases h
noncomputable def tFld (cn f:Str) (ta:TE3):TE3:=fun τ G Q=>ta τ G fun x G1=>∃t,fldR cn f G1 x=some t/\Q t G1
noncomputable def jYt (cn f:Str) (ta tv:TE3):TS3:=fun D τ G=>tv τ G fun y G1=>ta τ G1 fun x G2=>∃G3,kKf cn f G2 x y=some G3/\D.nx τ G3
noncomputable def jUb (cn m:Str) (sp:Sp3) (ta:TE3) (t:TA3):TE3:=fun τ G Q=>ta τ G fun x G1=>obR cn m G1 x=true/\t τ G1 fun xs G2=>sp (x::xs) G2 Q
noncomputable def kVd (cn:Str) (sp:Sp3) (t:TA3):TE3:=fun τ G Q=>t τ G fun xs G1=>∀x,G1 x=none->sp (.ref x::xs) (gup G1 x (.ins cn [])) fun v G2=>v= .non/\Q (.ref x) G2
section
variable {X:Cx} {cn f m:Str} {pos pos' apos p:Pos} {e o value:Expr} {es:List Expr} {ta tv:TE3} {t:TA3} {k:Nat} {ps:List Str} {sp:Sp3}
theorem jXc (c:ObF X.K cn f) (he:PE3 X e ta) (hb:attributeBase e f X.env (eval e X.env)=eval e X.env:=by rfl):PE3 X (.Attribute e f pos) (tFld cn f ta):=by
 intro pins s τ G H Q I h
 obtain⟨C,hC,hc,hn⟩:=c.ex
 refine attr_of hb (thn (he pins s τ G H _ I h) fun u s1 w_=>w_.el fun x G1 H1 e1 i_ r_ q=>i_.el fun σ I1 hs1 hg1=>r_.el fun v rv ru=> ?_)
 obtain⟨t,ht,q⟩:=q
 obtain⟨a,fs,rfl,hG,hf⟩:=fldR_cases ht
 cases (show v= .ref a from rv)
 obtain rfl:u=Value.ref a:=ru
 obtain⟨C',dx,ws,hH,hC',pk⟩:=(show ∃C dx ws,H1 a=some (.ins C dx ws)/\CN X.K cn C/\PKV X.K H1 fs ws from hg1 a _ hG)
 cases hC.one hC'
 obtain⟨v',hl,rv'⟩:=(pkv_fld pk f).2 t hf
 exact getattr_ok I1 hH hc hn hl fun u' s2 I2 ru'=>⟨t,G1,H1,e1,⟨σ,I2,hs1,hg1⟩,⟨v',rv',ru'⟩,q⟩
theorem kKh (c:ObF X.K cn f) (ha:PE3 X o ta) (hv:PE3 X value tv) (hs:swapsWith value (some (.Attribute o f pos')) pos.line X.env=pure false:=by rfl):PS3 X (.Assign [.Attribute o f pos'] value pos) (jYt cn f ta tv):=by
 intro pins s τ G H D I h
 obtain⟨C,hC,hc,hn⟩:=c.ex
 refine plainObj_wpAny_Assign_Attribute (thn (hv pins s τ G H _ I h) fun u s1 w_=>w_.el fun y G1 H1 e1 I1 ry q1=>thn (ha pins s1 τ G1 H1 _ I1 q1) fun ov s2 w_=>w_.el fun x G2 H2 e2 i_ r_ q=>i_.el fun σ I2 hs2 hg2=>r_.el fun v rv ru=> ?_) hs
 obtain⟨G3,ht,q⟩:=q
 obtain⟨a,fs,rfl,hG,hl,rfl⟩:=setFR_cases ht
 cases (show v= .ref a from rv)
 obtain rfl:ov=Value.ref a:=ru
 obtain⟨C',dx,ws,hH,hC',pk⟩:=(show ∃C dx ws,H2 a=some (.ins C dx ws)/\CN X.K cn C/\PKV X.K H2 fs ws from hg2 a _ hG)
 cases hC.one hC'
 obtain⟨vy,rvy,ruy⟩:=ry.mono e2
 refine setattr_ok I2 hH hc hn (by rw[<-show fs.length=ws.length from Paired.length pk];exact hl) ruy fun s3 I3=> ?_
 have ext:Ext H2 (upd H2 a (.ins C dx (putF f vy ws))):= .upd (.ins hH)
 exact⟨τ,_,_,(e1.trans e2).trans ext,⟨σ,I3,hs2.mono ext,hg2.upd (.ins hH) (go:= .ins cn (jX0 f y fs)) ⟨C,dx,_,jK7,hC,(pkv_put pk f rvy).mono ext⟩⟩,q⟩
structure CalM (P:Program) (w:World) (K:PySem.W.Frag) (mg:Str->Option Value) (base:Heap) (k:Nat) (cn m:Str) (ps:List Str) (sp:Sp3):Prop where
 ex:∃C f fd,CN K cn C/\Cls K C/\Meth K C m f/\Fn3 P w K mg base k f fd ps sp/\Binds K fd ps []
 mono:Mono sp
 len:∀xs G Q,sp xs G Q->xs.length=ps.length
structure CalC (P:Program) (w:World) (K:PySem.W.Frag) (mg:Str->Option Value) (base:Heap) (k:Nat) (cn:Str) (ps:List Str) (sp:Sp3):Prop where
 ex:∃C f fd,CN K cn C/\mg cn=some (.ref C)/\Mk K C f/\Fn3 P w K mg base k f fd ps sp/\Binds K fd ps []
 mono:Mono sp
 len:∀xs G Q,sp xs G Q->xs.length=ps.length
theorem e_meth {pl:Sem Bool} (M:CalM X.prog X.w X.K X.mg X.base k cn m ps sp) (hr:Room k X.A) (he:PE3 X o ta) (ha:PA3 X (e::es) t)
  (hst:starEach (e::es) X.env=(false,eval e X.env)::starEach es X.env:=by rfl) (hpl:(backTo pos (starEach es X.env)).any (·.1)=false:=by rfl)
  (ht:eval (.Call (.Attribute o m apos) (e::es) [] pos) X.env=(do
   let ov <-eval o X.env
   standAt apos.atName
   let (f,first) <-holding [ov] (getMethod ov m pl)
   callWith pos f first (backTo pos (starEach (e::es) X.env)) (backToKw pos (keywordEach [] X.env))):=by rfl):
  PE3 X (.Call (.Attribute o m apos) (e::es) [] pos) (jUb cn m sp ta t):=by
 intro pins s τ G H Q I h
 obtain⟨C,f,fd,hC,hc,hm,F,hb⟩:=M.ex
 refine PySem.W.methodCall_KW (pl:=pl) (thn (he pins s τ G H _ I h) fun u s1 w_=>w_.el fun x G1 H1 e1 I1 r_ q=>r_.el fun v rv ru=> ?_) ht
 obtain⟨ob,q⟩:=q
 obtain⟨a,fs,rfl,hG,hf⟩:=obR_cases ob
 cases (show v= .ref a from rv)
 obtain rfl:u=Value.ref a:=ru
 obtain⟨σ,J1,hs1,hg1⟩:=id I1
 obtain⟨C',dx,ws,hH,hC',pk⟩:=(show ∃C dx ws,H1 a=some (.ins C dx ws)/\CN X.K cn C/\PKV X.K H1 fs ws from hg1 a _ hG)
 cases hC.one hC'
 refine kUt J1 hH hc hm ((pkv_fld pk m).1 hf) ?_
 refine PySem.W.callWith_K (first:=[.ref a]) (h₀:=X.base) J1.ok.mod.kin hm.kp (thn (ha pos pins s1 τ G1 H1 _ I1 q) fun us s2 w_=>w_.el fun xs G2 H2 e2 i_ r_ q2=>i_.el fun σ2 I2 hs2 hg2=>r_.el fun as ras rvs=>⟨I2.kIn,?_⟩) hst hpl
 refine thn (run_fn (us:= .ref a::us) (vs:= .ref a::as) (dvs:=[]) (ds:=[]) (E:=E0) (Q:=up X.K H2 Q) F hr hb .nil pass0 I2 (.cons rfl rvs) ?_) fun u s' z=>(jX7 hs2 z).ext (e1.trans e2)
 rw[lKh]
 have rr:Reps X.K H2 (.ref a::xs) (.ref a::as):=⟨_,_,rfl,rfl,ras⟩
 exact⟨by rw[<-rr.length];exact M.len _ _ _ q2,_,G2,rr,hg2,M.mono _ _ _ _ (fun t G' hq v H' e g r=>⟨t,G',e,g,r,hq⟩) q2⟩
theorem jYa {pl:Sem Bool} (M:CalM X.prog X.w X.K X.mg X.base k cn m ps sp) (hr:Room k X.A) (he:PE3 X o ta)
  (ht:eval (.Call (.Attribute o m apos) [] [] pos) X.env=(do
   let ov <-eval o X.env
   standAt apos.atName
   let (f,first) <-holding [ov] (getMethod ov m pl)
   callWith pos f first (backTo pos (starEach [] X.env)) (backToKw pos (keywordEach [] X.env))):=by rfl):
  PE3 X (.Call (.Attribute o m apos) [] [] pos) (jUb cn m sp ta tNil):=by
 intro pins s τ G H Q I h
 obtain⟨C,f,fd,hC,hc,hm,F,hb⟩:=M.ex
 refine PySem.W.methodCall_KW (pl:=pl) (thn (he pins s τ G H _ I h) fun u s1 w_=>w_.el fun x G1 H1 e1 i_ r_ q=>i_.el fun σ J1 hs1 hg1=>r_.el fun v rv ru=> ?_) ht
 obtain⟨ob,q⟩:=q
 obtain⟨a,fs,rfl,hG,hf⟩:=obR_cases ob
 cases (show v= .ref a from rv)
 obtain rfl:u=Value.ref a:=ru
 obtain⟨C',dx,ws,hH,hC',pk⟩:=(show ∃C dx ws,H1 a=some (.ins C dx ws)/\CN X.K cn C/\PKV X.K H1 fs ws from hg1 a _ hG)
 cases hC.one hC'
 refine kUt J1 hH hc hm ((pkv_fld pk m).1 hf) ?_
 refine PySem.W.callWith_K0 (first:=[.ref a]) J1.kIn hm.kp ?_
 refine thn (run_fn (us:=[.ref a]) (vs:=[.ref a]) (dvs:=[]) (ds:=[]) (E:=E0) (Q:=up X.K H1 Q) F hr hb .nil pass0 J1 (.cons rfl .nil) ?_) fun u s' z=>(jX7 hs1 z).ext e1
 rw[lKh]
 have rr:Reps X.K H1 [.ref a] [.ref a]:=⟨_,_,rfl,rfl,rfl⟩
 exact⟨by rw[<-rr.length];exact M.len _ _ _ q,_,G1,rr,hg1,M.mono _ _ _ _ (fun t G' hq v H' e g r=>⟨t,G',e,g,r,hq⟩) q⟩
theorem e_make (M:CalC X.prog X.w X.K X.mg X.base k cn ps sp) (hr:Room (k+1) X.A) (ha:PA3 X (e::es) t) (hg:Gl X cn:=by rfl)
  (hdb:(cn == ("__debug__":Str))=false:=by decide) (he:starEach (e::es) X.env=(false,eval e X.env)::starEach es X.env:=by rfl) (hpl:(backTo pos (starEach es X.env)).any (·.1)=false:=by rfl):
  PE3 X (.Call (.Name cn p) (e::es) [] pos) (kVd cn sp t):=by
 intro pins s τ G H Q I h
 obtain⟨C,f,fd,hC,hm,hmk,F,hb⟩:=M.ex
 obtain⟨σ0,I0,hs0,hg0⟩:=id I
 refine wpAny_Call_Name_kw (ld_glob I0 hg hm ?_ hdb)
 refine PySem.W.callWith_K (h₀:=X.base) I0.ok.mod.kin hmk.kp (thn (ha pos pins s τ G H _ I h) fun us s1 w_=>w_.el fun xs G1 H1 e1 i_ r_ q=>i_.el fun σ I1 hs1 hg1=>r_.el fun as ras rvs=>⟨I1.kIn,?_⟩) he hpl
 refine thn (run_make (dvs:=[]) (ds:=[]) (E:=E0) (Q:=up X.K H1 Q) hmk F hr hb .nil pass0 I1 rvs fun x dx hx hdx ne=> ?_) fun u s' z=>(jX7 hs1 z).ext e1
 rw[lKh]
 have x1:Ext H1 (upd H1 dx (.own x)):= .upd (.none hdx)
 have hx1:upd H1 dx (.own x) x=none:=by rw[jKp ne.symm];exact hx
 have x2:Ext (upd H1 dx (.own x)) (upd (upd H1 dx (.own x)) x (.ins C dx [])):= .upd (.none hx1)
 have g1:GRel X.K (upd H1 dx (.own x)) G1:=fun b u eb=>by
  have hb:b≠dx:=by rintro rfl;exact (hg1 b u eb).some hdx
  exact (hg1 b u eb).move x1 (jKp hb)
 have g2:GRel X.K (upd (upd H1 dx (.own x)) x (.ins C dx [])) (gup G1 x (.ins cn [])):=g1.upd (.none hx1) ⟨C,dx,[],jK7,hC,.nil⟩
 have rr:Reps X.K (upd (upd H1 dx (.own x)) x (.ins C dx [])) (.ref x::xs) (.ref x::as):=⟨_,_,rfl,rfl,Reps.mono (x1.trans x2) _ ras⟩
 have q':=q x (hg1.fresh hx)
 refine⟨by rw[<-rr.length];exact M.len _ _ _ q',_,_,rr,g2,M.mono _ _ _ _ (fun t G' hq v H' e g r=> ?_) q'⟩
 obtain⟨e0,hq⟩:=hq
 subst e0
 exact⟨r,.ref x,G',(x1.trans x2).trans e,g,rfl,hq⟩
end
theorem kJg:∀ {is:List Int} {us:List Value},Vals (is.map V.int) us->IntsAre us is
 | [],_,.nil=> .nil
 | i::is,_,.cons ⟨t,e⟩ r=>by rw[e];exact .cons _ _ (kJg r)
section
variable {X:Cx}
theorem Reps.eraseIdx {K:PySem.W.Frag} {H:Hp} {xs:List T} {vs:List V} (j:Nat) (h:Reps K H xs vs):Reps K H (xs.eraseIdx j) (vs.eraseIdx j):=by
 rw[lK9,lK9]
 exact (h.take _).append (h.drop _)
theorem kf_of:∀ps:List (Int×Tok),PySem.W.kf_ints (ps.map fun p=>Value.int p.1 p.2)=true
 | []=>rfl
 | _::r=>kf_of r
noncomputable def rRemove:T->List T->Gp->VK3->Prop:=fun x as G Q=>∃(p:Addr) (is:List Int) (k:Int) (j:Nat),x= .ref p/\as=[.int k]/\G p=some (.lst (is.map T.int))/\is.idxOf? k=some j/\Q .non (gup G p (.lst ((is.eraseIdx j).map T.int)))
theorem m_remove:Mt3 X "list.remove" rRemove:=by
 rintro pins s τ G H x as v us Q ⟨σ,I,hs,hg⟩ ⟨a,ra,rv⟩ ⟨bs,rbs,rus⟩ ⟨p,is,k,j,ex,ea,hp,hj,q⟩
 subst ex;subst ea
 cases (show a= .ref p from ra);cases rv
 obtain⟨b,rfl,rb⟩:=jXj rbs
 cases (show b= .int k from rb)
 obtain⟨u,rfl,ru⟩:=rus.one
 obtain⟨t,rfl⟩:=ru
 obtain⟨vs,h1,h2⟩:=hg.lst hp
 cases jUk h2
 obtain⟨hz,its,n,r,hl,e⟩:=I.lstM h1
 have hI:=kJg r
 obtain⟨ps,rfl,rfl⟩:=jVj r
 rw[List.idxOf?,List.findIdx?_eq_some_iff_getElem] at hj
 obtain⟨hjl,hit,hno⟩:=hj
 simp only[lJb] at hjl hl hz
 have szl:(ps.map fun p=>Value.int p.1 p.2).toArray.size=ps.length:=by simp
 have kf:=kf_of ps
 refine call_meets F.slot_list_remove ⟨_,e,rfl⟩ F.entry_list_remove (F.args_list_remove_2 _ _) (MeetsSeq.list_remove p _ n (.int k t) (isInt k) (fun y hy=>PySem.W.kf_eq kf y (by simpa using hy)) j (by rw[szl];exact hjl) ?_ ?_ (by rw[szl];exact hz)) ⟨e,?_⟩
 ·simpa[isInt] using hit
 ·intro m hm hmj
  have:=hno m hmj
  simpa[isInt] using this
 ·have e2:Ext H (upd H p (.lst (((ps.map (·.1)).map V.int).eraseIdx j))):= .upd (.lst h1)
  refine⟨.non,_,_,e2,⟨σ,I.lset (its':=(ps.map fun p=>Value.int p.1 p.2).eraseIdx j) h1 e ?_ ?_ ?_,hs.mono e2,hg.lstNew (xs:=((ps.map (·.1)).eraseIdx j).map T.int) ?_ (.lst h1)⟩,⟨.non,rfl,rfl⟩,q⟩
  ·apply Array.toList_inj.mp
   (simp[Array.toList_eraseIdxIfInBounds])
  ·have:=r
   rw[lK9,lK9]
   exact (r.take _).append (r.drop _)
  ·have:=List.length_eraseIdx_le ((ps.map (·.1)).map V.int) j
   simp only[lJb] at this
   omega
  ·have e3:((ps.map (·.1)).eraseIdx j).map T.int=((ps.map (·.1)).map T.int).eraseIdx j:=by rw[lK9,lK9,lJu,List.map_take,List.map_drop]
   rw[e3];exact Reps.eraseIdx j h2
end
section
variable {X:Cx}
end
section
variable {P:Program} {w:World} {d:Addr}
end
section
variable {X:Cx}
end
theorem rt_init:Slot "reversed" "__init__" "object.__init__":=
 .of (n:="__init__") (owner:="object") (by rw[typeLookup_type,builtinLookup_eq_fast];kernel_rfl) (by decide +kernel) (by decide +kernel) (by decide +kernel)
  (by first | exact .inl (by decide +kernel) | exact .inr (by decide +kernel)) (by rw[isSubtype_type];kernel_rfl)
theorem rt_next:Slot "reversed" "__next__" "reversed.__next__":=
 .of (owner:="reversed") (n:="__next__") (by rw[typeLookup_type,builtinLookup_eq_fast];kernel_rfl) (by decide +kernel) (by decide +kernel) (by decide +kernel)
  (by first | exact .inl (by decide +kernel) | exact .inr (by decide +kernel)) (by rw[isSubtype_type];kernel_rfl)
theorem rt_called:TypeCalled "reversed" "reversed.__new__" "object.__init__":=
 ⟨by decide +kernel,F.create_reversed,⟨_,_,F.mro_reversed⟩,F.made_reversed,F.plain_reversed_new,F.sub_reversed_self,rt_init⟩
theorem rt_norev:typeLookup (.type "tuple") "__reversed__"=pure none:=by rw[typeLookup_type,builtinLookup_eq_fast];kernel_rfl
noncomputable def jV0 (l:Addr) (i:Int):Obj:={cls:= .type "reversed",data:= .fields #[.ref l,rawInt i]}
def IsTRev (h:Heap) (a l:Addr) (i:Int):Prop:=∃o,h.get? a=some o/\o.cls= .type "reversed"/\o.data= .fields #[.ref l,rawInt i]
section
variable {prog:Program} {w:World} {A:Around} {E:Value->Shared->Prop} {s:Shared}
theorem rt_new {l:Addr} {items:Array Value} {Q₁:Value->Shared->Prop} (hl:IsTup s.heap l items) (hz:items.size<=sizeLine)
  (h:∀t,Q₁ (.ref s.heap.objs.size) {s with heap:=s.heap.push (jV0 l ((items.size:Int)-1)),toks:=t}):codeAny (model prog w) A (.call (.builtin "reversed.__new__") ⟨[.type "reversed",.ref l],[]⟩) (wants Q₁ E) s:=by
 refine codeAny_of_tree ?_
 refine (show wpAny _ A.in1 (do checkBuiltinCall "reversed.__new__" ⟨[.type "reversed",.ref l],[]⟩;again (.builtin "reversed.__new__" ⟨[.type "reversed",.ref l],[]⟩)) _ _ s from ?_)
 (refine wpAny_bind (wpAny_of_eq (F.newCall_reversed_1 _) (wpAny_pure ⟨plainId_quiet F.plain_reversed_new _,codeAny_builtin F.entry_reversed_new ?_⟩)))
 (rw[Around.under_plainId F.plain_reversed_new _])
 (unfold Builtin.«reversed.__new__»)
 (refine wpAny_bind (wpAny_of_eq (newClass_reversed _) ?_))
 try dsimp only
 (refine wpAny_bind (wpAny_of_eq (a:=()) (by first | rfl | kernel_rfl) ?_))
 (refine wpAny_bind (wpAny_of_eq (a:=()) (by first | rfl | kernel_rfl) ?_))
 try dsimp only
 have ty:s.TypeIs (.ref l) "tuple":=hl.typeIs
 refine wpAny_bind (wpAny_specialOf ty rt_norev ?_)
 try dsimp only
 refine wpAny_bind (show wpAny _ _ (isInstance (Value.ref l) (.type "dict") >>= _) _ _ s from wpAny_bind (wpAny_isInstance ty (b:=false) (by rw[isSubtype_type];kernel_rfl) ?_))
 refine (show wpAny _ _ (specialOf (Value.ref l) "__getitem__" >>= _) _ _ s from wpAny_bind (wpAny_specialOf ty slot_tuple_getitem.lookup ?_))
 refine (show wpAny _ _ (if List.contains _ _=true then pure true else _) _ _ s from ?_)
 rw[if_pos (by decide +kernel)]
 refine wpAny_pure ?_
 rw[if_neg (by decide)]
 refine wpAny_bind (len_tuple hl (by have:=sizeLine_eq;omega) ?_)
 refine wpAny_bind (wpAny_of_eq (a:=some (items.size:Int)) (by first | rfl | kernel_rfl) ?_)
 try dsimp only
 unfold Builtin.SmallTypes.newRecord
 exact wpAny_bind (wpAny_newObj_type (wpAny_pure (h _)))
theorem jXe {l:Addr} {items:Array Value} {Q:Value->Shared->Prop} (hl:IsTup s.heap l items) (hz:items.size<=sizeLine)
  (h:∀t,Q (.ref s.heap.objs.size) {s with heap:=s.heap.push (jV0 l ((items.size:Int)-1)),toks:=t}):wpAny (model prog w) A (call (.type "reversed") [.ref l]) Q E s:=by
 refine callType_codes (Q₁:=fun obj z=>∃t,obj= .ref s.heap.objs.size/\z={s with heap:=s.heap.push (jV0 l ((items.size:Int)-1)),toks:=t}) rt_called (F.typeCall_reversed_1 _) F.entry_object_init (rt_new hl hz fun t=>⟨t,rfl,rfl⟩) ?_
 rintro obj z ⟨t,rfl,rfl⟩
 have ty:({s with heap:=s.heap.push (jV0 l ((items.size:Int)-1)),toks:=t}:Shared).TypeIs (.ref s.heap.objs.size) "reversed":=⟨_,Heap.get?_push_size _ rfl,rfl⟩
 exact⟨ty,F.args_object_init_2 _ _,object_init_meets rt_init.lookup F.made_reversed (by decide) prog w A.in1 _ _ ⟨ty,rfl,h t⟩⟩
theorem IsTRev.typeIs {a l:Addr} {i:Int} (x:IsTRev s.heap a l i):s.TypeIs (.ref a) "reversed":=let ⟨o,ho,hc,_⟩:=x;⟨o,ho,hc⟩
theorem IsTRev.at {h h':Heap} {a l:Addr} {i:Int} (x:IsTRev h a l i) (e:∀o,h.get? a=some o->h'.get? a=some o):IsTRev h' a l i:=let ⟨o,ho,r⟩:=x;⟨o,e _ ho,r⟩
theorem kVl:Manifest.owners.lookup (String.ofList ['d','e','s','r','e','v','e','r'].reverse)=some Manifest.sig_reversed:=by kernel_rfl
theorem rt_args (a:Value):argsOk "reversed.__next__" ⟨[a],[]⟩:=by
 unfold argsOk;rw[signature?_of (id:="reversed.__next__") (n:=['_','_','t','x','e','n','_','_']) (o:=['d','e','s','r','e','v','e','r']) (by kernel_rfl) kVl];kernel_rfl
theorem rt_entry:entryFor table "reversed.__next__"=some Builtin.«reversed.__next__» :=entryFor_of_tree (by kernel_rfl)
theorem kJh {it l:Addr} {i:Nat} {items:Array Value} {x:Value} {Q:Option Value->Shared->Prop} (hit:IsTRev s.heap it l (i:Int)) (hl:IsTup s.heap l items) (hz:items.size<=sizeLine) (hx:items[i]? =some x)
  (hQ:∀h' t,IsTRev h' it l ((i:Int)-1)->Heap.SameBut it s.heap h'->Q (some x) {s with heap:=h',toks:=t}):wpAny (model prog w) A (pyNext (.ref it)) Q E s:=by
 (obtain⟨o,ho,hc,hd⟩:=id hit)
 unfold pyNext
 refine wpAny_bind (wpAny_attempt (wpAny_callSpecial?_slot (name:=Str.ofString "__next__") hit.typeIs rt_next (wpAny_call_entry rt_next hit.typeIs rt_entry ?_ (rt_args _))))
 unfold Builtin.«reversed.__next__»
 (refine wpAny_bind (wpAny_of_eq (a:=(Value.ref it,[])) rfl ?_))
 try dsimp only
 (refine wpAny_bind (wpAny_field ho hd (x:= .ref l) rfl ?_))
 (refine wpAny_bind (wpAny_field ho hd (x:=rawInt (i:Int)) rfl ?_))
 refine (show wpAny _ _ (if (i:Int)<0 then _ else _) _ _ s from ?_)
 rw[if_neg (by omega)]
 have ty:s.TypeIs (.ref l) "tuple":=hl.typeIs
 refine wpAny_bind (wpAny_specialOf ty slot_tuple_getitem.lookup ?_)
 rw[if_neg (by decide)]
 have hi:i<items.size:=(Array.getElem?_eq_some_iff.mp hx).1
 have hsl:=sizeLine_eq
 refine wpAny_bind (wpAny_mkInt (wpAny_bind (wpAny_attempt (getItem_tuple (s:={s with toks:=s.toks+1}) hl (by omega) (by omega) (j:=i) (by unfold seqIndex?; simp;omega) hx ?_))))
 try dsimp only
 (refine wpAny_bind (wpAny_field ho hd (x:=rawInt (i:Int)) rfl ?_))
 refine (show wpAny _ _ (setField (.ref it) 1 (rawInt ((i:Int)-1)) >>= _) _ _ _ from wpAny_bind (wpAny_setField ho hd (by simp) ?_))
 refine wpAny_pure ⟨x,rfl,wpAny_pure (hQ _ _ ?_ (Heap.SameBut.update ..))⟩
 exact⟨_,Heap.get?_update_self _ ho (Obj.isFreed_of_fields (Obj.data_mapFields hd _)),(Obj.cls_mapFields ..).trans hc,by rw[Obj.data_mapFields hd];simp⟩
theorem kKi {it l:Addr} {Q:Option Value->Shared->Prop} (hh:A.handled=none) (hit:IsTRev s.heap it l (-1)) (hQ:∀h',Heap.ExtBut it s.heap h'->Q none {s with heap:=h'}):wpAny (model prog w) A (pyNext (.ref it)) Q E s:=by
 (obtain⟨o,ho,hc,hd⟩:=id hit)
 unfold pyNext
 refine wpAny_bind (wpAny_attempt (wpAny_callSpecial?_slot (name:=Str.ofString "__next__") hit.typeIs rt_next (wpAny_call_entry rt_next hit.typeIs rt_entry ?_ (rt_args _))))
 unfold Builtin.«reversed.__next__»
 (refine wpAny_bind (wpAny_of_eq (a:=(Value.ref it,[])) rfl ?_))
 try dsimp only
 (refine wpAny_bind (wpAny_field ho hd (x:= .ref l) rfl ?_))
 (refine wpAny_bind (wpAny_field ho hd (x:=rawInt (-1)) rfl ?_))
 refine (show wpAny _ _ (if (-1:Int)<0 then _ else _) _ _ s from ?_)
 rw[if_pos (by decide)]
 refine wpAny_bind (wpAny_rule ?_)
 refine wpAny_bind (show wpAny _ _ (setField (.ref it) 1 (rawInt (-1)) >>= _) _ _ s from wpAny_bind (wpAny_setField ho hd (by simp) ?_))
 have ho':=Heap.get?_update_self (h:=s.heap) (Obj.mapFields (·.setIfInBounds 1 (rawInt (-1)))) ho (Obj.isFreed_of_fields (Obj.data_mapFields hd _))
 refine (show wpAny _ _ (setField (.ref it) 0 .none) _ _ _ from wpAny_setField ho' (Obj.data_mapFields hd _) (by simp) ?_)
 refine (show wpAny _ _ (Builtin.SmallTypes.stopIteration >>= _) _ _ _ from wpAny_bind ?_)
 refine (show wpAny _ _ (newExc (.type "StopIteration") [] >>= _) _ _ _ from wpAny_bind ?_)
 simp only[newExc,newTuple]
 (refine wpAny_bind (wpAny_newObj_type ?_ (by size_fits)))
 refine wpAny_bind (m:=firstArgMember _ _) (wpAny_of_eq (a:=Value.none) (by first | rfl | (simp only[firstArgMember];rfl)) (wpAny_newObj_type ?_ (by size_fits)))
 simp only[raiseNew]
 (refine wpAny_bind (wpAny_handled ?_))
 (rw[show A.in1.handled=none from hh])
 (refine wpAny_bind (wpAny_pure (wpAny_throw ?_)))
 refine wpAny_bind (wpAny_isInstance (T:="StopIteration") (b:=true) ⟨_,Heap.get?_push_size _ rfl,rfl⟩ isSubtype_stop (wpAny_pure (hQ _ fun b o hb e=> ?_)))
 exact Heap.get?_push_of_some _ (Heap.get?_push_of_some _ ((Heap.get?_update_ne _ _ _ _ hb).trans ((Heap.get?_update_ne _ _ _ _ hb).trans e)))
theorem rt_iter:Slot "reversed" "__iter__" "reversed.__iter__":=
 .of (owner:="reversed") (n:="__iter__") (by rw[typeLookup_type,builtinLookup_eq_fast];kernel_rfl) (by decide +kernel) (by decide +kernel) (by decide +kernel)
  (by first | exact .inl (by decide +kernel) | exact .inr (by decide +kernel)) (by rw[isSubtype_type];kernel_rfl)
theorem rt_args2 (a:Value):argsOk "reversed.__iter__" ⟨[a],[]⟩:=by
 unfold argsOk;rw[signature?_of (id:="reversed.__iter__") (n:=['_','_','r','e','t','i','_','_']) (o:=['d','e','s','r','e','v','e','r']) (by kernel_rfl) kVl];kernel_rfl
theorem rt_entry2:entryFor table "reversed.__iter__"=some Builtin.«dict_keyiterator.__iter__» :=
 entryFor_alias (id':="dict_keyiterator.__iter__") (by kernel_rfl) (by first | rfl | decide +kernel | (unfold String.splitOn;simp +decide [String.splitOnAux])) (by decide +kernel) (by kernel_rfl)
theorem kVk {it l:Addr} {i:Int} {Q:Value->Shared->Prop} (hit:IsTRev s.heap it l i) (h:Q (.ref it) s):wpAny (model prog w) A (pyIter (.ref it)) Q E s:=by
 refine wpAny_pyIter_slot hit.typeIs rt_iter (wpAny_call_entry rt_iter hit.typeIs rt_entry2 ?_ (rt_args2 _))
 exact (show wpAny _ _ (ret (.ref it)) _ _ s from wpAny_pure ⟨_,rfl,"reversed",_,hit.typeIs,rt_next.lookup,h⟩)
end
noncomputable def Itw (K:PySem.W.Frag) (a:Addr) (n:Nat):It:=
 ⟨fun i H=>i<n/\∃xs x,SqT K H a xs/\xs.length=n/\xs[n-1-i]? =some x,fun i H x H'=>H'=H/\∀xs,SqT K H a xs->xs[n-1-i]? =some x,fun i _=>n<=i⟩
theorem turn_revT {P:Program} {w:World} {K:PySem.W.Frag} {tg:Expr} (a it:Addr) (n:Nat):Turn P w K tg (Itw K a n) [it] it (fun i h=>i<=n/\IsTRev h it a ((n:Int)-1-(i:Nat))) where
 mem:=lKt _
 obj:=fun i h ⟨_,o,e,c,d⟩ b hb=>by
  obtain rfl:=lJk.mp hb
  exact⟨o,e,fun v z=>by rw[d] at z;cases z⟩
 keep:=fun i h h' ⟨l,st⟩ k=>⟨l,st.at fun o e=>k it (lKt _) o e⟩
 item:=by
  rintro X hP hw hK hc i pins s σ H E I hf ⟨hl,st⟩ ⟨hi,xs,x,hq,hn,hx⟩
  subst hP hw hK
  obtain⟨its,rv,p,hz⟩:=I.tuple hq
  obtain⟨u,hu,ru⟩:=rv.get hx
  obtain⟨f0,f1,_,f3,f4,f5⟩:=hf it (lKt _)
  rw[show (n:Int)-1-(i:Nat)=((n-1-i:Nat):Int) by omega] at st
  refine kJh st p (by have:=rv.length;simp;omega) (x:=u) (by simpa using hu) fun h' t st' sb=> ?_
  rw[show ((n-1-i:Nat):Int)-1=(n:Int)-1-((i+1:Nat):Int) by omega] at st'
  have I1:Inv X pins σ H {s with heap:=h',toks:=t}:=I.turned (t':=t) (fun b o hb e=>(sb.2 b hb).trans e) f0 f1 f3 f4 f5
  obtain⟨o,e,c,d⟩:=id st'
  exact⟨u,rfl,go_of (s:={s with heap:=h',toks:=t}) e c d (by decide) ⟨x,H,I1,ru,⟨rfl,fun ys hy=>(I.tuple_inj hy hq).symm▸hx⟩,⟨hi,st'⟩,fun b hb=>(hf b hb).1⟩⟩
 done:=by
  rintro X hP hw hK hc i pins s σ H E I hf ⟨hl,st⟩ hg
  subst hP hw hK
  have hg':n<=i:=hg
  obtain⟨f0,f1,_,f3,f4,f5⟩:=hf it (lKt _)
  rw[show (n:Int)-1-(i:Nat)= -1 by omega] at st
  exact kKi (I.ok.hd hc) st fun h' eb=>⟨rfl,I.turned (t':=s.toks) (fun b o hb e=>eb b o hb e) f0 f1 f3 f4 f5⟩
 self:=fun _ _ _ _ _ ⟨_,st⟩ h=>kVk st h
noncomputable def iRevT (ta:TA3):TI3:=fun τ G R=>ta τ G fun vs G1=>∃xs,vs=[.tup xs]/\R xs.reverse (fun _=>True) G1
theorem i_revT {X:Cx} {tg:Expr} {pos p:Pos} {a:Expr} {ta:TA3} (hg:Gl X "reversed") (hm:X.mg "reversed"=none) (hv:bootBuiltins "reversed"=some (.type "reversed")) (ha:PA3 X [a] ta) (hs:starEach [a] X.env=[(false,eval a X.env)]:=by rfl):
  PI3 X tg (.Call (.Name "reversed" p) [a] [] pos) (iRevT ta):=by
 intro pins s τ G H R I h
 obtain⟨σ0,I0,_,_⟩:=id I
 refine Call_ (jVm I0 hg hm hv (PyProof.Rows.callWith_type1 (thn (ha pos pins s τ G H _ I h) fun us s1 w_=>w_.el fun xs' G1 H1 e1 i_ r_ q1=>i_.el fun σ I1 hs1 hg1=>r_.el fun as ras rvs=> ?_) hs rfl))
 obtain⟨xs,e,q⟩:=q1
 subst e
 obtain⟨v,rfl,rv⟩:=jXj ras
 obtain⟨u,rfl,ru⟩:=rvs.one
 obtain⟨pa,vs,e,hq,r⟩:=(show ∃a vs,v= .ref a/\H1 a=some (.tup vs)/\Reps X.K H1 xs vs from rv)
 subst e
 cases ru
 obtain⟨its,rvv,pl,hz⟩:=I1.tuple (.of hq)
 have hlen:its.length=xs.length:=by have:=rvv.length;have:=r.length;omega
 refine jXe pl (by have:=rvv.length;simp;omega) fun t=> ?_
 have st:IsTRev (s1.heap.push (jV0 pa (((its.toArray).size:Int)-1))) s1.heap.objs.size pa ((xs.length:Int)-1-((0:Nat):Int)):=⟨_,Heap.get?_push_size _ rfl,rfl,by
  show Data.fields #[.ref pa,rawInt (((its.toArray).size:Int)-1)]=_
  rw[show ((its.toArray).size:Int)-1=(xs.length:Int)-1-((0:Nat):Int) by simp[hlen]]⟩
 refine kVk (s:={s1 with heap:=s1.heap.push (jV0 pa (((its.toArray).size:Int)-1)),toks:=t}) st ?_
 have fr:∀b∈[s1.heap.objs.size],FpOk X pins H1 b:=fun b hb=>by
  obtain rfl:=lJk.mp hb
  exact I1.fpOk (lJd _) (I1.hok.fresh (lJd _))
 refine⟨s1.heap.objs.size,[s1.heap.objs.size],_,_,xs.reverse,fun _=>True,G1,H1,rfl,e1,⟨σ,I1.kept (t':=t) fun b o e=>Heap.get?_push_of_some _ e,hs1,hg1⟩,turn_revT pa _ xs.length,⟨lJg _,st⟩,fr,?_,q⟩
 intro i H2 G2 e2 g2 sty
 have h1:=e2.tup _ _ hq
 have h2:=Reps.mono e2 _ r
 have hl2:=h2.length
 rw[List.length_reverse]
 refine⟨fun hi=>⟨hi,vs,vs[xs.length-1-i]'(by omega),.of h1,by omega,lJc _⟩,fun hi=>hi,fun hi y H' ⟨eH,hy⟩=> ?_⟩
 subst eH
 obtain⟨t,ht,rt⟩:=h2.get' (hy vs (.of h1))
 exact⟨.refl _,g2,t,by rw[List.getElem?_reverse hi];exact ht,rt⟩
theorem rl_no_len:typeLookup (.type "reversed") "__len__"=pure none:=by rw[typeLookup_type,builtinLookup_eq_fast];kernel_rfl
theorem rl_hint_at:typeLookup (.type "reversed") "__length_hint__"=pure (some (.builtin "reversed.__length_hint__")):=by rw[typeLookup_type,builtinLookup_eq_fast];kernel_rfl
theorem rl_slot:Slot "reversed" "__length_hint__" "reversed.__length_hint__":=
 .of (owner:="reversed") (n:="__length_hint__") (by rw[typeLookup_type,builtinLookup_eq_fast];kernel_rfl) (by decide +kernel) (by decide +kernel) (by decide +kernel)
  (by first | exact .inl (by decide +kernel) | exact .inr (by decide +kernel)) (by rw[isSubtype_type];kernel_rfl)
theorem rl_args (a:Value):argsOk "reversed.__length_hint__" ⟨[a],[]⟩:=by
 unfold argsOk;rw[signature?_of (id:="reversed.__length_hint__") (n:=['_','_','t','n','i','h','_','h','t','g','n','e','l','_','_']) (o:=['d','e','s','r','e','v','e','r']) (by kernel_rfl) kVl];kernel_rfl
theorem rl_entry:entryFor table "reversed.__length_hint__"=some Builtin.«reversed.__length_hint__» :=entryFor_of_tree (by kernel_rfl)
section
variable {P:Program} {w:World} {A:Around} {E:Value->Shared->Prop} {s:Shared} {it l:Addr} {xs:Array Value}
theorem rl_call {Q:Value->Shared->Prop} (hi:IsTRev s.heap it l ((xs.size:Int)-1)) (hl:IsTup s.heap l xs) (hz:xs.size<=sizeLine) (h:∀t u,Q (.int (xs.size:Int) t) {s with toks:=u}):wpAny (model P w) A (call (.builtin "reversed.__length_hint__") [.ref it]) Q E s:=by
 obtain⟨o,ho,hc,hd⟩:=id hi
 have hsl:=sizeLine_eq
 refine wpAny_call_entry rl_slot hi.typeIs rl_entry ?_ (rl_args _)
 unfold Builtin.«reversed.__length_hint__»
 refine wpAny_bind (wpAny_of_eq (a:=Value.ref it) rfl ?_)
 (refine wpAny_bind (wpAny_field ho hd (x:= .ref l) rfl ?_))
 (rw[if_neg (show ¬ ((Value.ref l == Value.none)=true) from lJf)])
 refine wpAny_bind (len_tuple hl (by omega) ?_)
 refine wpAny_bind (wpAny_of_eq (a:=some (xs.size:Int)) (by first | rfl | kernel_rfl) ?_)
 try dsimp only
 refine wpAny_bind (wpAny_field ho hd (x:=rawInt ((xs.size:Int)-1)) rfl ?_)
 refine (show wpAny _ _ (if (xs.size:Int)<(xs.size:Int)-1+1 then _ else _) _ _ _ from ?_)
 rw[if_neg (by omega),show (xs.size:Int)-1+1=xs.size by omega]
 exact wpAny_bind (wpAny_mkInt (wpAny_pure ⟨_,rfl,h _ _⟩))
theorem rl_hint {Q:Bool->Shared->Prop} (hi:IsTRev s.heap it l ((xs.size:Int)-1)) (hl:IsTup s.heap l xs) (hz:xs.size<=sizeLine) (h:∀b u,Q b {s with toks:=u}):wpAny (model P w) A (Builtin.List.listLengthHint (.ref it)) Q E s:=by
 have hsl:=sizeLine_eq
 have ty:=hi.typeIs
 (unfold Builtin.List.listLengthHint)
 refine wpAny_bind (wpAny_specialOf ty rl_no_len ?_)
 refine (show wpAny _ A (specialOf (Value.ref it) (Str.ofString "__length_hint__") >>= _) _ _ _ from wpAny_bind (wpAny_specialOf ty rl_hint_at ?_))
 generalize hn:("reversed.__length_hint__":String)=nm
 wp_delta
 rw[show splitId nm=some ("reversed","__length_hint__") by subst hn;decide +kernel];subst hn
 refine wpAny_bind (wpAny_isInstance (T:="reversed") (b:=true) ty (by rw[isSubtype_type];kernel_rfl) (wpAny_ite_split (fun z=>absurd z (by decide)) fun _=> ?_))
 refine wpAny_ite_split (fun z=>absurd z (by decide +kernel)) fun _=> ?_
 refine wpAny_bind (wpAny_rule ?_)
 refine wpAny_bind (wpAny_of_eq (rl_slot.bind _) ?_)
 try dsimp only
 refine wpAny_bind (wpAny_attempt (rl_call hi hl hz fun t u=> ?_))
 split
 ·rename_i e he;cases he
 ·rename_i he;cases he
 ·rename_i r _ he
  cases he
  have ea:asInt? (Value.int (xs.size:Int) t)=pure (some (xs.size:Int)):=by first | rfl | kernel_rfl
  rw[ea,pure_bind]
  split
  ·rename_i n hn
   cases hn
   rw[if_neg (by rw[fitsIndex_both (by omega) (by omega)];exact lJf),if_neg (by omega),if_neg (by rw[notLongL (by simpa using hz)];exact lJf)]
   exact wpAny_pure (h _ _)
  ·rename_i hn
   exact (hn _ rfl).elim
end
theorem walks_rt {prog:Program} {w:World} {A:Around} (hh:A.handled=none) (I l:Addr) (hne:l≠I) (items:Array Value) (hz:items.size<=sizeLine):
  Walks prog w A I [I,l] [I] items.size (fun i v=>items[items.size-1-i]? =some v) (fun i h=>i<=items.size/\IsTRev h I l ((items.size:Int)-1-(i:Int))/\IsTup h l items) where
 sub:=fun b hb=>(by simp at hb;simp[hb])
 frame:=fun _ _ _ x hk=>⟨x.1,x.2.1.at fun o e=>hk I (by simp) o e,let ⟨o,ho,r⟩:=x.2.2;⟨o,hk l (by simp) o ho,r⟩⟩
 item i s Q E hi x hQ:=by
  (have e:(items.size:Int)-1-(i:Int)=((items.size-1-i:Nat):Int):=by omega)
  have hit:=x.2.1
  rw[e] at hit
  (have hx:items[items.size-1-i]? =some (items[items.size-1-i]'(by omega)):=Array.getElem?_eq_getElem (by omega))
  refine kJh hit x.2.2 hz hx fun h' t hit' hs'=> ?_
  (have e2:((items.size-1-i:Nat):Int)-1=(items.size:Int)-1-((i+1:Nat):Int):=by omega)
  rw[e2] at hit'
  exact hQ _ h' t hx ⟨hi,hit',let ⟨o,ho,r⟩:=x.2.2;⟨o,(hs'.2 l hne).trans ho,r⟩⟩ fun b o hb eo=>hs'.extBut b o (fun h=>hb (by simp[h])) eo
 done:=fun s Q E x hQ=>by
  (have e:(items.size:Int)-1-(items.size:Int)= -1:=by omega)
  have hit:=x.2.1
  rw[e] at hit
  exact kKi hh hit fun h' he'=>hQ h' s.toks fun b o hb eo=>he' b o (fun h=>hb (by simp[h])) eo
 self:=fun _ _ _ _ x hQ=>kVk x.2.1 hQ
theorem extend_rt {P:Program} {w:World} {A:Around} {s:Shared} {R:Result->Shared->Prop} {it l S:Addr} {xs:Array Value} (hh:A.handled=none) (hi:IsTRev s.heap it l ((xs.size:Int)-1)) (hl:IsTup s.heap l xs) (hz:xs.size<=sizeLine) (res:Value) (c0:Nat)
  (hS:s.heap.get? S=some {cls:= .type "list",data:= .seq #[] c0})
  (hR:∀(g:Heap) (tk:Nat) (acc:Array Value) (c':Nat),(∀d o,d≠S->d≠it->s.heap.get? d=some o->g.get? d=some o)->g.get? S=some {cls:= .type "list",dict:=none,data:= .seq acc c',slots:= #[]}->ItemsOf (fun i v=>xs[xs.size-1-i]? =some v) acc xs.size->R (.ok (.ret res)) {s with heap:=g,toks:=tk}):
  wpAny (model P w) A.in1 (Builtin.List.listExtendWith (.ref S) (.ref it) res) (fun fin z=>match fin with | .done f=>R (.ok f) z | .again c'=>c'.quiet=true/\codeAny (model P w) A c' R z) (fun e z=>R (.error e) z) s:=by
 have hSi:S≠it:=by
  rintro rfl
  obtain⟨o,ho,hc,_⟩:=hi
  rw[hS] at ho;cases ho
  exact absurd hc (show ¬ Value.type "list"=Value.type "reversed" by decide)
 have hSl:S≠l:=by
  rintro rfl
  obtain⟨o,ho,hc,_⟩:=hl
  rw[hS] at ho;cases ho
  exact absurd hc (show ¬ Value.type "list"=Value.type "tuple" by decide)
 have ne:l≠it:=by
  rintro rfl
  obtain⟨o,ho,hc,_⟩:=hi
  obtain⟨o',ho',hc',_⟩:=hl
  rw[ho] at ho';cases ho'
  rw[hc] at hc'
  exact absurd hc' (by decide)
 have key:∀(h:Heap) (c₁ tk:Nat),IsTRev h it l ((xs.size:Int)-1)->IsTup h l xs->(∀b o,b≠S->s.heap.get? b=some o->h.get? b=some o)->
   h.get? S=some {cls:= .type "list",data:= .seq #[] c₁ }->codeAny (model P w) A (.builtin "list.extend.loop" ⟨[.ref S,.ref it,res],[]⟩) R {s with heap:=h,toks:=tk}:=by
  intro h c₁ tk hi' hl' hk hS₁
  have Wk:=(walks_rt (prog:=P) (w:=w) (A:=A.in1) hh it l ne xs hz).toS
  refine codeAny_extend_loopS Wk hz S (by simp[hSi,hSl]) res xs.size 0 _ #[] c₁ rfl (lJg _) ⟨lJg _,by simpa using hi',hl'⟩ hS₁ (ItemsOf.nil _) fun z acc c' hm hS' hacc=> ?_
  rw[Moved.eq_with hm]
  exact hR z.heap z.toks acc c' (fun b o h1 h2 e=>hm.heap b o (by simp[h1,h2]) (hk b o h1 e)) hS' hacc
 (unfold Builtin.List.listExtendWith)
 refine wpAny_bind (wpAny_typeOf hi.typeIs ?_)
 have z1:Builtin.List.listSameRef (.ref S) (.ref it)=false:=by simp[Builtin.List.listSameRef,hSi]
 have z2:(Value.type "reversed" == Value.type "list")=false:=by decide
 have z3:(Value.type "reversed" == Value.type "tuple")=false:=by decide
 simp only[z1,z2,z3,Bool.or_false,lKd,if_false]
 refine wpAny_bind (kVk hi (wpAny_bind (wpAny_holding (rl_hint hi hl hz fun b u=> ?_))))
 refine wpAny_ite_split (fun _=> ?_) (fun _=>wpAny_pure ⟨plainId_quiet F.plain_extend_loop _,key _ c0 _ hi hl (fun b o _ e=>e) hS⟩)
 refine wpAny_bind (wpAny_rule (wpAny_bind ?_))
 refine (show wpAny _ _ (updateSeq S (·.push .none) >>= fun _=>updateSeq S (·.pop)) _ _ _ from wpAny_bind (wpAny_updateSeq hS rfl ?_))
 (have hS₂:=Heap.get?_update_self (Obj.mapSeq (·.push Value.none)) hS rfl)
 (refine wpAny_updateSeq (hz:=by seq_fits) hS₂ rfl ?_)
 (have hS₃:=Heap.get?_update_self (Obj.mapSeq (·.pop)) hS₂ rfl)
 have oth:∀b o,b≠S->s.heap.get? b=some o->((s.heap.update S (Obj.mapSeq (·.push Value.none))).update S (Obj.mapSeq (·.pop))).get? b=some o:=fun b o hb e=>(Heap.get?_update_other _ _ (Ne.symm hb)).trans ((Heap.get?_update_other _ _ (Ne.symm hb)).trans e)
 exact wpAny_pure ⟨plainId_quiet F.plain_extend_loop _,key _ _ _ (hi.at fun o e=>oth _ o hSi.symm e) (let ⟨o,ho,r⟩:=hl;⟨o,oth _ o hSl.symm ho,r⟩) oth hS₃⟩
theorem list_rt {P:Program} {w:World} {A:Around} {E:Value->Shared->Prop} {s:Shared} {it l:Addr} {xs:Array Value} {Q:Value->Shared->Prop} (hh:A.handled=none) (hi:IsTRev s.heap it l ((xs.size:Int)-1)) (hl:IsTup s.heap l xs) (hz:xs.size<=sizeLine)
  (hQ:∀(g:Heap) (tk:Nat) (acc:Array Value) (c':Nat),(∀d o,d≠it->s.heap.get? d=some o->g.get? d=some o)->g.get? s.heap.objs.size=some {cls:= .type "list",dict:=none,data:= .seq acc c',slots:= #[]}->ItemsOf (fun i v=>xs[xs.size-1-i]? =some v) acc xs.size->Q (.ref s.heap.objs.size) {s with heap:=g,toks:=tk}):
  wpAny (model P w) A (call (.type "list") [.ref it]) Q E s:=by
 refine callType_codes (Q₁:=fun obj s₁=>obj= .ref s.heap.objs.size/\s₁={s with heap:=s.heap.push {cls:= .type "list",data:= .seq #[]} }) PySem.F.called_list (PySem.F.typeCall_list_1 _) PySem.F.entry_list_init (code_list_new _ ⟨rfl,rfl⟩) fun obj s₁ h₁=> ?_
 obtain⟨rfl,rfl⟩:=h₁
 (have hS:(s.heap.push {cls:= .type "list",data:= .seq #[]}).get? s.heap.objs.size=some {cls:= .type "list",data:= .seq #[]}:=Heap.get?_push_size _ rfl)
 refine⟨⟨_,hS,rfl⟩,PySem.F.args_list_init_2 _ _,?_⟩
 refine (show wpAny _ _ (do let old <-Builtin.List.listItems (.ref s.heap.objs.size);Builtin.List.listUpdate (.ref s.heap.objs.size) (fun _=> #[]);letGo old.toList.reverse;Builtin.List.listExtendWith (.ref s.heap.objs.size) (.ref it) .none) _ _ _ from wpAny_bind ?_)
 unfold Builtin.List.listItems
 (refine wpAny_bind (wpAny_seqItems hS rfl (wpAny_pure ?_)))
 refine (show wpAny _ _ (updateSeq s.heap.objs.size (fun _=> #[]) >>= fun _=>letGo (#[]:Array Value).toList.reverse >>= fun _=>Builtin.List.listExtendWith (.ref s.heap.objs.size) (.ref it) .none) _ _ _ from wpAny_bind (wpAny_updateSeq hS rfl ?_))
 (have hS₂:=Heap.get?_update_self (Obj.mapSeq (fun _=>(#[]:Array Value))) hS rfl)
 have oth:∀b o,s.heap.get? b=some o->((s.heap.push {cls:= .type "list",data:= .seq #[]}).update s.heap.objs.size (Obj.mapSeq (fun _=>(#[]:Array Value)))).get? b=some o:=
  fun b o e=>(Heap.get?_update_other _ _ (Nat.ne_of_gt (Heap.lt_size e))).trans (Heap.get?_push_of_some _ e)
 refine wpAny_bind (wpAny_letGo ?_)
 refine extend_rt (A:=A.in1) (s:={s with heap:=(s.heap.push {cls:= .type "list",data:= .seq #[]}).update s.heap.objs.size (Obj.mapSeq (fun _=>(#[]:Array Value)))}) hh (hi.at fun o e=>oth _ o e) (let ⟨o,ho,r⟩:=hl;⟨o,oth _ o ho,r⟩) hz .none _ hS₂ fun g tk acc c' kp hS' itm=> ?_
 exact⟨rfl,hQ g tk acc c' (fun d o h1 e=>kp d o (lJl (Heap.lt_size e)) h1 (oth _ _ e)) hS' itm⟩
section
variable {X:Cx}
noncomputable def tLRevT (ta:TA3):TE3:=fun τ G Q=>ta τ G fun vs G1=>∃xs,vs=[.tup xs]/\∀q,G1 q=none->Q (.ref q) (gup G1 q (.lst xs.reverse))
theorem e_lrevT {pos pos' p p':Pos} {a:Expr} {ta:TA3} (hc:X.calm=true) (hl:Gl X "list") (hlm:X.mg "list"=none) (hg:Gl X "reversed") (hm:X.mg "reversed"=none) (hv:bootBuiltins "reversed"=some (.type "reversed")) (ha:PA3 X [a] ta) (hs:starEach [a] X.env=[(false,eval a X.env)]:=by rfl)
  (hs':starEach [Expr.Call (.Name "reversed" p) [a] [] pos] X.env=[(false,eval (.Call (.Name "reversed" p) [a] [] pos) X.env)]:=by rfl):
  PE3 X (.Call (.Name "list" p') [.Call (.Name "reversed" p) [a] [] pos] [] pos') (tLRevT ta):=by
 intro pins s τ G H Q I h
 obtain⟨σ,I0,_,_⟩:=id I
 refine Call_ (jVm I0 hl hlm rfl (PyProof.Rows.callWith_type1 ?_ hs' rfl))
 rw[hs']
 refine Calls.spliced_cons (Call_ (jVm I0 hg hm hv (PyProof.Rows.callWith_type1 (thn (ha pos pins s τ G H _ I h) fun us s1 w_=>w_.el fun ys G1 H1 e1 i_ r_ q1=>i_.el fun σ1 I1 hs1 hg1=>r_.el fun as ras rvs=> ?_) hs rfl)))
 obtain⟨xs,e,q⟩:=q1
 subst e
 obtain⟨v,rfl,rv⟩:=jXj ras
 obtain⟨u,rfl,ru⟩:=rvs.one
 obtain⟨pa,vs,e,hq,r⟩:=(show ∃a vs,v= .ref a/\H1 a=some (.tup vs)/\Reps X.K H1 xs vs from rv)
 subst e
 cases ru
 obtain⟨its,rvv,pl,hz⟩:=I1.tuple (.of hq)
 have hlen:its.length=xs.length:=by have:=rvv.length;have:=r.length;omega
 have hvl:=rvv.length
 refine jXe pl (by simp;omega) fun t=>Calls.spliced_nil ?_
 obtain⟨ol,hol,hcl⟩:=id pl
 refine list_rt (s:={s1 with heap:=s1.heap.push (jV0 pa ((its.toArray.size:Int)-1)),toks:=t}) (it:=s1.heap.objs.size) (l:=pa) (xs:=its.toArray) (I1.ok.hd hc) ⟨_,Heap.get?_push_size _ rfl,rfl,rfl⟩ ⟨ol,Heap.get?_push_of_some _ hol,hcl⟩ (by simp;omega) fun g tk acc c' kp hn itm=> ?_
 have hacc:acc.toList=its.reverse:=by
  apply lKc
  intro i
  by_cases hi:i<its.length
  ·have hia:i<acc.size:=by rw[itm.1];simpa using hi
   have e1:acc.toList[i]? =some acc[i]:=by simp[hia]
   have e2:=itm.2 i acc[i] (by simp[hia])
   rw[e1,List.getElem?_reverse hi]
   simpa using e2.symm
  ·rw[lJh (by have:=itm.1;simp at this ⊢; omega),lJh (by simp;omega)]
 have hge:s1.heap.objs.size<=(s1.heap.push (jV0 pa ((its.toArray.size:Int)-1))).objs.size:=by rw[Heap.size_push];exact Nat.le_succ _
 have fr:=I1.hok.fresh hge
 have kp1:∀b o,s1.heap.get? b=some o->g.get? b=some o:=fun b o e=>kp b o (lJl (Heap.lt_size e)) (Heap.get?_push_of_some _ e)
 have I3:=I1.laid (a:=(s1.heap.push (jV0 pa ((its.toArray.size:Int)-1))).objs.size) (o:= .lst vs.reverse) (h':=g) (t':=tk) kp1 hge ⟨by simp;omega,acc.toList,c',by rw[hacc];exact rvv.reverse,by simpa using hn⟩
 have ext:Ext H1 (upd H1 (s1.heap.push (jV0 pa ((its.toArray.size:Int)-1))).objs.size (.lst vs.reverse)):= .upd (.none fr)
 exact⟨.ref _,_,_,e1.trans ext,⟨σ1,I3,hs1.mono ext,hg1.lstNew r.reverse (.none fr)⟩,⟨.ref _,rfl,rfl⟩,q _ (hg1.fresh fr)⟩
end
end L3
namespace PySem
open Sem (wp)
set_option maxRecDepth 100000
end PySem
namespace L3
open PySem PySem.Spec PyProof.Rows L2
section
variable {prog:Program} {w:World} {A:Around} {E:Value->Shared->Prop} {s:Shared}
end
section
variable {X:Cx}
end
section
variable {X:Cx}
noncomputable def jX8 (b:Int):List Int->Int
 | []=>b
 | x::xs=>jX8 (if x>b then x else b) xs
theorem mostB_snoc (xs:List Int):∀(b y:Int),jX8 b (xs++[y])=if y>jX8 b xs then y else jX8 b xs:=by
 induction xs with
 | nil=>intro b y;rfl
 | cons x xs ih=>intro b y;exact ih _ y
theorem mostB_le (xs:List Int):∀b,b<=jX8 b xs/\∀x∈xs,x<=jX8 b xs:=by
 induction xs with
 | nil=>intro b;exact⟨Int.le_refl b,fun x hx=>by cases hx⟩
 | cons x xs ih=>
  intro b
  obtain⟨h1,h2⟩:=ih (if x>b then x else b)
  have e:jX8 b (x::xs)=jX8 (if x>b then x else b) xs:=rfl
  rw[e]
  by_cases hx:x>b
  ·rw[if_pos hx] at h1 h2 ⊢
   refine⟨by omega,fun y hy=> ?_⟩
   rcases (lJn.mp hy) with rfl | z
   ·exact h1
   ·exact h2 y z
  ·rw[if_neg hx] at h1 h2 ⊢
   refine⟨h1,fun y hy=> ?_⟩
   rcases (lJn.mp hy) with rfl | z
   ·omega
   ·exact h2 y z
theorem mostB_mem (xs:List Int):∀b,jX8 b xs=b\/jX8 b xs∈xs:=by
 induction xs with
 | nil=>intro b;exact .inl rfl
 | cons x xs ih=>
  intro b
  have e:jX8 b (x::xs)=jX8 (if x>b then x else b) xs:=rfl
  rw[e]
  rcases ih (if x>b then x else b) with h | h
  ·rw[h]
   by_cases hx:x>b
   ·rw[if_pos hx];exact .inr lKe
   ·rw[if_neg hx];exact .inl rfl
  ·exact .inr (lJ1 _ h)
theorem argBest_most (f:Nat->Int):∀k,f (argBest (fun i j=>decide (f i>f j)) k)=jX8 (f 0) ((List.range k).map fun i=>f (i+1)):=by
 intro k
 induction k with
 | zero=>rfl
 | succ k ih=>
  rw[lKu,lJu,List.map_singleton,mostB_snoc,<-ih]
  simp only[argBest,decide_eq_true_eq]
  by_cases h:f (k+1)>f (argBest (fun i j=>decide (f i>f j)) k)
  ·rw[if_pos h,if_pos h]
  ·rw[if_neg h,if_neg h]
theorem call_maxL (hc:X.calm=true):kX1 X (.builtin "max") (fun xs H Q=>∃p i is,xs=[.ref p]/\SqL X.K H p ((i::is).map V.int)/\Q (.int (jX8 i is)) H):=by
 intro pins s σ H xs us Q I r h
 obtain⟨p,i,is,rfl,hx,q⟩:=h
 obtain⟨u,rfl,ru⟩:=vals1 r
 cases ru
 obtain⟨its,r',pl,hz⟩:=I.list hx
 obtain⟨ps,e1,e2⟩:=jVj r'
 subst e1
 have hne:0<ps.toArray.size:=by
  have:=congrArg List.length e2
  simp at this ⊢; omega
 have eI:(ps.map (fun p=>Value.int p.1 p.2)).toArray=intItems ps.toArray:=by simp[intItems]
 refine max_intList (xs:=ps.toArray) (I.ok.hd hc) (eI▸pl.isList) hne fun v h' tk hv k=> ?_
 obtain⟨t,rfl⟩:=(intItems_at hv)
 have hl:ps.toArray.size-1=is.length:=by
  have:=congrArg List.length e2
  simp at this ⊢; omega
 have hn:∀j,numAt ps.toArray j=((i::is)[j]?).getD 0:=fun j=>by rw[<-e2];simp[numAt]
 refine⟨.int (jX8 i is),H,I.kept k,?_,q⟩
 refine⟨t,?_⟩
 rw[argBest_most (numAt ps.toArray),hl]
 have a0:numAt ps.toArray 0=i:=by rw[hn];rfl
 have a1:((List.range is.length).map fun j=>numAt ps.toArray (j+1))=is:=by
  apply lKc ; intro j
  rw[lJj]
  by_cases hj:j<is.length
  ·rw[lQa hj,Option.map_some,hn,List.getElem?_cons_succ,lJc hj];rfl
  ·rw[lJh (by simpa using hj),lJh (by simpa using hj)];rfl
 rw[a0,a1]
noncomputable def rMaxL:List T->Gp->VK3->Prop:=fun xs G Q=>∃p i is,xs=[.ref p]/\G p=some (.lst ((i::is).map T.int))/\Q (.int (jX8 i is)) G
theorem c_maxL (hc:X.calm=true):Call3 X (.builtin "max") rMaxL:=
 Call3.of (call_maxL hc) fun H G xs as Q hg ra ⟨p,i,is,e,hG,q⟩=>by
  subst e
  obtain⟨v,rfl,rv⟩:=jXj ra
  cases (show v= .ref p from rv)
  obtain⟨vs,h1,h2⟩:=hg.lst hG
  have e:=jUk h2
  subst e
  exact⟨p,i,is,rfl,.of h1,.int _,G,.refl H,hg,rfl,q⟩
end
end L3
namespace L3
open PySem PySem.Spec PyProof.Rows L2 PySem.W
section
variable {prog:Program} {w:World} {A:Around} {E:Value->Shared->Prop} {s:Shared}
end
section
variable {w:World} {prog:Program}
section
variable {A:Around} {R:Result->Shared->Prop} {I:Addr} {fp:List Addr} {G:Array GenState->Array GenState->Prop} {n:Nat} {P:Nat->Value->Prop} {St:Nat->Shared->Prop}
end
section
variable {E:Value->Shared->Prop} {s:Shared} {A:Around}
end
end
section
variable {prog:Program} {w:World} {A:Around} {E:Value->Shared->Prop} {s:Shared}
end
section
variable {prog:Program} {w:World} {A:Around} {E:Value->Shared->Prop} {s:Shared}
end
section
variable {X:Cx}
end
end L3
namespace PySem
open Sem (wp)
set_option maxRecDepth 100000
namespace F
theorem dz_entry_ga:entryFor table "zip.__getattribute__"=some Builtin.«object.__getattribute__» :=
 entryFor_alias (id':="object.__getattribute__") (by kernel_rfl) (by first | rfl | decide +kernel) (by decide +kernel) (by kernel_rfl)
theorem dz_keys:typeLookup (.type "zip") "keys"=pure none:=by rw[typeLookup_type,builtinLookup_eq_fast];kernel_rfl
theorem dz_getattr:typeLookup (.type "zip") "__getattr__"=pure none:=by rw[typeLookup_type,builtinLookup_eq_fast];kernel_rfl
end F
theorem dz_miss (a:Addr) (vs:Array Value) (u:Tok):
  Meets (Builtin.«object.__getattribute__» ⟨[.ref a,.str "keys" u],[]⟩) (fun A R s=>s.heap.get? a=some {cls:= .type "zip",dict:=none,data:= .fields vs,slots:= #[]}/\raisesAttr (.ref a) "keys" A R s):=
 Meets.of_wp fun prog w A R s hs=>by
  (obtain⟨hp,g,d,tk,os⟩:=s)
  obtain⟨hx,hs⟩:=hs
  have hT:(⟨hp,g,d,tk,os⟩:Shared).TypeIs (.ref a) "zip":=⟨_,hx,rfl⟩
  have f4:=F.dz_keys
  (repeat (any_goals (first | assumption | wp_step)))
  exact wpAny_raiseAttrError hs.1 hs.2 (attrMsg_fits (by decide +kernel) (by show 4+100<=sizeLine;rw[sizeLine_eq];decide))
theorem dz_nokeys {prog:Program} {w:World} {A:Around} {E:Value->Shared->Prop} {s:Shared} {a:Addr} {vs:Array Value} {Q:Option Value->Shared->Prop} (hA:A.handled=none) (hx:s.heap.get? a=some {cls:= .type "zip",dict:=none,data:= .fields vs,slots:= #[]})
  (h:∀h' tk,(∀b o,s.heap.get? b=some o->h'.get? b=some o)->Q none {s with heap:=h',toks:=tk}):wpAny (model prog w) A (getAttr? (.ref a) "keys") Q E s:=by
 (obtain⟨hp,g,d,tk,os⟩:=s)
 have hT:∀tk',(⟨hp,g,d,tk',os⟩:Shared).TypeIs (.ref a) "zip":=fun _=>⟨_,hx,rfl⟩
 have f1:=sub_AttributeError
 have f3:=F.slot_zip_getattribute.lookup
 have f4:=F.slot_zip_getattribute.bind (.ref a)
 have f5:=F.dz_getattr
 unfold getAttr? getAttrBy?
 (refine wpAny_bind (wpAny_mkText ?_))
 (refine wpAny_bind (wpAny_attempt ?_))
 unfold getAttrBy
 repeat (any_goals (first | assumption | exact hT _ | ((with_reducible show wpAny _ _ (call (Value.builtin "zip.__getattribute__") _ _) _ _ _);refine call_meets F.slot_zip_getattribute (hT _) F.dz_entry_ga (F.args_zip_getattribute_2 _ _) (dz_miss a vs _) ⟨hx,hA,fun h' tk' e hx'=> ?_⟩) | wp_step))
 (obtain⟨t',u',he⟩:=hx'.there)
 refine (show wpAny _ _ (getattributeRaised _ _ _ _ _ _ _) _ _ _ from ?_)
 unfold getattributeRaised
 (repeat (any_goals (first | assumption | wp_step)))
 exact h _ _ hx'.keeps
end PySem
namespace L3
open PySem PySem.Spec PyProof.Rows L2 PySem.W
section
variable {prog:Program} {w:World} {A:Around} {E:Value->Shared->Prop} {s:Shared}
theorem alive_ok {M:Model} {a:Addr} {o:Obj} {Q:Option Obj->Shared->Prop} (ho:s.heap.get? a=some o) (h:Q (some o) s):wpAny M A (loadIfAlive a) Q E s:=by
 intro Γ p _
 unfold loadIfAlive
 rw[Sem.wp_loadIfAlive,ho]
 exact h
def ZipM (h:Heap) (z TI TO T:Addr) (b:Bool):Prop:=h.get? z=some {cls:= .type "zip",dict:=none,data:= .fields #[rawInt T,.bool b,.bool false,.ref TI,.ref TO],slots:= #[]}
theorem zipM_flag {z TI TO T:Addr} {bb:Bool} {K:Bool->Shared->Prop} (hz:ZipM s.heap z TI TO T bb) (k:∀h0,ZipM h0 z TI TO T true->Heap.SameBut z s.heap h0->K false {s with heap:=h0}):
  wpAny (model prog w) A (if (Value.bool bb != Value.bool true)=true then do setField (.ref z) 1 (.bool true);pure false else pure false) K E s:=by
 cases bb with
 | true=>exact wpAny_pure (k s.heap hz (.refl _ _))
 | false=>exact wpAny_bind (wpAny_setField_rec hz (by simp) fun h0 hz0 sb=>wpAny_pure (k h0 hz0 sb))
theorem kU4 {z TI TO i1 i2 l1 l2 T:Addr} {oT:Obj} {bb:Bool} {k1 k2:Nat} {xs ys:Array Value} {x y:Value} {Q:Value->Shared->Prop} (D:ZipApart z TI TO i1 i2 l1 l2)
  (hz:ZipM s.heap z TI TO T bb) (hT:s.heap.get? T=some oT) (hTI:IsPair s.heap TI (.ref i1) (.ref i2))
  (h1:s.heap.IsListIter i1 l1 k1) (h2:s.heap.IsListIter i2 l2 k2) (hl1:s.heap.IsList l1 xs) (hl2:s.heap.IsList l2 ys) (hx:xs[k1]? =some x) (hy:ys[k2]? =some y)
  (hQ:∀h',ZipM h' z TI TO T true->h'.IsListIter i1 l1 (k1+1)->h'.IsListIter i2 l2 (k2+1)->IsPair h' s.heap.objs.size x y->h'.objs.size=s.heap.objs.size+1->
   (∀c o,c≠z->c≠i1->c≠i2->s.heap.get? c=some o->h'.get? c=some o)->Q (.ref s.heap.objs.size) {s with heap:=h'}):wpAny (model prog w) A (Builtin.«zip.__next__» ⟨[.ref z],[]⟩) (fun fin s'=>∃v,fin= .done (.ret v)/\Q v s') E s:=by
 refine (show wpAny _ _ (field (.ref z) 2 >>= _) _ _ _ from ?_)
 (refine wpAny_bind (wpAny_field hz rfl (x:= .bool false) rfl ?_))
 refine (show wpAny _ _ (field (.ref z) 3 >>= _) _ _ _ from ?_)
 (refine wpAny_bind (wpAny_field hz rfl (x:= .ref TI) rfl ?_))
 (refine wpAny_bind (wpAny_seqItems hTI rfl ?_))
 refine (show wpAny _ _ (Builtin.SmallTypes.ownedTupleIsFree (.ref z) >>= _) _ _ _ from ?_)
 refine wpAny_bind ?_
 (unfold Builtin.SmallTypes.ownedTupleIsFree)
 refine wpAny_bind (wpAny_field hz rfl (x:=rawInt T) rfl ?_)
 refine (show wpAny _ _ (loadIfAlive T >>= _) _ _ _ from ?_)
 refine wpAny_bind (alive_ok hT ?_)
 (simp only[Option.isNone_some,lKd,if_false])
 refine wpAny_bind (wpAny_field hz rfl (x:= .bool bb) rfl ?_)
 refine zipM_flag hz fun h0 hz0 sb=> ?_
 (simp only[lKd,if_false])
 refine wpAny_bind ?_
 rw[<-Array.forIn_toList]
 (simp only[List.forIn_cons,List.forIn_nil])
 refine wpAny_bind (wpAny_bind (wpAny_holding ?_))
 refine (show wpAny _ _ (Builtin.SmallTypes.nextOf (.ref i1) >>= _) _ _ _ from ?_)
 refine wpAny_bind (wpAny_nextOf_list_item (s:={s with heap:=h0}) (h1.extBut sb.extBut D.i1z) (hl1.extBut sb.extBut D.l1z) hx fun h₂ h1₂ hs₂=>wpAny_pure (wpAny_pure ?_))
 dsimp only
 refine wpAny_bind (wpAny_bind (wpAny_holding ?_))
 refine (show wpAny _ _ (Builtin.SmallTypes.nextOf (.ref i2) >>= _) _ _ _ from ?_)
 refine wpAny_bind (wpAny_nextOf_list_item (s:={s with heap:=h₂ }) ((h2.extBut sb.extBut D.i2z).extBut hs₂.extBut D.i12.symm) ((hl2.extBut sb.extBut D.l2z).extBut hs₂.extBut D.l2i1) hy fun h₄ h2₄ hs₄=>wpAny_pure (wpAny_pure ?_))
 dsimp only
 refine wpAny_pure ?_
 dsimp only
 refine wpAny_bind (wpAny_newTuple ?_ (by show 2<=sizeLine;decide))
 have sz:h₄.objs.size=s.heap.objs.size:=by rw[hs₄.1,hs₂.1,sb.1]
 have kp:∀c o,c≠z->c≠i1->c≠i2->s.heap.get? c=some o->h₄.get? c=some o:=fun c o c1 c2 c3 e=>hs₄.extBut _ _ c3 (hs₂.extBut _ _ c2 (sb.extBut _ _ c1 e))
 (refine wpAny_pure ⟨_,rfl,?_⟩)
 show Q (.ref h₄.objs.size) _
 rw[sz]
 refine hQ _ (Heap.get?_push_of_some _ (hs₄.extBut _ _ D.i2z.symm (hs₂.extBut _ _ D.i1z.symm hz0))) ((h1₂.extBut hs₄.extBut D.i12).at fun o e=>Heap.get?_push_of_some _ e) (h2₄.at fun o e=>Heap.get?_push_of_some _ e) (by rw[<-sz];exact Heap.get?_push_size _ rfl) (by rw[Heap.size_push,sz]) fun c o c1 c2 c3 e=>Heap.get?_push_of_some _ (kp c o c1 c2 c3 e)
theorem zip_more_end {z TI TO i1 i2 l1 l2 T:Addr} {oT:Obj} {bb:Bool} {k1:Nat} {xs:Array Value} {Q:PySem.Fin->Shared->Prop} (hh:A.handled=none) (D:ZipApart z TI TO i1 i2 l1 l2)
  (hz:ZipM s.heap z TI TO T bb) (hT:s.heap.get? T=some oT) (hTI:IsPair s.heap TI (.ref i1) (.ref i2))
  (h1:s.heap.IsListIter i1 l1 k1) (hl1:s.heap.IsList l1 xs) (hx:xs[k1]? =none)
  (hE:∀h' e,(∀c o,c≠z->c≠i1->s.heap.get? c=some o->h'.get? c=some o)->(∃o,h'.get? e=some o/\o.cls= .type "StopIteration")->E (.ref e) {s with heap:=h'}):wpAny (model prog w) A (Builtin.«zip.__next__» ⟨[.ref z],[]⟩) Q E s:=by
 refine (show wpAny _ _ (field (.ref z) 2 >>= _) _ _ _ from ?_)
 (refine wpAny_bind (wpAny_field hz rfl (x:= .bool false) rfl ?_))
 refine (show wpAny _ _ (field (.ref z) 3 >>= _) _ _ _ from ?_)
 (refine wpAny_bind (wpAny_field hz rfl (x:= .ref TI) rfl ?_))
 (refine wpAny_bind (wpAny_seqItems hTI rfl ?_))
 refine (show wpAny _ _ (Builtin.SmallTypes.ownedTupleIsFree (.ref z) >>= _) _ _ _ from ?_)
 refine wpAny_bind ?_
 (unfold Builtin.SmallTypes.ownedTupleIsFree)
 refine wpAny_bind (wpAny_field hz rfl (x:=rawInt T) rfl ?_)
 refine (show wpAny _ _ (loadIfAlive T >>= _) _ _ _ from ?_)
 refine wpAny_bind (alive_ok hT ?_)
 (simp only[Option.isNone_some,lKd,if_false])
 refine wpAny_bind (wpAny_field hz rfl (x:= .bool bb) rfl ?_)
 refine zipM_flag hz fun h0 hz0 sb=> ?_
 (simp only[lKd,if_false])
 refine wpAny_bind ?_
 rw[<-Array.forIn_toList]
 (simp only[List.forIn_cons,List.forIn_nil])
 refine wpAny_bind (wpAny_bind (wpAny_holding ?_))
 refine (show wpAny _ _ (Builtin.SmallTypes.nextOf (.ref i1) >>= _) _ _ _ from ?_)
 refine wpAny_bind (wpAny_nextOf_list_end (s:={s with heap:=h0}) hh (h1.extBut sb.extBut D.i1z) (hl1.extBut sb.extBut D.l1z) hx fun h₂ e hs₂ he=> ?_)
 exact hE h₂ e (fun c o c1 c2 q=>hs₂ _ _ c2 (sb.extBut _ _ c1 q)) he
theorem kJr {z TI TO i1 i2 l1 l2 T:Addr} {oT:Obj} {bb:Bool} {k1 k2:Nat} {xs ys:Array Value} {x y:Value} {Q:Option Value->Shared->Prop} (D:ZipApart z TI TO i1 i2 l1 l2)
  (hz:ZipM s.heap z TI TO T bb) (hT:s.heap.get? T=some oT) (hTI:IsPair s.heap TI (.ref i1) (.ref i2))
  (h1:s.heap.IsListIter i1 l1 k1) (h2:s.heap.IsListIter i2 l2 k2) (hl1:s.heap.IsList l1 xs) (hl2:s.heap.IsList l2 ys) (hx:xs[k1]? =some x) (hy:ys[k2]? =some y)
  (hQ:∀h',ZipM h' z TI TO T true->h'.IsListIter i1 l1 (k1+1)->h'.IsListIter i2 l2 (k2+1)->IsPair h' s.heap.objs.size x y->
   (∀c o,c≠z->c≠i1->c≠i2->s.heap.get? c=some o->h'.get? c=some o)->Q (some (.ref s.heap.objs.size)) {s with heap:=h'}):wpAny (model prog w) A (pyNext (.ref z)) Q E s:=by
 have hTy:s.TypeIs (.ref z) "zip":=⟨_,hz,rfl⟩
 unfold pyNext
 exact wpAny_bind (wpAny_attempt (wpAny_callSpecial?_slot (name:=Str.ofString "__next__") hTy PySem.F.slot_zip_next
  (wpAny_call_entry PySem.F.slot_zip_next hTy PySem.F.entry_zip_next
   (kU4 D hz hT hTI h1 h2 hl1 hl2 hx hy fun h' a1 a2 a3 a4 _ a5=>wpAny_pure (hQ h' a1 a2 a3 a4 a5)) (PySem.F.args_zip_next_1 _))))
theorem kKo {z TI TO i1 i2 l1 l2 T:Addr} {oT:Obj} {bb:Bool} {k1:Nat} {xs:Array Value} {Q:Option Value->Shared->Prop} (hh:A.handled=none) (D:ZipApart z TI TO i1 i2 l1 l2)
  (hz:ZipM s.heap z TI TO T bb) (hT:s.heap.get? T=some oT) (hTI:IsPair s.heap TI (.ref i1) (.ref i2))
  (h1:s.heap.IsListIter i1 l1 k1) (hl1:s.heap.IsList l1 xs) (hx:xs[k1]? =none)
  (hQ:∀h',(∀c o,c≠z->c≠i1->s.heap.get? c=some o->h'.get? c=some o)->Q none {s with heap:=h'}):wpAny (model prog w) A (pyNext (.ref z)) Q E s:=by
 have hTy:s.TypeIs (.ref z) "zip":=⟨_,hz,rfl⟩
 unfold pyNext
 refine wpAny_bind (wpAny_attempt (wpAny_callSpecial?_slot (name:=Str.ofString "__next__") hTy PySem.F.slot_zip_next
  (wpAny_call_entry PySem.F.slot_zip_next hTy PySem.F.entry_zip_next (zip_more_end hh D hz hT hTI h1 hl1 hx fun h' e hk he=> ?_) (PySem.F.args_zip_next_1 _))))
 obtain⟨o,ho,hc⟩:=he
 (refine wpAny_bind (wpAny_isInstance (T:="StopIteration") (b:=true) ⟨o,ho,hc⟩ isSubtype_stop ?_))
 exact wpAny_pure (hQ _ hk)
theorem kXu:entryFor table "dict.update.loop"=some Builtin.«dict.update.loop» :=entryFor_of_tree (by kernel_rfl)
theorem jYq:plainId "dict.update.loop"=true:=by decide +kernel
theorem dz_pair {p:Addr} {x y:Value} {Q:List Value->Shared->Prop} (hp:IsPair s.heap p x y) (k:Q [x,y] s):wpAny (model prog w) A (Builtin.Dict.pairItems (.ref p)) Q E s:=by
 have hT:s.TypeIs (.ref p) "tuple":=⟨_,hp,rfl⟩
 unfold Builtin.Dict.pairItems
 (refine wpAny_bind (wpAny_typeOf hT ?_))
 rw[if_pos (by decide)]
 exact wpAny_bind (wpAny_seqItems hp rfl (wpAny_pure k))
theorem kUh {kvs:List (Key×Value)} {i:Int} {y:Value} (h:(Sum.inl i:Key)∉kvs.map (·.1)):stored kvs (.inl i) y=kvs++[(.inl i,y)]:=by
 unfold stored
 rw[if_neg]
 intro z
 obtain⟨x,hx,e⟩:=List.any_eq_true.mp z
 exact h (lJp.mpr ⟨x,hx,of_decide_eq_true e⟩)
structure DzAt (s:Shared) (z TI TO i1 i2 l1 l2 T d:Addr) (xs ys:Array Value) (i:Nat):Prop where
 zip:∃bb,ZipM s.heap z TI TO T bb
 own:∃o,s.heap.get? T=some o/\o.cls= .type "tuple"
 TI_:IsPair s.heap TI (.ref i1) (.ref i2)
 it1:s.heap.IsListIter i1 l1 i
 it2:s.heap.IsListIter i2 l2 i
 li1:s.heap.IsList l1 xs
 li2:s.heap.IsList l2 ys
theorem DzAt.moved {s:Shared} {z TI TO i1 i2 l1 l2 T d:Addr} {xs ys:Array Value} {i:Nat} {h':Heap} {t':Nat} (a:DzAt s z TI TO i1 i2 l1 l2 T d xs ys i) (kp:∀b o,b≠d->s.heap.get? b=some o->h'.get? b=some o) (dz:d≠z) (dT:d≠TI) (d1:d≠i1) (d2:d≠i2) (e1:d≠l1) (e2:d≠l2) (hd:s.TypeIs (.ref d) "dict"):
  DzAt {s with heap:=h',toks:=t'} z TI TO i1 i2 l1 l2 T d xs ys i:=by
 obtain⟨⟨bb,hz⟩,⟨o,ho,hc⟩,a1,a2,a3,a4,a5⟩:=a
 have dt:T≠d:=by
  rintro rfl
  obtain⟨o',ho',hc'⟩:=hd
  rw[ho] at ho';cases ho'
  rw[hc] at hc'
  exact absurd hc' (by decide)
 exact⟨⟨bb,kp _ _ dz.symm hz⟩,⟨o,kp _ _ dt ho,hc⟩,kp _ _ dT.symm a1,a2.at fun o e=>kp _ o d1.symm e,a3.at fun o e=>kp _ o d2.symm e,a4.at fun o e=>kp _ o e1.symm e,a5.at fun o e=>kp _ o e2.symm e⟩
theorem dz_loop {R:Result->Shared->Prop} {z TI TO i1 i2 l1 l2 T d:Addr} {xs ys:Array Value} (hh:A.handled=none) (D:ZipApart z TI TO i1 i2 l1 l2) (dz:d≠z) (dT:d≠TI) (d1:d≠i1) (d2:d≠i2) (e1:d≠l1) (e2:d≠l2)
  {ps:List (Int×Tok)} {vs:List Value} (hx:xs.toList=ps.map fun p=> .int p.1 p.2) (hy:ys.toList=vs) (hl:ps.length=vs.length) (hn:(ps.map (·.1)).Nodup) (hs:ps.length<=sizeLine):
  ∀(k i:Nat) (s:Shared) (j:Int) (jt:Tok),ps.length-i=k->i<=ps.length->DzAt s z TI TO i1 i2 l1 l2 T d xs ys i->s.heap.DictOf (jKo prog w) d (((ps.map fun p=>(Sum.inl p.1:Key)).zip vs).take i)->
   (∀h' t',h'.DictOf (jKo prog w) d ((ps.map fun p=>(Sum.inl p.1:Key)).zip vs)->(∀b o,b≠d->b≠z->b≠i1->b≠i2->s.heap.get? b=some o->h'.get? b=some o)->R (.ok (.ret .none)) {s with heap:=h',toks:=t'})->
   codeAny (model prog w) A (.builtin "dict.update.loop" ⟨[.ref d,.ref z,.int j jt,.none],[]⟩) R s:=by
 have zl:((ps.map fun p=>(Sum.inl p.1:Key)).zip vs).length=ps.length:=by simp[hl]
 intro k
 induction k with
 | zero=>
  intro i s j jt hk hi a hd hR
  have hin:i=ps.length:=by omega
  subst hin
  obtain⟨⟨bb,hz⟩,⟨o,ho,hc⟩,a1,a2,a3,a4,a5⟩:=a
  refine codeAny_builtin kXu ?_
  rw[Around.under_plainId jYq _]
  refine (show wpAny _ A.in1 (pyNext (.ref z) >>= _) _ _ s from ?_)
  refine wpAny_bind (kKo (A:=A.in1) (by simpa using hh) D hz ho a1 a2 a4 (by rw[<-lQi,hx];simp) fun h' kp=> ?_)
  refine (show wpAny _ A.in1 (Builtin.Dict.addKeywords d [] >>= _) _ _ _ from wpAny_bind (wpAny_pure (wpAny_pure ?_)))
  rw[<-zl,lKf] at hd
  have hd':h'.DictOf (jKo prog w) d ((ps.map fun p=>(Sum.inl p.1:Key)).zip vs):=by
   obtain⟨o',es,ep,ho',r⟩:=hd
   exact⟨o',es,ep,kp d o' dz d1 ho',r⟩
  exact hR h' s.toks hd' fun b o _ c1 c2 _ e=>kp b o c1 c2 e
 | succ k ih=>
  intro i s j jt hk hi a hd hR
  have hlt:i<ps.length:=by omega
  have a0:=a
  obtain⟨⟨bb,hz⟩,⟨o,ho,hc⟩,a1,a2,a3,a4,a5⟩:=a
  have gx:xs[i]? =some (.int ps[i].1 ps[i].2):=by rw[<-lQi,hx,lJj,lJc hlt];rfl
  have gy:ys[i]? =some (vs[i]'(by omega)):=by rw[<-lQi,hy,lJc (by omega)]
  refine codeAny_builtin kXu ?_
  rw[Around.under_plainId jYq _]
  refine (show wpAny _ A.in1 (pyNext (.ref z) >>= _) _ _ s from ?_)
  refine wpAny_bind (kJr (A:=A.in1) D hz ho a1 a2 a3 a4 a5 gx gy fun h' hz' b1 b2 hp kp=> ?_)
  have hd':h'.DictOf (jKo prog w) d (((ps.map fun p=>(Sum.inl p.1:Key)).zip vs).take i):=by
   obtain⟨o',es,ep,ho',r⟩:=hd
   exact⟨o',es,ep,kp d o' dz d1 d2 ho',r⟩
  have a':DzAt {s with heap:=h'} z TI TO i1 i2 l1 l2 T d xs ys (i+1):=⟨⟨_,hz'⟩,⟨o,kp _ _ ?_ ?_ ?_ ho,hc⟩,kp _ _ D.TIz D.TIi1 D.TIi2 a1,b1,b2,a4.at fun o e=>kp _ o D.l1z D.l1i1 D.l1i2 e,a5.at fun o e=>kp _ o D.l2z D.l2i1 D.l2i2 e⟩
  rotate_left
  ·rintro rfl;rw[show s.heap.get? T=_ from hz] at ho;cases ho;exact absurd (show Value.type "zip"=Value.type "tuple" from hc) (by decide)
  ·rintro rfl;obtain⟨q,e,c,_⟩:=a2;rw[ho] at e;cases e;rw[hc] at c;exact absurd c (by decide)
  ·rintro rfl;obtain⟨q,e,c,_⟩:=a3;rw[ho] at e;cases e;rw[hc] at c;exact absurd c (by decide)
  have nk:(Sum.inl ps[i].1:Key)∉(((ps.map fun p=>(Sum.inl p.1:Key)).zip vs).take i).map (·.1):=by
   rw[List.map_take,List.map_fst_zip (by simp[hl])]
   intro z
   obtain⟨m,hm,e⟩:=List.getElem_of_mem z
   rw[lKk] at hm
   have hm':m<ps.length:=by simp at hm;omega
   rw[List.getElem_take,List.getElem_map] at e
   have e':ps[m].1=ps[i].1:=Sum.inl.inj e
   have:=(List.getElem_inj (i:=m) (j:=i) (h₀:=by simpa using hm') (h₁:=by simpa using hlt) hn).mp (by simpa using e')
   simp at hm;omega
  have tk1:((ps.map fun p=>(Sum.inl p.1:Key)).zip vs).take i++[(.inl ps[i].1,vs[i]'(by omega))]=((ps.map fun p=>(Sum.inl p.1:Key)).zip vs).take (i+1):=by
   rw[lKa,lJc (by rw[zl];exact hlt),List.getElem_zip,List.getElem_map];rfl
  refine wpAny_bind (wpAny_holding (wpAny_bind (wpAny_tryCatch (dz_pair (s:={s with heap:=h'}) hp (wpAny_holding (wpAny_dictSet_pairs (s:={s with heap:=h'}) (jY2 prog w _ _) hd' (fun h2 hd2 sb=> ?_) (by rw[lKk];omega)))))))
  rw[kUh nk,tk1] at hd2
  refine wpAny_pure ⟨plainId_quiet jYq _,ih (i+1) _ _ _ (by omega) hlt (a'.moved (h':=h2) (fun b o hb e=>(sb.2 b hb).trans e) dz dT d1 d2 e1 e2 hd'.typeIs) hd2 fun h3 t3 hd3 kp3=>hR h3 t3 hd3 fun b o c1 c2 c3 c4 e=>kp3 b o c1 c2 c3 c4 ((sb.2 b c1).trans (kp b o c2 c3 c4 e))⟩
theorem dz_call {z TI TO i1 i2 l1 l2:Addr} {xs ys:Array Value} {a0 b0:Value} (hh:A.handled=none) (D:ZipApart z TI TO i1 i2 l1 l2)
  (hz:IsZip s.heap z TI TO .none) (hTI:IsPair s.heap TI (.ref i1) (.ref i2)) (hTO:IsPair s.heap TO a0 b0) (h1:s.heap.IsListIter i1 l1 0) (h2:s.heap.IsListIter i2 l2 0) (hl1:s.heap.IsList l1 xs) (hl2:s.heap.IsList l2 ys)
  {ps:List (Int×Tok)} {vs:List Value} (hx:xs.toList=ps.map fun p=> .int p.1 p.2) (hy:ys.toList=vs) (hl:ps.length=vs.length) (hn:(ps.map (·.1)).Nodup) (hs:ps.length<=sizeLine) (hp:1<=ps.length) {Q:Value->Shared->Prop}
  (k:∀h' t',h'.DictOf (jKo prog w) s.heap.objs.size ((ps.map fun p=>(Sum.inl p.1:Key)).zip vs)->(∀b o,b≠z->b≠TO->b≠i1->b≠i2->s.heap.get? b=some o->h'.get? b=some o)->Q (.ref s.heap.objs.size) {s with heap:=h',toks:=t'}):
  wpAny (model prog w) A (call (.type "dict") [.ref z]) Q E s:=by
 refine callType_codes (Q₁:=fun obj s₁=>obj= .ref s.heap.objs.size/\s₁={s with heap:=s.heap.push {cls:= .type "dict",data:= .dict #[]} }) PySem.F.kt_called_dict (PySem.F.kt_typeCall_dict_1 _) PySem.F.entry_dict_init (kt_code_dict_new _ ⟨rfl,rfl⟩) ?_
 rintro obj s₁ ⟨rfl,rfl⟩
 have hnew:(s.heap.push {cls:= .type "dict",data:= .dict #[]}).DictOf (jKo prog w) s.heap.objs.size []:=Heap.DictOf.new s.heap
 refine⟨hnew.typeIs,PySem.F.args_dict_init_2 _ _,?_⟩
 (unfold Builtin.«dict.__init__»)
 refine wpAny_bind ?_
 (unfold Builtin.Dict.selfAndRest)
 (refine wpAny_bind (wpAny_notOrdered_dict hnew.typeIs ?_))
 refine (show wpAny _ _ (pure (s.heap.objs.size,[Value.ref z])) _ _ _ from ?_)
 refine wpAny_pure ?_
 refine (show wpAny _ _ (Builtin.Dict.updateFrom "dict.__init__" s.heap.objs.size (.ref z) [] .none) _ _ _ from ?_)
 (unfold Builtin.Dict.updateFrom)
 have up:∀b o,s.heap.get? b=some o->(s.heap.push {cls:= .type "dict",data:= .dict #[]}).get? b=some o:=fun b o e=>Heap.get?_push_of_some _ e
 have hz0:=up _ _ hz
 have hTz:Shared.TypeIs {s with heap:=s.heap.push {cls:= .type "dict",data:= .dict #[]} } (.ref z) "zip":=⟨_,hz0,rfl⟩
 refine wpAny_bind (wpAny_typeOf hTz ?_)
 rw[if_pos (by decide)]
 refine wpAny_bind (dz_nokeys (s:={s with heap:=s.heap.push {cls:= .type "dict",data:= .dict #[]} }) (by simpa using hh) hz0 fun g tk kp=> ?_)
 simp only[Option.isNone_none,if_true]
 refine wpAny_bind (wpAny_rule ?_)
 have kp':∀b o,s.heap.get? b=some o->g.get? b=some o:=fun b o e=>kp b o (up b o e)
 refine wpAny_bind (wpAny_pyIter_zip (s:={s with heap:=g,toks:=tk}) (kp' _ _ hz) ?_)
 have hd0:g.DictOf (jKo prog w) s.heap.objs.size []:=by
  obtain⟨o',es,ep,ho',r⟩:=hnew
  exact⟨o',es,ep,kp _ o' ho',r⟩
 have lt:∀ {b:Addr} {o:Obj},s.heap.get? b=some o->s.heap.objs.size≠b:=fun e=>Nat.ne_of_gt (Heap.lt_size e)
 have n1:s.heap.objs.size≠i1:=by obtain⟨o,e,_⟩:=h1;exact lt e
 have n2:s.heap.objs.size≠i2:=by obtain⟨o,e,_⟩:=h2;exact lt e
 have m1:s.heap.objs.size≠l1:=by obtain⟨o,e,_⟩:=hl1;exact lt e
 have m2:s.heap.objs.size≠l2:=by obtain⟨o,e,_⟩:=hl2;exact lt e
 have hlt:0<ps.length:=hp
 have gx:xs[0]? =some (.int ps[0].1 ps[0].2):=by rw[<-lQi,hx,lJj,lJc hlt];rfl
 have gy:ys[0]? =some (vs[0]'(by omega)):=by rw[<-lQi,hy,lJc (by omega)]
 refine wpAny_pure ⟨plainId_quiet jYq _,codeAny_builtin kXu ?_⟩
 rw[Around.under_plainId jYq _]
 refine (show wpAny _ A.in1.in1 (pyNext (.ref z) >>= _) _ _ {s with heap:=g,toks:=tk} from ?_)
 refine wpAny_bind (wpAny_pyNext_zip_item (s:={s with heap:=g,toks:=tk}) D (kp' _ _ hz) (kp' _ _ hTI) (kp' _ _ hTO) (h1.at fun o e=>kp' _ o e) (h2.at fun o e=>kp' _ o e) (hl1.at fun o e=>kp' _ o e) (hl2.at fun o e=>kp' _ o e) gx gy fun h' hz' _ b1 b2 hpr hsz kp2=> ?_)
 have hd':h'.DictOf (jKo prog w) s.heap.objs.size []:=by
  obtain⟨o',es,ep,ho',r⟩:=hd0
  exact⟨o',es,ep,kp2 _ o' (lt hz) (lt hTO) n1 n2 ho',r⟩
 refine wpAny_bind (wpAny_holding (wpAny_bind (wpAny_tryCatch (dz_pair (s:={s with heap:=h',toks:=tk}) hpr (wpAny_holding (wpAny_dictSet_pairs (s:={s with heap:=h',toks:=tk}) (jY2 prog w _ _) hd' (fun h3 hd3 sb=> ?_) (by simp)))))))
 have a':DzAt {s with heap:=h',toks:=tk} z TI TO i1 i2 l1 l2 g.objs.size s.heap.objs.size xs ys 1:=⟨⟨_,hz'⟩,⟨_,hpr,rfl⟩,kp2 _ _ D.TIz D.TITO D.TIi1 D.TIi2 (kp' _ _ hTI),b1,b2,hl1.at fun o e=>kp2 _ o D.l1z D.l1TO D.l1i1 D.l1i2 (kp' _ o e),hl2.at fun o e=>kp2 _ o D.l2z D.l2TO D.l2i1 D.l2i2 (kp' _ o e)⟩
 have tk1:stored ([]:List (Key×Value)) (.inl ps[0].1) (vs[0]'(by omega))=((ps.map fun p=>(Sum.inl p.1:Key)).zip vs).take 1:=by
  rw[kUh (by simp)]
  have zl:((ps.map fun p=>(Sum.inl p.1:Key)).zip vs).length=ps.length:=by simp[hl]
  rw[lKa,lJc (by rw[zl];exact hlt),List.getElem_zip,List.getElem_map];rfl
 rw[tk1] at hd3
 refine wpAny_pure ⟨plainId_quiet jYq _,dz_loop (A:=A.in1) (by simpa using hh) D (lt hz) (lt hTI) n1 n2 m1 m2 hx hy hl hn hs (ps.length-1) 1 _ _ _ rfl hp (a'.moved (h':=h3) (fun b o hb e=>(sb.2 b hb).trans e) (lt hz) (lt hTI) n1 n2 m1 m2 hd'.typeIs) hd3 fun h4 t4 hd4 kp4=>⟨rfl,k h4 t4 hd4 fun b o c1 c2 c3 c4 e=>kp4 b o (lt e).symm c1 c3 c4 ((sb.2 b (lt e).symm).trans (kp2 b o c1 c2 c3 c4 (kp' b o e)))⟩⟩
end
theorem pkv_zip {K:PySem.W.Frag} {H:Hp}:∀ {ks:List Key} {ws:List T} {vs:List V},ks.length=ws.length->Reps K H ws vs->PKV K H (ks.zip ws) (ks.zip vs)
 | [],_,_,_,_=> .nil
 | k::ks,[],_,h,_=>by simp at h
 | k::ks,w::ws,_,h,⟨v,vs,e,r,rs⟩=>by subst e;exact .cons ⟨rfl,r⟩ (pkv_zip (by simpa using h) rs)
theorem kv_zip:∀ {ks:List Key} {vs:List V} {us:List Value},ks.length=vs.length->Vals vs us->KV (ks.zip vs) (ks.zip us)
 | [],_,_,_,_=> .nil
 | k::ks,[],_,h,_=>by simp at h
 | k::ks,v::vs,_,h,.cons r rs=> .cons ⟨rfl,r⟩ (kv_zip (by simpa using h) rs)
section
variable {X:Cx}
noncomputable def tDZip (ta:TA3):TE3:=fun τ G Q=>ta τ G fun vs G1=>∃(x y:T) (is:List Int) (ws:List T),vs=[x,y]/\jU4 G1 x=some (is.map T.int)/\jU4 G1 y=some ws/\is.length=ws.length/\is.Nodup/\1<=is.length/\is.length<=1000/\∀p,G1 p=none->Q (.ref p) (gup G1 p (.dck ((is.map fun i=>(Sum.inl i:Key)).zip ws)))
theorem e_dzip {pos pos' p p':Pos} {a b:Expr} {ta:TA3} (hc:X.calm=true) (hl:Gl X "dict") (hlm:X.mg "dict"=none) (hlv:bootBuiltins "dict"=some (.type "dict")) (hg:Gl X "zip") (hm:X.mg "zip"=none) (hv:bootBuiltins "zip"=some (.type "zip")) (ha:PA3 X [a,b] ta) (hs:starEach [a,b] X.env=[(false,eval a X.env),(false,eval b X.env)]:=by rfl) (hs2:starEach [b] X.env=[(false,eval b X.env)]:=by rfl)
  (hs':starEach [Expr.Call (.Name "zip" p) [a,b] [] pos] X.env=[(false,eval (.Call (.Name "zip" p) [a,b] [] pos) X.env)]:=by rfl):
  PE3 X (.Call (.Name "dict" p') [.Call (.Name "zip" p) [a,b] [] pos] [] pos') (tDZip ta):=by
 intro pins s τ G H Q I h
 obtain⟨σ0,I0,_,_⟩:=id I
 refine Call_ (jVm I0 hl hlm hlv (PyProof.Rows.callWith_type1 ?_ hs' rfl))
 rw[hs']
 refine Calls.spliced_cons (Call_ (jVm I0 hg hm hv (PyProof.Rows.callWith_type1 (thn (ha pos pins s τ G H _ I h) fun us s1 w_=>w_.el fun xs' G1 H1 e1 i_ r_ q1=>i_.el fun σ I1 hs1 hg1=>r_.el fun as ras rvs=> ?_) (by rw[hs,hs2]) (by rw[hs2];rfl))))
 obtain⟨x,y,is,ws,e,hx,hy,hle,hnd,h1,h2,q⟩:=q1
 subst e
 obtain⟨v,w,rfl,rv,rw'⟩:=reps2 ras
 obtain⟨u,u',rfl,ru,ru'⟩:=rvs.two
 obtain⟨pa,vs,rfl,hq1,r1⟩:=jXu hg1 rv hx
 obtain⟨pb,us,rfl,hq2,r2⟩:=jXu hg1 rw' hy
 cases ru;cases ru'
 cases jUk r1
 obtain⟨its1,rv1,p1,hz1⟩:=I1.list hq1
 obtain⟨its2,rv2,p2,hz2⟩:=I1.list hq2
 obtain⟨ps,rfl,rfl⟩:=jVj rv1
 have lu:us.length=ws.length:=r2.length.symm
 have li:its2.length=us.length:=rv2.length.symm
 rw[lJb] at hle h1 h2
 have hal:pa<s1.heap.objs.size:=by obtain⟨o,ho,_⟩:=p1.isList;exact Heap.lt_size ho
 have hbl:pb<s1.heap.objs.size:=by obtain⟨o,ho,_⟩:=p2.isList;exact Heap.lt_size ho
 refine call_zip_2 p1.isList p2.isList fun g hz hTI hTO hi1 hi2 hsz hk=> ?_
 have D:ZipApart (s1.heap.objs.size+4) (s1.heap.objs.size+2) (s1.heap.objs.size+3) s1.heap.objs.size (s1.heap.objs.size+1) pa pb:=zapart hal hbl
 refine Calls.spliced_nil ?_
 refine dz_call (s:={s1 with heap:=g}) (ps:=ps) (I1.ok.hd hc) D hz hTI hTO hi1 hi2 (p1.isList.at fun o e=>hk _ o e) (p2.isList.at fun o e=>hk _ o e) (by rw[List.toList_toArray]) (by rw[List.toList_toArray]) (by omega) hnd (by rw[sizeLine_eq];omega) h1 fun h' t' dd kp=> ?_
 have kp1:∀b o,s1.heap.get? b=some o->h'.get? b=some o:=fun b o e=>by
  have lt:=Heap.lt_size e
  exact kp b o (lJl (Nat.lt_add_right 4 lt)) (lJl (Nat.lt_add_right 3 lt)) (lJl lt) (lJl (Nat.lt_add_right 1 lt)) (hk b o e)
 have hD:s1.heap.objs.size<=g.objs.size:=by rw[hsz];omega
 have fr:=I1.hok.fresh hD
 have big:=I1.big
 have I3:=I1.laid (a:=g.objs.size) (o:= .dK (((ps.map (·.1)).map fun i=>(Sum.inl i:Key)).zip us)) (h':=h') (t':=t') kp1 hD ⟨by rw[List.length_zip,lJb,lJb,sizeLine_eq];omega,beq_eq_false_iff_ne.mpr (Ne.symm (lJl (lJy big hD))),((ps.map fun p=>(Sum.inl p.1:Key)).zip its2),by rw[lJr];exact kv_zip (by rw[lJb];omega) rv2,dd⟩
 have ext:Ext H1 (upd H1 g.objs.size (.dK (((ps.map (·.1)).map fun i=>(Sum.inl i:Key)).zip us))):= .upd (.none fr)
 exact⟨.ref _,_,_,e1.trans ext,⟨σ,I3,hs1.mono ext,hg1.upd (.none fr) (go:= .dck (((ps.map (·.1)).map fun i=>(Sum.inl i:Key)).zip ws)) ⟨_,jK7,pkv_zip (by rw[lJb,lJb];omega) (Reps.mono ext _ r2)⟩⟩,⟨.ref _,rfl,rfl⟩,q _ (hg1.fresh fr)⟩
end
end L3
namespace L3
open PySem PySem.Spec PyProof.Rows L2
section
variable {X:Cx}
noncomputable def jZ1:T->List T->Gp->VK3->Prop:=fun x as G Q=>∃p q xs ys,x= .ref p/\as=[.ref q]/\G p=some (.lst xs)/\G q=some (.lst ys)/\xs.length+ys.length<=sizeLine/\Q .non (gup G p (.lst (xs++ys)))
theorem m_extend:Mt3 X "list.extend" jZ1:=by
 rintro pins s τ G H x as v us Q ⟨σ,I,hs,hg⟩ ⟨a,ra,rv⟩ ⟨bs,rbs,rus⟩ ⟨p,q,xs,ys,ex,ea,hp,hq,hz,k⟩
 subst ex;subst ea
 cases (show a= .ref p from ra);cases rv
 obtain⟨b1,rfl,r1⟩:=jXj rbs
 cases (show b1= .ref q from r1)
 obtain⟨u1,rfl,ru1⟩:=rus.one
 cases ru1
 obtain⟨vs,h1,h2⟩:=hg.lst hp
 obtain⟨ws,h3,h4⟩:=hg.lst hq
 obtain⟨z,its,n,r,hl,e⟩:=I.lstM h1
 obtain⟨z',its',n',r',hl',e'⟩:=I.lstM h3
 have hlen:=h2.length
 have hlen':=h4.length
 have q1:=r.length
 have q2:=r'.length
 have hc:¬(!its.toArray.isEmpty&&Builtin.List.listTooLong (its.toArray.size+its'.toArray.size))=true:=by
  have:Builtin.List.listTooLong (its.toArray.size+its'.toArray.size)=false:=by
   unfold Builtin.List.listTooLong
   (rw[lJi,lJi])
   exact decide_eq_false (by omega)
  rw[this,Bool.and_false];exact lJf
 refine call_meets F.slot_list_extend ⟨_,e,rfl⟩ F.entry_list_extend (F.args_list_extend_2 _ _) (AutoSeq1.list_extend_list_list_0 p its.toArray n q its'.toArray n' hc (by rw[lJi];omega) (by rw[lJi,lJi];omega)) ⟨e,e',?_⟩
 have e2:Ext H (upd H p (.lst (vs++ws))):= .upd (.lst h1)
 refine⟨.non,_,_,e2,⟨σ,I.lset (its':=its++its') h1 e ?_ (r.append r') ?_,hs.mono e2,hg.lstNew (xs:=xs++ys) (h2.append h4) (.lst h1)⟩,⟨.non,rfl,rfl⟩,k⟩
 ·simp
 ·rw[lJo];omega
end
end L3
namespace W
open PySem L3
local macro_rules
 | `(tactic| wp_walk using 1, $ts,*) => do
  let ls ← ts.getElems.mapM fun t => `(Lean.Parser.Tactic.simpLemma| $t:term)
  let ns ← ("tSeq tIfS jJ7 tOp rGt rLt rGe rSub L3.rI0 L3.rI rIxF tVar tC tAsg tCB jJb tNil rDivmod rLen rAbs rMax rIntOf gTup jKg gNil gSub jJj jXr tRet tRetN jQc jQl jJw tLst tTup tIf tNot tAnd tOr tAndV tOrV tNotV tPar jQi jXs rMod rFdiv rPow rIsN kQw isNon tTru rTru truT tUn rNeg addR_int mulR_int mulC_int mulC_ref fin_val fin_new ixR_tup ixR_scr at0 at1 at2 ix30 ix31 ix32 seqT_tup setR_gup ixR_gup seqT_gup Option.map_some and_assoc T.int.injEq T.bl.injEq T.tup.injEq T.ref.injEq List.cons.injEq and_true true_and exists_eq_left exists_eq_left' exists_and_left exists_eq_right List.getElem?_cons_zero List.getElem?_cons_succ List.set_cons_zero List.set_cons_succ List.length_cons List.length_nil Nat.reduceAdd Option.some.injEq jJg kK8 reduceCtorEq false_and exists_false exists_const Bool.true_eq Bool.not_eq_true' Bool.not_true Bool.not_false if_true if_false decide_eq_true_eq tBM jK3 kKn jK0 tComp_at jU8 GO.lst.injEq msk List.zipWith_cons_cons List.zipWith_nil_left List.zipWith_nil_right Bool.false_eq_true tyT_gup".splitOn " ").toArray.mapM fun n => `(Lean.Parser.Tactic.simpLemma| $(Lean.mkIdent n.toName):term)
  let al:=ns++ls
  `(tactic| ((try dsimp only [$al,*]); (try simp only [$al,*])))
local macro_rules
 | `(tactic| omega) => `(tactic| first | exact szle rfl | lia)
def BoxAt (G:Gp) (b:Addr) (n:Nat):Prop:=∃x y z:Int,G b=some (.lst [.int x,.int y,.int z])/\0<=x/\0<=y/\y<2147483648/\0<=z/\z<=n
def Keep (b:Addr) (G G':Gp):Prop:=∀c o,c≠b->G c=some o->G' c=some o
theorem Keep.refl (b:Addr) (G:Gp):Keep b G G:=fun _ _ _ h=>h
theorem Keep.trans {b:Addr} {G G1 G2:Gp} (h:Keep b G G1) (h':Keep b G1 G2):Keep b G G2:=fun c o hc e=>h' c o hc (h c o hc e)
theorem Keep.gup {b:Addr} {G:Gp} {o:GO}:Keep b G (gup G b o):=fun c u hc e=>by rw[jJi hc];exact e
theorem Keep.new {b p:Addr} {G:Gp} {o:GO} (hp:G p=none):Keep b G (L3.gup G p o):=fun c u _ e=>by rw[jJi];exact e;rintro rfl;rw[hp] at e;cases e
noncomputable def jJt:Sp3:=fun xs G Q=>∃(b:Addr) (m:Int) (n:Nat),xs=[.ref b,.int m]/\BoxAt G b n/\n<2^40/\1<=m/\m<2^29/\∀(r:Int) G',0<=r->r<m->BoxAt G' b (n+1)->Keep b G G'->Q (.int r) G'
noncomputable def N_l_take:List Str:=["_law_box_here","_law_many","_law_found","_law_once"]
noncomputable def jZd:TS3:=
 (tSeq (tIfS (jJ7 (tOp rGt (tOp rIxF (tVar 0) (tC (.int 0))) (tC (.int 0)))) (tSeq (tAsg (tCB rDivmod (jJb (tOp rIxF (tVar 0) (tC (.int 0))) (jJb (tVar 1) tNil))) (gTup 2 (jKg (gSub (tVar 0) (tC (.int 0)) jXr) (jKg (jJj 2) gNil))))
 (tRet (tVar 2))) jQc)
 (tSeq (tAsg (tOp jQi (tOp rIxF (tVar 0) (tC (.int 2))) (tC (.int 1))) (gSub (tVar 0) (tC (.int 2)) jXr))
 (tSeq (tAsg (tOp rMod (tOp jXs (tOp jQi (tOp rIxF (tVar 0) (tC (.int 1))) (tOp jXs (tC (.int 39373)) (tOp rIxF (tVar 0) (tC (.int 2))))) (tOp jQi (tC (.int 48271)) (tOp rIxF (tVar 0) (tC (.int 2))))) (tC (.int 2147483647))) (jJj 3))
 (tSeq (tAsg (tOp rMod (tOp jQi (tOp jXs (tVar 3) (tOp jQi (tOp rMod (tVar 3) (tC (.int 40009))) (tC (.int 7)))) (tOp rIxF (tVar 0) (tC (.int 2)))) (tC (.int 2147483629))) (gSub (tVar 0) (tC (.int 1)) jXr))
 (tRet (tOp rMod (tOp rFdiv (tOp rMod (tOp jXs (tOp rIxF (tVar 0) (tC (.int 1))) (tOp jQi (tOp rMod (tOp rIxF (tVar 0) (tC (.int 1))) (tC (.int 1009))) (tC (.int 3)))) (tC (.int 998244353))) (tC (.int 7))) (tVar 1)))))))
theorem rdok_l_take:∀xs G Q,jJt xs G Q->jZd {nx:=fun _ G'=>Q .non G',rt:=Q} (jJk N_l_take xs) G:=by
 intro xs G Q h_;apply xe3 h_;clear h_;intro b m n h_;apply ae5 h_;clear h_;intro q0_ hn hm1 hm2 k
 obtain⟨x,y,z,hb,hx,hy0,hy1,hz0,hz1⟩:=q0_
 rw[show jJk N_l_take [.ref b,.int m]=[some (.ref b),some (.int m),none,none] from rfl]
 wp_walk using 1,jZd,jQu hb,setR_m hb
 have box:∀x' y' z':Int,0<=x'->0<=y'->y'<2147483648->0<=z'->z'<=n+1->BoxAt (gup G b (.lst [.int x',.int y',.int z'])) b (n+1):=fun x' y' z' h1 h2 h3 h4 h5=>⟨x',y',z',jJg,h1,h2,h3,h4,by omega⟩
 split
 ·refine⟨⟨by omega,by omega⟩,k _ _ (lQb _ (by omega)) (lQc _ (by omega)) (box _ _ _ (Int.ediv_nonneg hx (by omega)) hy0 hy1 hz0 (by omega)) .gup⟩
 ·have a0:=lQb ((y+39373*(z+1))*(48271+(z+1))) (b:=2147483647) (by decide)
  have a1:=lQc ((y+39373*(z+1))*(48271+(z+1))) (b:=2147483647) (by decide)
  refine⟨.inl (by decide),.inr ⟨by omega,by omega⟩,by decide,by decide,?_⟩
  generalize (y+39373*(z+1))*(48271+(z+1))%2147483647=u at a0 a1 ⊢
  have b0:=lQb (u*(u%40009+7)+(z+1)) (b:=2147483629) (by decide)
  have b1:=lQc (u*(u%40009+7)+(z+1)) (b:=2147483629) (by decide)
  refine⟨.inl ⟨by omega,by omega⟩,by decide,by decide,?_⟩
  generalize (u*(u%40009+7)+(z+1))%2147483629=v at b0 b1 ⊢
  refine⟨.inl ⟨by omega,by omega⟩,by decide,⟨by decide,by decide⟩,by omega,?_⟩
  exact k _ _ (lQb _ (by omega)) (lQc _ (by omega)) (box _ _ _ hx b0 (by omega) (by omega) (by omega)) .gup
noncomputable abbrev jKr (ns:List Int):List T:=ns.map T.int
theorem sz:sizeLine=16777216:=PySem.sizeLine_eq
noncomputable def jUj:Sp3:=fun xs G Q=>∃(c:Addr) (ns:List Int) (k:Int),xs=[.ref c,.int k]/\G c=some (.lst (jKr ns))/\ns.length<=63/\0<=k/\k<100/\∀p G',G p=none->BoxAt G' p 0->Sub G G'->Q (.ref p) G'
noncomputable def N_l_box:List Str:=["_law_script","_law_k","_law_cell"]
noncomputable def kJ6:TS3:=
 (tSeq (tAsg (tOp rIxF (tOp jQi (tVar 0) (tOp jXs (tLst (jJb (tC (.int 0)) tNil)) (tOp jQi (tVar 1) (tC (.int 1))))) (tVar 1)) (jJj 2))
 (tRet (tLst (jJb (tOp jXs (tCB rAbs (jJb (tVar 2) tNil)) (tCB rIntOf (jJb (tOp rGe (tCB rAbs (jJb (tVar 2) tNil)) (tOp rPow (tC (.int 10)) (tC (.int 18)))) tNil))) (jJb (tOp rMod (tOp jXs (tOp jQi (tOp jQi (tOp rMod (tVar 2) (tC (.int 2147483647))) (tOp jXs (tC (.int 7919)) (tVar 1))) (tC (.int 11))) (tC (.int 48271))) (tC (.int 2147483629))) (jJb (tC (.int 0)) tNil))))))
theorem rdok_l_box:∀xs G Q,jUj xs G Q->kJ6 {nx:=fun _ G'=>Q .non G',rt:=Q} (jJk N_l_box xs) G:=by
 intro xs G Q h_;apply xe3 h_;clear h_;intro c ns k h_;apply ae5 h_;clear h_;intro hc hl hk0 hk1 kk
 rw[show jJk N_l_box [.ref c,.int k]=[some (.ref c),some (.int k),none] from rfl]
 have hs:=sz
 wp_walk using 1,kJ6
 refine⟨by omega,fun p hp=> ?_⟩
 have e1:mulR (gup G p (GO.lst [T.int 0])) (.ref p) (.int (k+1))=some (.newL (List.replicate (k+1).toNat [T.int 0]).flatten):=by
  simp only[mulR,jJg];rw[if_pos];refine⟨?_,?_,?_⟩<;>simp<;>omega
 wp_walk using 1,e1
 intro q hq
 obtain⟨hqp,hq0⟩:=jK1 hq
 have hcp:=jJd hc hp
 have hcq:=jJd hc hq0
 have hc2:gup (gup G p (GO.lst [T.int 0])) q (GO.lst (List.replicate (k+1).toNat [T.int 0]).flatten) c=some (.lst (jKr ns)):=by rw[jJi hcq,jJi hcp];exact hc
 have hfl:(List.replicate (k+1).toNat [T.int 0]).flatten=List.replicate (k+1).toNat (T.int 0):=by
  induction (k+1).toNat with
  | zero=>rfl
  | succ n ih=>rw[lKs,lK3,ih];rfl
 have e2:=addR_lst (q:=q) hc2 jJg (by rw[hfl];simp;omega)
 wp_walk using 1,e2
 intro r hr
 obtain⟨hrq,hr1⟩:=jK1 hr
 obtain⟨hrp,hr0⟩:=jK1 hr1
 obtain⟨v,hv⟩:∃v:Int,L2.atI (jKr ns++(List.replicate (k+1).toNat [T.int 0]).flatten) k=some (.int v):=by
  rw[atZ hk0,hfl]
  by_cases h:k.toNat<ns.length
  ·rw[lJ0 (by simpa using h)]
   exact⟨ns[k.toNat],by simp[h]⟩
  ·rw[lK7 (by simpa using h),lQj]
   exact⟨0,by rw[if_pos];simp;omega⟩
 wp_walk using 1,hv
 refine⟨⟨by decide,by decide,by decide⟩,.inr (by split<;>split<;>decide),by decide,.inl (by decide),.inr (by decide),by decide,by omega,fun b hbn=> ?_⟩
 obtain⟨hbr,hb1⟩:=jK1 hbn
 obtain⟨hbq,hb2⟩:=jK1 hb1
 obtain⟨hbp,hb0⟩:=jK1 hb2
 refine kk b _ hb0 ⟨_,_,_,jJg,Int.mul_nonneg (by split<;>omega) (by split<;>split<;>decide),lQb _ (by decide),?_,Int.le_refl _,by simp⟩ ((((Sub.new hp).over hq0).over hr0).over hb0)
 have:=lQc ((v%2147483647+7919*k+11)*48271) (b:=2147483629) (by decide)
 omega
noncomputable def jKy:Sp3:=fun xs G Q=>∃(ns:List Int) (m:Int),xs=[.scr (jKr ns),.int m]/\ns.length<=63/\1<=m/\m<=63/\∀p G' (ms:List Int),G p=none->G' p=some (.lst (jKr ms))->ms.length<=m.toNat->ms.length<=63->Sub G G'->Q (.ref p) G'
noncomputable def kU2:List Str:=["_law_script","_law_many","_law_cells","_law_k","_law_cell"]
noncomputable def jXp:TS3:=
 (tSeq (tAsg (tCB rListA (jJb (tSl rSlF (tVar 0) kVc (tPart (tVar 1))) tNil)) (jJj 2))
 (tSeq (tFor (kJc (jJb (tSl rSlF (tVar 0) (tPart (tVar 1)) (tPart (tC (.int 63)))) tNil)) (gTup 2 (jKg (jJj 3) (jKg (jJj 4) gNil))) (tAsg (tOp jQi (tOp rIxF (tVar 2) (tOp rMod (tVar 3) (tVar 1))) (tOp jXs (tVar 4) (tOp jQi (tVar 3) (tC (.int 2))))) (gSub (tVar 2) (tOp rMod (tVar 3) (tVar 1)) jXr)))
 (tRet (tVar 2))))
theorem kVq:∀xs G Q,jKy xs G Q->jXp {nx:=fun _ G'=>Q .non G',rt:=Q} (jJk kU2 xs) G:=by
 intro xs G Q h_;apply xe2 h_;clear h_;intro ns m h_;apply ae4 h_;clear h_;intro hl hm1 hm2 kk
 rw[show jJk kU2 [.scr (jKr ns),.int m]=[some (.scr (jKr ns)),some (.int m),none,none,none] from rfl]
 have hs:=sz
 wp_walk using 1,jXp,tSl,rSlF,slR,kVc,tPart,rListA,kVs,jJ6,kJc
 intro p hp p1 hp1
 obtain⟨hpp,hp10⟩:=jK1 hp1
 intro q hq
 obtain⟨hq1,hq2⟩:=jK1 hq
 obtain⟨hqp,hq0⟩:=jK1 hq2
 obtain⟨cs,hcs,lcs⟩:∃cs:List Int,cutT (jKr ns) none (some m)=jKr cs/\cs.length=min m.toNat ns.length:=by
  refine⟨ns.take (min m.toNat ns.length),?_,by simp⟩
  simp only[cutT,HT.sIx,lJb,List.drop_zero,Nat.sub_zero]
  rw[if_neg (by omega)]
  simp[List.map_take]
 obtain⟨rs,hrs,lrs⟩:∃rs:List Int,cutT (jKr ns) (some m) (some 63)=jKr rs/\(rs.length<=63/\(0<rs.length->m.toNat<=ns.length)):=by
  refine⟨(ns.drop (min m.toNat ns.length)).take (min 63 ns.length-min m.toNat ns.length),?_,?_,?_⟩
  ·simp only[cutT,HT.sIx,lJb]
   simp only[show ¬ m<0 by omega,show ¬ (63:Int)<0 by decide,if_false]
   simp[List.map_take,List.map_drop]
  ·simp;omega
  ·simp;omega
 rw[hcs,hrs]
 refine⟨jKr rs,by simp only[jU4,jJg,asL],?_⟩
 refine⟨fun i τ G'=>∃(v3 v4:Option T) (ms:List Int),τ=[some (.scr (jKr ns)),some (.int m),some (.ref p1),v3,v4]/\G' p1=some (.lst (jKr ms))/\ms.length=cs.length/\G' q=some (.lst (jKr rs))/\Sub G G',?_,?_,?_,?_⟩
 ·refine⟨none,none,cs,rfl,by rw[jJi hq1.symm,jJg],rfl,jJg,(((Sub.new hp).over hp10).over hq0)⟩
 ·intro i τ G' hi h_;apply xe3 h_;clear h_;intro v3 v4 ms h_;apply ae4 h_;clear h_;intro h1 h2 h3 h4
  simp only[jU4,h3,asL]
 ·intro i x τ G' hx h_;apply xe3 h_;clear h_;intro v3 v4 ms h_;apply ae4 h_;clear h_;intro h1 h2 h3 h4
  have hi:i<rs.length:=by have:=(lJa.mp hx).1;simpa[jJ9] using this
  have hri:(jKr rs)[i]? =some (.int rs[i]):=by simp[hi]
  rw[jVc hri] at hx
  cases hx
  have hml:=lrs.2 (by omega)
  have hk0:(0:Int)<=(i:Int)%m:=lQb _ (by omega)
  have hk1:(i:Int)%m<m:=lQc _ (by omega)
  have hk:((i:Int)%m).toNat<ms.length:=by omega
  have hat:L2.atI (jKr ms) ((i:Int)%m)=some (.int ms[((i:Int)%m).toNat]):=by rw[atZ hk0];simp[hk]
  have hix:L2.ixN (jKr ms).length ((i:Int)%m)=some ((i:Int)%m).toNat:=ixZ hk0 (by simp;omega)
  wp_walk using 1,jQu h1,hat,jY8 h1 hix
  refine⟨by omega,.inr ⟨by omega,by omega⟩,by omega,?_⟩
  exact⟨ms.set ((i:Int)%m).toNat (ms[((i:Int)%m).toNat]+rs[i]*((i:Int)+2)),by simp[jKr,List.map_set],by simpa using h2,by rw[jJi hq1];exact h3,h4.over hp10⟩
 ·intro τ G' h_;apply xe3 h_;clear h_;intro v3 v4 ms h_;apply ae4 h_;clear h_;intro h1 h2 h3 h4
  wp_walk using 1,tSeq
  exact kk p1 G' ms hp10 h1 (by omega) (by omega) h4
noncomputable abbrev Web:=List (List (Nat×Nat))
noncomputable def encE (e:Nat×Nat):T:= .tup [.int e.1,.int e.2]
noncomputable def encR (r:List (Nat×Nat)):T:= .tup (r.map encE)
noncomputable def encW (W:Web):T:= .tup (W.map encR)
noncomputable def en (W:Web) (r i:Nat):Option (Nat×Nat):=(W[r]?).bind fun es=>es[i]?
def Sym (W:Web):Prop:=∀r i s j,en W r i=some (s,j)->en W s j=some (r,i)
noncomputable def sw:Nat->Nat
 | 0=>1
 | 1=>0
 | n=>n
theorem sw_sw {n:Nat} (h:n<=2):sw (sw n)=n/\sw n<=2:=by
 have:n=0\/n=1\/n=2:=by omega
 rcases this with rfl | rfl | rfl<;>exact⟨rfl,by decide⟩
def RowsAt (G:Gp) (h:Addr) (Hs:Web) (rs:List Addr):Prop:=G h=some (.lst (rs.map T.ref))/\rs.length=Hs.length/\∀(i:Nat) (r:Addr),rs[i]? =some r->∃hs:List (Nat×Nat),Hs[i]? =some hs/\G r=some (.lst (hs.map encE))
theorem RowsAt.sub {G G':Gp} {h:Addr} {Hs:Web} {rs:List Addr} (s:Sub G G') (x:RowsAt G h Hs rs):RowsAt G' h Hs rs:=⟨s _ _ x.1,x.2.1,fun i r e=>let ⟨hs,h1,h2⟩:=x.2.2 i r e;⟨hs,h1,s _ _ h2⟩⟩
structure JoinOk (Hs:Web):Prop where
 len:Hs.length<=1000
 row:∀(r:Nat) (hs:List (Nat×Nat)),Hs[r]? =some hs->hs.length<=1000
 inj:∀r i r' i' h,en Hs r i=some h->en Hs r' i'=some h->r=r'/\i=i'
 part:∀r i t s,en Hs r i=some (t,s)->s<=2/\∃r' i',en Hs r' i'=some (t,sw s)
noncomputable def keyE (e:Nat×Nat):L2.TKey:=[.inl (.inl (e.1:Int)),.inl (.inl (e.2:Int))]
theorem kXm {a b:Nat×Nat} (h:keyE a=keyE b):a=b:=by
 obtain⟨a1,a2⟩:=a;obtain⟨b1,b2⟩:=b
 simp only[keyE,List.cons.injEq,Sum.inl.injEq,and_true] at h
 obtain⟨h1,h2⟩:=h
 rw[Int.ofNat.inj h1,Int.ofNat.inj h2]
theorem jYo {a b:Int}:jX9 [.int a,.int b]=some [.inl (.inl a),.inl (.inl b)]:=rfl
theorem valT_put {κ:Type} [DecidableEq κ] (kvs:List (κ×T)) (k j:κ) (v:T):valT (putT kvs k v) j=if k=j then some v else valT kvs j:=by
 unfold putT valT
 by_cases h:(kvs.any fun kv=>decide (kv.1=k))=true
 ·rw[if_pos h]
  induction kvs with
  | nil=>simp at h
  | cons p ps ih=>
   rw[lJm,lKm,lKm]
   by_cases hp:p.1=k
   ·rw[if_pos hp]
    by_cases hj:k=j
    ·simp[hp,hj]
    ·have h1:¬ p.1=j:=fun z=>hj (hp.symm.trans z)
     simp only[h1,decide_false,hj,if_false]
     by_cases h2:(ps.any fun kv=>decide (kv.1=k))=true
     ·have:=ih h2;rw[if_neg hj] at this;exact this
     ·have hm:ps.map (fun kv=>if kv.1=k then (kv.1,v) else kv)=ps:=by
       rw[lKb (g:=id)];· simp
       intro a ha
       have:¬ a.1=k:=fun z=>h2 (List.any_eq_true.mpr ⟨a,ha,by simp[z]⟩)
       simp[this]
      rw[hm]
   ·rw[if_neg hp]
    have h2:(ps.any fun kv=>decide (kv.1=k))=true:=by
     rw[lKp,decide_eq_false hp,Bool.false_or] at h;exact h
    have:=ih h2
    by_cases hj:p.1=j
    ·have:¬ k=j:=fun z=>hp (hj.trans z.symm)
     simp[hj,this]
    ·simp only[hj,decide_false];exact this
 ·rw[if_neg h,List.find?_append]
  have hn:(kvs.find? fun kv=>decide (kv.1=j))=none\/∃p,(kvs.find? fun kv=>decide (kv.1=j))=some p:=by
   cases kvs.find? fun kv=>decide (kv.1=j) with
   | none=>exact .inl rfl
   | some p=>exact .inr ⟨p,rfl⟩
  by_cases hj:k=j
  ·subst hj
   have:(kvs.find? fun kv=>decide (kv.1=k))=none:=by
    rw[List.find?_eq_none]
    intro a ha z
    exact h (List.any_eq_true.mpr ⟨a,ha,z⟩)
   simp[this]
  ·rcases hn with e | ⟨p,e⟩
   ·simp[e,hj]
   ·simp[e,hj]
theorem putT_len {κ:Type} [DecidableEq κ] (kvs:List (κ×T)) (k:κ) (v:T):(putT kvs k v).length<=kvs.length+1:=by
 unfold putT;split<;>simp
theorem dAt_dct {G:Gp} {p:Addr} {kvs:List (L2.TKey×T)} {ys:List T} {ks:L2.TKey} (h:G p=some (.dct kvs)) (hk:jX9 ys=some ks):dAt G (.ref p) (.tup ys)=some (valT kvs ks):=by simp only[dAt,h,hk]
theorem ixR_dct {G:Gp} {p:Addr} {kvs:List (L2.TKey×T)} {ys:List T} {ks:L2.TKey} {t:T} (h:G p=some (.dct kvs)) (hk:jX9 ys=some ks) (ht:valT kvs ks=some t):ixR G (.ref p) (.tup ys)=some t:=by
 simp only[ixR,seqT,h,asL,dAt_dct h hk,ht]
theorem setR_dct {G:Gp} {p:Addr} {kvs:List (L2.TKey×T)} {ys:List T} {ks:L2.TKey} {v:T} (h:G p=some (.dct kvs)) (hk:jX9 ys=some ks) (hz:kvs.length<sizeLine):setR G (.ref p) (.tup ys) v=some (gup G p (.dct (putT kvs ks v))):=by
 simp only[setR,h,hk,hz,if_true]
theorem jUv {W:Web} {r i:Nat} {e:Nat×Nat} (h:en W r i=some e):∃es,W[r]? =some es/\es[i]? =some e:=by
 unfold en at h
 cases e1:W[r]? with
 | none=>rw[e1] at h;cases h
 | some es=>rw[e1] at h;exact⟨es,rfl,h⟩
theorem jVo {W:Web} {r i:Nat} {es:List (Nat×Nat)} {e:Nat×Nat} (h1:W[r]? =some es) (h2:es[i]? =some e):en W r i=some e:=by unfold en;rw[h1];exact h2
structure Joined (Hs W:Web):Prop where
 len:W.length=Hs.length
 row:∀(r:Nat) (hs:List (Nat×Nat)),Hs[r]? =some hs->∃es,W[r]? =some es/\es.length=hs.length
 to:∀r i t sd s j,en Hs r i=some (t,sd)->en Hs s j=some (t,sw sd)->en W r i=some (s,j)
theorem Joined.sym {Hs W:Web} (J:Joined Hs W) (ok:JoinOk Hs):Sym W:=by
 intro r i s j h
 obtain⟨es,h1,h2⟩:=jUv h
 have hr:r<Hs.length:=by rw[<-J.len];exact (lJa.mp h1).1
 obtain⟨es',h3,h4⟩:=J.row r _ (lJc hr)
 rw[h1] at h3;cases h3
 have hi:i<Hs[r].length:=by rw[<-h4];exact (lJa.mp h2).1
 have e1:en Hs r i=some (Hs[r][i]):=jVo (lJc hr) (lJc hi)
 generalize Hs[r][i]=e0 at e1
 obtain⟨t,sd⟩:=e0
 obtain⟨hsd,r',i',e2⟩:=ok.part r i t sd e1
 have e3:=J.to r i t sd r' i' e1 e2
 rw[h] at e3
 cases e3
 refine J.to s j t (sw sd) r i e2 ?_
 rw[(sw_sw hsd).1];exact e1
open Classical in
noncomputable def oth (Hs:Web) (e:Nat×Nat):Nat×Nat:=if h:∃p:Nat×Nat,en Hs p.1 p.2=some (e.1,sw e.2) then h.choose else (0,0)
theorem oth_at {Hs:Web} {e:Nat×Nat} {r i:Nat} (h:en Hs r i=some (e.1,sw e.2)):en Hs (oth Hs e).1 (oth Hs e).2=some (e.1,sw e.2):=by
 unfold oth
 have:∃p:Nat×Nat,en Hs p.1 p.2=some (e.1,sw e.2):=⟨(r,i),h⟩
 rw[dif_pos this];exact this.choose_spec
theorem joined_oth {Hs:Web} (ok:JoinOk Hs):Joined Hs (Hs.map (List.map (oth Hs))) where
 len:=by simp
 row:=fun r hs h=>⟨hs.map (oth Hs),by simp[h],by simp⟩
 to:=fun r i t sd s j h1 h2=>by
  obtain⟨es,q1,q2⟩:=jUv h1
  have:en (Hs.map (List.map (oth Hs))) r i=some (oth Hs (t,sd)):=jVo (es:=es.map (oth Hs)) (by simp[q1]) (by simp[q2])
  rw[this]
  have h3:=oth_at (e:=(t,sd)) h2
  obtain⟨z1,z2⟩:=ok.inj _ _ _ _ _ h3 h2
  rw[<-z1,<-z2]
noncomputable def jK9:Sp3:=fun xs G Q=>∃(h:Addr) (Hs:Web) (rs:List Addr),xs=[.ref h]/\RowsAt G h Hs rs/\JoinOk Hs/\∀G' W,Sub G G'->Joined Hs W->Q (encW W) G'
noncomputable def kU1:List Str:=["_law_halves","_law_at","_law_room","_law_door","_law_half","_law_web_here","_law_doors","_law_tie","_law_side"]
noncomputable def jXo:TS3:=
 (tSeq (tAsg tDctNew (jJj 1))
 (tSeq (tFor (jQo (jJb (tCB rLen (jJb (tVar 0) tNil)) tNil)) (jJj 2) (tFor (kJc (jJb (tOp rIxF (tVar 0) (tVar 2)) tNil)) (gTup 2 (jKg (jJj 3) (jKg (jJj 4) gNil))) (tAsg (tTup (jJb (tVar 2) (jJb (tVar 3) tNil))) (gSub (tVar 1) (tVar 4) jXr))))
 (tSeq (tAsg (tLst tNil) (jJj 5))
 (tSeq (tFor (iSeq (tVar 0)) (jJj 6) (jQl (tBM "list" jK3 (tVar 5) (jJb (tCB jK0 (jJb (jU3 [false,false,false,false,false,false,false,true,true] (iSeq (tVar 6)) (gTup 2 (jKg (jJj 7) (jKg (jJj 8) gNil))) jU8 (tOp rIxF (tVar 1) (tTup (jJb (tVar 7) (jJb (tOp rIxF (tLst (jJb (tC (.int 1)) (jJb (tC (.int 0)) (jJb (tC (.int 2)) tNil)))) (tVar 8)) tNil))))) tNil)) tNil))))
 (tRet (tCB jK0 (jJb (tVar 5) tNil)))))))
def Tab (Hs:Web) (kvs:List (L2.TKey×T)) (done:Nat->Nat->Prop):Prop:=∀r i e,en Hs r i=some e->done r i->valT kvs (keyE e)=some (encE (r,i))
theorem rngT_get {n i:Nat} {x:T} (h:(rngT 0 n)[i]? =some x):i<n/\x= .int i:=by
 unfold rngT at h
 rw[lJj] at h
 have hi:i<n:=by
  rcases lJw i n with z | z
  ·exact z
  ·rw[lJh (by simpa using z)] at h;cases h
 simp[hi] at h
 exact⟨hi,h.symm⟩
theorem jQ8 {n:Nat}:(rngT 0 n).length=n:=by simp[rngT]
theorem kVp:∀xs G Q,jK9 xs G Q->jXo {nx:=fun _ G'=>Q .non G',rt:=Q} (jJk kU1 xs) G:=by
 intro xs G Q h_;apply xe3 h_;clear h_;intro h Hs rs h_;apply ae3 h_;clear h_;intro q0_ ok kk
 obtain⟨hh,hlen,hrow⟩:=q0_
 rw[show jJk kU1 [.ref h]=[some (.ref h),none,none,none,none,none,none,none,none] from rfl]
 have hs:=sz
 have hL:=ok.len
 wp_walk using 1,jXo,tDctNew,jJ6,jQo
 refine .inl fun d hd=> ?_
 have hhd:=jJd hh hd
 have hrl:(rs.map T.ref).length=Hs.length:=by simp[hlen]
 refine⟨rs.map T.ref,by simp only[seqT,jJi hhd,hh,asL],by rw[hrl];omega,by rw[hrl];omega,?_⟩
 rw[hrl,show ((Hs.length:Int)).toNat=Hs.length by omega]
 refine⟨fun r τ G'=>∃(v2 v3 v4:Option T) (kvs:List (L2.TKey×T)),τ=[some (.ref h),some (.ref d),v2,v3,v4,none,none,none,none]/\G' d=some (.dct kvs)/\kvs.length<=1000*r/\Tab Hs kvs (fun r' _=>r'<r)/\Sub G G',?_,?_,?_,?_⟩
 ·exact⟨none,none,none,[],rfl,jJg,lJg _,fun r i e _ z=>absurd z (lKr _),.new hd⟩
 ·intros;trivial
 ·intro r x τ G1 hx h_;apply xe4 h_;clear h_;intro v2 v3 v4 kvs h_;apply ae4 h_;clear h_;intro hdk hkl tab sb
  obtain⟨hr,rfl⟩:=rngT_get hx
  have hri:r<rs.length:=by omega
  obtain⟨hs',hH,hG⟩:=hrow r rs[r] (lJc hri)
  have hh1:=sb _ _ hh
  have hG1:=sb _ _ hG
  have hat:L2.atI (rs.map T.ref) (r:Int)=some (.ref rs[r]):=by rw[atN];simp[hri]
  have hrow1000:=ok.row r hs' hH
  wp_walk using 1,jJ6,kJc,jQu hh1,hat
  refine⟨hs'.map encE,by simp only[jU4,hG1,asL],?_⟩
  refine⟨fun i τ G'=>∃(v3 v4:Option T) (kvs:List (L2.TKey×T)),τ=[some (.ref h),some (.ref d),some (.int r),v3,v4,none,none,none,none]/\G' d=some (.dct kvs)/\kvs.length<=1000*r+i/\Tab Hs kvs (fun r' i'=>r'<r\/(r'=r/\i'<i))/\Sub G G',?_,?_,?_,?_⟩
  ·exact⟨v3,v4,kvs,rfl,hdk,hkl,fun r' i' e he hd'=>tab r' i' e he (by rcases hd' with z | ⟨_,z⟩;exact z;exact absurd z (lKr _)),sb⟩
  ·intro i τ G' hi h_;apply xe3 h_;clear h_;intro v3 v4 kvs h_;apply ae4 h_;clear h_;intro h1 h2 h3 h4
   simp only[jU4,h4 _ _ hG,asL]
  ·intro i x τ G2 hx h_;apply xe3 h_;clear h_;intro v3 v4 kvs h_;apply ae4 h_;clear h_;intro h1 h2 h3 h4
   have hi:i<hs'.length:=by have:=(lJa.mp hx).1;simpa[jJ9] using this
   have hri2:(hs'.map encE)[i]? =some (encE hs'[i]):=by simp[hi]
   rw[jVc hri2] at hx
   cases hx
   have hz:kvs.length<sizeLine:=by omega
   wp_walk using 1,encE,setR_dct h1 jYo hz
   refine⟨by omega,?_⟩
   refine⟨putT kvs (keyE hs'[i]) (encE (r,i)),rfl,by have:=putT_len kvs (keyE hs'[i]) (encE (r,i));omega,fun r' i' e he hd'=> ?_,h4.over hd⟩
   show valT (putT kvs (keyE hs'[i]) _) (keyE e)=_
   rw[valT_put]
   have eri:en Hs r i=some hs'[i]:=jVo hH (lJc hi)
   by_cases hk:keyE hs'[i]=keyE e
   ·rw[if_pos hk]
    have:=kXm hk
    subst this
    obtain⟨z1,z2⟩:=ok.inj _ _ _ _ _ eri he
    subst z1;subst z2;rfl
   ·rw[if_neg hk]
    refine h3 r' i' e he ?_
    rcases hd' with z | ⟨z1,z2⟩
    ·exact .inl z
    ·subst z1
     by_cases hii:i'=i
     ·subst hii;rw[eri] at he;cases he;exact absurd rfl hk
     ·exact .inr ⟨rfl,by omega⟩
  ·intro τ G' h_;apply xe3 h_;clear h_;intro v3 v4 kvs h_;apply ae4 h_;clear h_;intro h1 h2 h3 h4
   refine⟨some (.int r),v3,v4,rfl,kvs,h1,?_,fun r' i' e he hd'=>h3 r' i' e he ?_,h4⟩
   ·simp only[jJ9,lJb] at h2;omega
   ·rcases lJw r' r with z | z
    ·exact .inl z
    ·have:r'=r:=by omega
     subst this
     obtain⟨es,q1,q2⟩:=jUv he
     rw[hH] at q1;cases q1
     exact .inr ⟨rfl,by simpa[jJ9] using (lJa.mp q2).1⟩
 ·intro τ G1 h_;apply xe4 h_;clear h_;intro v2 v3 v4 kvs h_;apply ae4 h_;clear h_;intro hdk hkl tab sb
  rw[jQ8] at tab
  wp_walk using 1,jJ6,iSeq
  refine⟨lJg _,fun w hw=> ?_⟩
  have hdw:=jJd hdk hw
  have hhw:=jJd (sb _ _ hh) hw
  refine⟨rs.map T.ref,by simp only[seqT,jJi hhw,sb _ _ hh,asL],?_⟩
  refine⟨fun i τ G'=>∃(v6:Option T),τ=[some (.ref h),some (.ref d),v2,v3,v4,some (.ref w),v6,none,none]/\G' w=some (.lst ((Hs.take i).map fun hs=>encR (hs.map (oth Hs))))/\Sub G1 G',?_,?_,?_,?_⟩
  ·exact⟨none,rfl,by simp[jJg],.new hw⟩
  ·intro i τ G' hi h_;apply xe1 h_;clear h_;intro v6 h_;apply ae2 h_;clear h_;intro h1 h2
   simp only[seqT,h2 _ _ (sb _ _ hh),asL]
  ·intro i x τ G2 hx0 h_;apply xe1 h_;clear h_;intro v6 h_;apply ae2 h_;clear h_;intro h1 h2
   obtain⟨ra,hx,rfl⟩:=jQ5 hx0
   obtain⟨hs',hH,hG⟩:=hrow i ra hx
   have hG2:=h2 _ _ (sb _ _ hG)
   have hrow1000:=ok.row i hs' hH
   wp_walk using 1,iSeq,jK2 h1
   refine⟨hs'.map encE,jJp hG2,?_⟩
   refine jUa (fun e=>encE (oth Hs e)) (by omega) (fun G' s=>jJp (s _ _ hG2)) ?_ ?_
   ·intro j e he G' K K0 s hk
    obtain⟨t,sd⟩:=e
    have hen:=jVo hH he
    obtain⟨hsd,r',i',e2⟩:=ok.part _ _ _ _ hen
    have hv:=oth_at (e:=(t,sd)) e2
    have hr':(oth Hs (t,sd)).1<List.length Hs:=by obtain⟨es,q1,q2⟩:=jUv hv;exact (lJa.mp q1).1
    have ht:=tab _ _ _ hv hr'
    have hd3:=s _ _ (h2 _ _ hdk)
    wp_walk using 1,encE
    refine⟨by omega,fun p hp=> ?_⟩
    have hdp:=jJd hd3 hp
    have hsw:L2.atI [T.int 1,T.int 0,T.int 2] (sd:Int)=some (.int (sw sd:Int)):=by
     have:sd=0\/sd=1\/sd=2:=by omega
     rcases this with rfl | rfl | rfl<;>rw[atN]<;>rfl
    refine⟨_,hsw,by omega,_,ixR_dct (ks:=[.inl (.inl (t:Int)),.inl (.inl (sw sd:Int))]) (by rw[jJi hdp];exact hd3) jYo ht,hk _ (.new hp)⟩
   ·intro D G3 hD h3 h4
    wp_walk using 1,jJp h3,h4 _ _ h1
    refine⟨by simp;omega,?_,((h2.trans h4).over hw)⟩
    rw[lKa,hH];simp[encR]
  ·intro τ G' h_;apply xe1 h_;clear h_;intro v6 h_;apply ae2 h_;clear h_;intro h1 h2
   wp_walk using 1,jJp h1
   have e1:(Hs.take (rs.map T.ref).length).map (fun hs=>encR (hs.map (oth Hs)))=(Hs.map (List.map (oth Hs))).map encR:=by
    rw[hrl,lKf,lJr];rfl
   rw[e1]
   exact kk G' _ (sb.trans h2) (joined_oth ok)
theorem BoxAt.mono {G:Gp} {b:Addr} {n m:Nat} (h:BoxAt G b n) (hm:n<=m):BoxAt G b m:=by
 obtain⟨x,y,z,h1,h2,h3,h4,h5,h6⟩:=h
 exact⟨x,y,z,h1,h2,h3,h4,h5,by omega⟩
theorem BoxAt.some {G:Gp} {b:Addr} {n:Nat} (h:BoxAt G b n):∃o,G b=some o:=by
 obtain⟨x,y,z,h1,_⟩:=h
 exact⟨_,h1⟩
theorem BoxAt.sub {G G':Gp} {b:Addr} {n:Nat} (h:BoxAt G b n) (s:Sub G G'):BoxAt G' b n:=by
 obtain⟨x,y,z,h1,h2,h3,h4,h5,h6⟩:=h
 exact⟨x,y,z,s _ _ h1,h2,h3,h4,h5,h6⟩
theorem BoxAt.gup {G:Gp} {b p:Addr} {n:Nat} {o:GO} (h:BoxAt G b n) (hp:b≠p):BoxAt (gup G p o) b n:=by
 obtain⟨x,y,z,h1,h2,h3,h4,h5,h6⟩:=h
 exact⟨x,y,z,by rw[jJi hp];exact h1,h2,h3,h4,h5,h6⟩
theorem Keep.sub {b:Addr} {G G':Gp} (h:Sub G G'):Keep b G G':=fun c o _ e=>h c o e
theorem Keep.over {b p:Addr} {G G':Gp} {o:GO} (h:Keep b G G') (hp:G p=none):Keep b G (L3.gup G' p o):=fun c u hc e=>by rw[jJi];exact h c u hc e;rintro rfl;rw[hp] at e;cases e
theorem RowsAt.keep {b:Addr} {G G':Gp} {h:Addr} {Hs:Web} {rs:List Addr} (s:Keep b G G') (hb:b∉h::rs) (x:RowsAt G h Hs rs):RowsAt G' h Hs rs:=by
 simp only[lJn,not_or] at hb
 exact⟨s _ _ (Ne.symm hb.1) x.1,x.2.1,fun i r e=>let ⟨hs,h1,h2⟩:=x.2.2 i r e;⟨hs,h1,s _ _ (by rintro rfl;exact hb.2 (lJe e)) h2⟩⟩
theorem RowsAt.set {G:Gp} {h:Addr} {Hs:Web} {rs:List Addr} {r:Nat} {a:Addr} {hs':List (Nat×Nat)} (x:RowsAt G h Hs rs) (hn:(h::rs).Nodup) (hr:rs[r]? =some a):RowsAt (gup G a (.lst (hs'.map encE))) h (Hs.set r hs') rs:=by
 rw[lKj] at hn
 have hrl:r<rs.length:=(lJa.mp hr).1
 refine⟨by rw[jJi];exact x.1;rintro rfl;exact hn.1 (lJe hr),by rw[lKo];exact x.2.1,fun i c e=> ?_⟩
 by_cases hi:i=r
 ·subst hi
  rw[hr] at e;cases e
  exact⟨hs',by rw[lJ2];rw[<-x.2.1];exact hrl,jJg⟩
 ·obtain⟨hs,h1,h2⟩:=x.2.2 i c e
  refine⟨hs,by rw[lJz (Ne.symm hi)];exact h1,?_⟩
  rw[jJi];exact h2
  rintro rfl
  have hil:i<rs.length:=(lJa.mp e).1
  exact hi ((lK0 hil hn.2).mp (e.trans hr.symm))
noncomputable def hv (n t:Nat) (p:Nat×Nat):List (Nat×Nat×Nat):=if p.2=n then [(p.1,t,2)] else [(p.1,t,0),(p.2,t,1)]
noncomputable def hvs (P:List (Nat×Nat)) (n k:Nat):List (Nat×Nat×Nat):=(List.range k).flatMap fun t=>match P[t]? with
 | some p=>hv n t p
 | none=>[]
theorem jXv {P:List (Nat×Nat)} {n k:Nat} {p:Nat×Nat} (h:P[k]? =some p):hvs P n (k+1)=hvs P n k++hv n k p:=by
 unfold hvs
 rw[lKu,List.flatMap_append]
 simp[h]
theorem kUr {n t:Nat} {p:Nat×Nat} {r t' s:Nat} (h:(r,t',s)∈hv n t p):t'=t/\s<=2/\((p.2=n/\s=2/\r=p.1)\/(p.2≠n/\s=0/\r=p.1)\/(p.2≠n/\s=1/\r=p.2)):=by
 unfold hv at h
 split at h
 ·rename_i hp;simp at h;obtain⟨rfl,rfl,rfl⟩:=h;exact⟨rfl,by omega,.inl ⟨hp,rfl,rfl⟩⟩
 ·rename_i hp;simp at h
  rcases h with ⟨rfl,rfl,rfl⟩ | ⟨rfl,rfl,rfl⟩
  ·exact⟨rfl,by omega,.inr (.inl ⟨hp,rfl,rfl⟩)⟩
  ·exact⟨rfl,by omega,.inr (.inr ⟨hp,rfl,rfl⟩)⟩
theorem kK7 {P:List (Nat×Nat)} {n k:Nat} {r t s:Nat} (h:(r,t,s)∈hvs P n k):∃p,P[t]? =some p/\t<k/\(r,t,s)∈hv n t p:=by
 unfold hvs at h
 rw[List.mem_flatMap] at h
 obtain⟨t',h1,h2⟩:=h
 cases e:P[t']? with
 | none=>rw[e] at h2;cases h2
 | some p=>
  rw[e] at h2
  have h2:(r,t,s)∈hv n t' p:=h2
  have ht:=(kUr h2).1
  subst ht
  exact⟨p,e,lJv.mp h1,h2⟩
theorem hvs_of {P:List (Nat×Nat)} {n k:Nat} {r t s:Nat} {p:Nat×Nat} (h:P[t]? =some p) (hk:t<k) (hm:(r,t,s)∈hv n t p):(r,t,s)∈hvs P n k:=by
 unfold hvs
 rw[List.mem_flatMap]
 exact⟨t,lJv.mpr hk,by rw[h];exact hm⟩
theorem kK6 {P:List (Nat×Nat)} {n:Nat}:∀k,((hvs P n k).map fun x=>x.2).Nodup
 | 0=>by simp[hvs]
 | k+1=>by
  cases e:P[k]? with
  | none=>
   have:hvs P n (k+1)=hvs P n k:=by unfold hvs;rw[lKu,List.flatMap_append];simp[e]
   rw[this];exact kK6 k
  | some p=>
   rw[jXv e,lJu,lKy]
   refine⟨kK6 k,by unfold hv;split<;>simp,?_⟩
   intro a ha b hb
   obtain⟨⟨r,t,s⟩,h1,rfl⟩:=lJp.mp ha
   obtain⟨⟨r',t',s'⟩,h2,rfl⟩:=lJp.mp hb
   obtain⟨_,_,h3,_⟩:=kK7 h1
   have h4:=(kUr h2).1
   intro z
   have:t=t':=congrArg Prod.fst z
   omega
theorem kXo {P:List (Nat×Nat)} {n:Nat}:∀k,(hvs P n k).length<=2*k
 | 0=>by simp[hvs]
 | k+1=>by
  have ih:=kXo (P:=P) (n:=n) k
  cases e:P[k]? with
  | none=>
   have:hvs P n (k+1)=hvs P n k:=by unfold hvs;rw[lKu,List.flatMap_append];simp[e]
   rw[this];omega
  | some p=>
   rw[jXv e,lJo]
   have:(hv n k p).length<=2:=by unfold hv;split<;>simp
   omega
structure HalfL (L:List (Nat×Nat×Nat)) (n:Nat) (Hs:Web):Prop where
 len:Hs.length=n
 perm:∀(r:Nat) (hs:List (Nat×Nat)),Hs[r]? =some hs->hs.Perm ((L.filter fun x=>x.1 == r).map fun x=>x.2)
theorem ins_perm {α:Type} {xs:List α} {k:Nat} {y:α}:(xs.take k++y::xs.drop k).Perm (xs++[y]):=by
 have h1:(xs.take k++y::xs.drop k).Perm (y::(xs.take k++xs.drop k)):=List.perm_middle
 rw[List.take_append_drop] at h1
 exact h1.trans (List.perm_append_comm (l₁:=[y]) (l₂:=xs))
theorem HalfL.ins {L:List (Nat×Nat×Nat)} {n:Nat} {Hs:Web} {r k:Nat} {hs:List (Nat×Nat)} {e:Nat×Nat} (h:HalfL L n Hs) (hr:Hs[r]? =some hs):HalfL (L++[(r,e)]) n (Hs.set r (hs.take k++e::hs.drop k)) where
 len:=by rw[lKo];exact h.len
 perm:=fun r' hs' h'=>by
  have hrl:r<Hs.length:=(lJa.mp hr).1
  rw[List.filter_append,lJu]
  by_cases hi:r'=r
  ·subst hi
   rw[lJ2 hrl] at h'
   cases h'
   have:=h.perm r' hs hr
   refine ins_perm.trans ?_
   simp
   exact this.append_right [e]
  ·rw[lJz (Ne.symm hi)] at h'
   have:=h.perm r' hs' h'
   have hne:¬ r=r':=fun z=>hi z.symm
   simp[hne]
   exact this
theorem HalfL.mem {L:List (Nat×Nat×Nat)} {n:Nat} {Hs:Web} {r i:Nat} {e:Nat×Nat} (h:HalfL L n Hs) (he:en Hs r i=some e):(r,e)∈L:=by
 obtain⟨es,h1,h2⟩:=jUv he
 have:=(h.perm r es h1).mem_iff.mp (lJe h2)
 obtain⟨⟨r',e'⟩,h3,rfl⟩:=lJp.mp this
 obtain⟨h4,h5⟩:=lK6.mp h3
 have:r'=r:=by simpa using h5
 subst this;exact h4
theorem HalfL.of {L:List (Nat×Nat×Nat)} {n:Nat} {Hs:Web} {r:Nat} {e:Nat×Nat} (h:HalfL L n Hs) (hr:r<n) (he:(r,e)∈L):∃i,en Hs r i=some e:=by
 have hrl:r<Hs.length:=by rw[h.len];exact hr
 have h1:Hs[r]? =some Hs[r]:=lJc hrl
 have:e∈Hs[r]:=(h.perm r _ h1).mem_iff.mpr (lJp.mpr ⟨(r,e),lK6.mpr ⟨he,by simp⟩,rfl⟩)
 obtain⟨i,hi⟩:=lJq this
 exact⟨i,jVo h1 hi⟩
def kXz (P:List (Nat×Nat)) (n:Nat):Prop:=∀p,p∈P->p.1<n/\p.2<=n
theorem HalfL.ok {P:List (Nat×Nat)} {n:Nat} {Hs:Web} (h:HalfL (hvs P n P.length) n Hs) (hp:kXz P n) (hn:n<=1000) (hl:P.length<=500):JoinOk Hs where
 len:=by rw[h.len];exact hn
 row:=fun r hs hr=>by
  rw[(h.perm r hs hr).length_eq,lJb]
  have h1:=List.length_filter_le (fun x:Nat×Nat×Nat=>x.1 == r) (hvs P n P.length)
  have h2:=kXo (P:=P) (n:=n) P.length
  omega
 inj:=fun r i r' i' e h1 h2=>by
  obtain⟨t,s⟩:=e
  obtain⟨p,q1,q2,q3⟩:=kK7 (h.mem h1)
  obtain⟨p',q1',q2',q3'⟩:=kK7 (h.mem h2)
  rw[q1] at q1';cases q1'
  have m1:=(kUr q3).2.2
  have m2:=(kUr q3').2.2
  have hrr:r=r':=by
   rcases m1 with ⟨a,b,c⟩ | ⟨a,b,c⟩ | ⟨a,b,c⟩<;>rcases m2 with ⟨a',b',c'⟩ | ⟨a',b',c'⟩ | ⟨a',b',c'⟩<;>omega
  subst hrr
  refine⟨rfl,?_⟩
  obtain⟨es,z1,z2⟩:=jUv h1
  obtain⟨es',z3,z4⟩:=jUv h2
  rw[z1] at z3;cases z3
  have nd:es.Nodup:=by
   rw[(h.perm r es z1).nodup_iff]
   exact (List.filter_sublist.map _).nodup (kK6 _)
  exact (lK0 (lJa.mp z2).1 nd).mp (z2.trans z4.symm)
 part:=fun r i t s h1=>by
  obtain⟨p,q1,q2,q3⟩:=kK7 (h.mem h1)
  obtain⟨_,h2,m⟩:=kUr q3
  refine⟨h2,?_⟩
  have hpp:=hp p (lJe q1)
  rcases m with ⟨a,rfl,c⟩ | ⟨a,rfl,c⟩ | ⟨a,rfl,c⟩
  ·exact⟨r,i,h1⟩
  ·obtain⟨i',h3⟩:=h.of (r:=p.2) (e:=(t,1)) (by omega) (hvs_of q1 q2 (by unfold hv;rw[if_neg a];simp))
   exact⟨p.2,i',h3⟩
  ·obtain⟨i',h3⟩:=h.of (r:=p.1) (e:=(t,0)) (by omega) (hvs_of q1 q2 (by unfold hv;rw[if_neg a];simp))
   exact⟨p.1,i',h3⟩
structure Made (P:List (Nat×Nat)) (n:Nat) (W:Web):Prop where
 len:W.length=n
 sym:Sym W
 deg:∀(r:Nat) (es:List (Nat×Nat)),W[r]? =some es->es.length=((hvs P n P.length).filter fun x=>x.1 == r).length
 tie:∀p,p∈P->p.2<n->∃i j,en W p.1 i=some (p.2,j)
theorem made_of {P:List (Nat×Nat)} {n:Nat} {Hs W:Web} (h:HalfL (hvs P n P.length) n Hs) (hp:kXz P n) (ok:JoinOk Hs) (J:Joined Hs W):Made P n W where
 len:=by rw[J.len,h.len]
 sym:=J.sym ok
 deg:=fun r es hr=>by
  have hrl:r<Hs.length:=by rw[<-J.len];exact (lJa.mp hr).1
  obtain⟨es',h1,h2⟩:=J.row r _ (lJc hrl)
  rw[hr] at h1;cases h1
  rw[h2,(h.perm r _ (lJc hrl)).length_eq,lJb]
 tie:=fun p hpm hpn=>by
  obtain⟨t,ht⟩:=lJq hpm
  have htl:t<P.length:=(lJa.mp ht).1
  have hne:¬ p.2=n:=by omega
  obtain⟨i,h1⟩:=h.of (r:=p.1) (e:=(t,0)) (hp p hpm).1 (hvs_of ht htl (by unfold hv;rw[if_neg hne];simp))
  obtain⟨j,h2⟩:=h.of (r:=p.2) (e:=(t,1)) hpn (hvs_of ht htl (by unfold hv;rw[if_neg hne];simp))
  exact⟨i,j,J.to _ _ _ _ _ _ h1 h2⟩
theorem Keep.none {b p:Addr} {G G':Gp} (h:Keep b G G') (hb:p≠b) (hp:G' p=none):G p=none:=by
 cases e:G p with
 | none=>rfl
 | some o=>rw[h p o hb e] at hp;cases hp
theorem insT_map {xs:List (Nat×Nat)} {k:Nat} {y:Nat×Nat}:insT (xs.map encE) k (encE y)=(xs.take k++y::xs.drop k).map encE:=by simp[insT,List.map_take,List.map_drop]
theorem HalfL.len_le {L:List (Nat×Nat×Nat)} {n:Nat} {Hs:Web} {r:Nat} {hs:List (Nat×Nat)} (h:HalfL L n Hs) (hr:Hs[r]? =some hs):hs.length<=L.length:=by
 rw[(h.perm r hs hr).length_eq,lJb];exact List.length_filter_le _ _
theorem kQc {E:Ends3} {G G2:Gp} {b D p:Addr} {rs:List Addr} {n k m':Nat} {S:List (Nat×Nat)} {L:List (Nat×Nat×Nat)} {Hs:Web} {w1 w2 w5 w6 w8 w9:Option T}
  (h1:HalfL L n Hs) (h2:RowsAt G2 D Hs rs) (h3:BoxAt G2 b m') (h4:Keep b G G2) (hnd:(D::rs).Nodup) (hbn:b∉D::rs) (hfr:∀r,r∈D::rs->G r=none) (hp:G2 p=some (.lst (S.map encE))) (hpn:p∉D::rs) (hpb:p≠b) (hS:∀x,x∈S->x.1<n) (hm:m'+S.length<2^40) (hL:L.length+S.length<10000)
  (kk:∀G' Hs' v8 v9,HalfL (L++S.map fun x=>(x.1,k,x.2)) n Hs'->RowsAt G' D Hs' rs->BoxAt G' b (m'+S.length)->Keep b G G'->E.nx [some (.ref b),w1,w2,some (.ref D),some (.int k),w5,w6,some (.ref p),v8,v9] G'):
  ForAt (gTup 2 (jKg (jJj 8) (jKg (jJj 9) gNil))) (jQl (tBM "list" kKn (tOp rIxF (tVar 3) (tVar 8)) (jJb (jJw jJt (jJb (tVar 0) (jJb (tOp jQi (tCB rLen (jJb (tOp rIxF (tVar 3) (tVar 8)) tNil)) (tC (T.int 1))) tNil))) (jJb (tTup (jJb (tVar 4) (jJb (tVar 9) tNil))) tNil)))) E
   [some (.ref b),w1,w2,some (.ref D),some (.int k),w5,w6,some (.ref p),w8,w9] (S.map encE) (fun G'=>seqT G' (.ref p)=some (S.map encE)) G2:=by
 have hs:=sz
 refine⟨fun j τ G'=>∃(v8 v9:Option T) (Hs:Web),τ=[some (.ref b),w1,w2,some (.ref D),some (.int k),w5,w6,some (.ref p),v8,v9]/\HalfL (L++(S.take j).map fun x=>(x.1,k,x.2)) n Hs/\RowsAt G' D Hs rs/\BoxAt G' b (m'+j)/\Keep b G G'/\G' p=some (.lst (S.map encE)),?_,?_,?_,?_⟩
 ·exact⟨w8,w9,Hs,rfl,by simpa using h1,h2,h3,h4,hp⟩
 ·intro j τ G' hj h_;apply xe3 h_;clear h_;intro v8 v9 Hs h_;apply ae5 h_;clear h_;intro i1 i2 i3 i4 i5
  exact jJp i5
 ·intro j x τ G' hx0 h_;apply xe3 h_;clear h_;intro v8 v9 Hs h_;apply ae5 h_;clear h_;intro i1 i2 i3 i4 i5
  obtain⟨⟨r,s⟩,hx,rfl⟩:=jQ5 hx0
  have hj:j<S.length:=(lJa.mp hx).1
  have hr:r<n:=hS _ (lJe hx)
  have hrl:r<rs.length:=by rw[i2.2.1,i1.len];exact hr
  have hra:rs[r]? =some rs[r]:=lJc hrl
  generalize rs[r]=a at hra
  obtain⟨hs',hh1,hh2⟩:=i2.2.2 r a hra
  have hat:L2.atI (rs.map T.ref) (r:Int)=some (.ref a):=by rw[atN];simp[hra]
  have hle:=i1.len_le hh1
  have hlt:(L++(S.take j).map fun x=>(x.1,k,x.2)).length<10000:=by simp;omega
  wp_walk using 1,encE,jQu i2.1,hat,jK2 hh2,jJp hh2,lJb
  refine⟨b,_,m'+j,rfl,i3,by omega,by omega,by omega,fun c G3 c0 c1 bx kp=> ?_⟩
  have ham:a∈D::rs:=lJ1 _ (lJe hra)
  have hab:a≠b:=by rintro rfl;exact hbn ham
  have hap:a≠p:=by rintro rfl;exact hpn ham
  have i2':=i2.keep kp hbn
  refine⟨by omega,hs'.map encE,c,rfl,kp _ _ hab hh2,c0,by simp;omega,by simp;omega,?_⟩
  rw[show T.tup [T.int (k:Int),T.int (s:Int)]=encE (k,s) from rfl,insT_map]
  refine⟨Hs.set r (hs'.take c.toNat++(k,s)::hs'.drop c.toNat),?_,i2'.set hnd hra,?_,(i4.trans kp).over (hfr a ham),?_⟩
  ·have:=i1.ins (k:=c.toNat) (e:=(k,s)) hh1
   rw[lKa,hx,lJu,<-lKl]
   exact this
  ·exact bx.gup hab.symm
  ·rw[jJi hap.symm];exact kp _ _ hpb i5
 ·intro τ G' h_;apply xe3 h_;clear h_;intro v8 v9 Hs h_;apply ae5 h_;clear h_;intro i1 i2 i3 i4 i5
  rw[lJb] at i1 i3
  rw[lKf] at i1
  exact kk G' Hs v8 v9 i1 i2 i3 i4
theorem jZk {xs:List T}:(numT xs).length=xs.length:=by simp[numT]
noncomputable def jKc:Sp3:=fun xs G Q=>∃(b pr:Addr) (P:List (Nat×Nat)) (n m:Nat),xs=[.ref b,.ref pr,.int n]/\BoxAt G b m/\m+2*P.length<2^40/\pr≠b/\G pr=some (.lst (P.map encE))/\kXz P n/\n<=1000/\P.length<=500/\∀W G',Made P n W->BoxAt G' b (m+2*P.length)->Keep b G G'->Q (encW W) G'
noncomputable def jZt:List Str:=["_law_box_here","_law_pairs","_law_many","_law_halves","_law_tie","_law_one","_law_other","_law_sides","_law_room","_law_side"]
noncomputable def jUz:TS3:=
 (tSeq (tAsg (jU3 [false,false,false,false,false,false,false,false,true,false] (jQo (jJb (tVar 2) tNil)) (jJj 8) jU8 (tLst tNil)) (jJj 3))
 (tSeq (tFor (kJc (jJb (tVar 1) tNil)) (gTup 2 (jKg (jJj 4) (jKg (gTup 2 (jKg (jJj 5) (jKg (jJj 6) gNil))) gNil))) (tSeq (tAsg (tIf (jJ7 (tOp rEqA (tVar 6) (tVar 2))) (tLst (jJb (tTup (jJb (tVar 5) (jJb (tC (.int 2)) tNil))) tNil)) (tLst (jJb (tTup (jJb (tVar 5) (jJb (tC (.int 0)) tNil))) (jJb (tTup (jJb (tVar 6) (jJb (tC (.int 1)) tNil))) tNil)))) (jJj 7))
 (tFor (iSeq (tVar 7)) (gTup 2 (jKg (jJj 8) (jKg (jJj 9) gNil))) (jQl (tBM "list" kKn (tOp rIxF (tVar 3) (tVar 8)) (jJb (jJw jJt (jJb (tVar 0) (jJb (tOp jQi (tCB rLen (jJb (tOp rIxF (tVar 3) (tVar 8)) tNil)) (tC (.int 1))) tNil))) (jJb (tTup (jJb (tVar 4) (jJb (tVar 9) tNil))) tNil)))))))
 (tRet (jJw jK9 (jJb (tVar 3) tNil)))))
theorem jY9 {n:Nat}:rngT 0 n=(List.range n).map fun (k:Nat)=>T.int k:=by simp[rngT]
theorem kJn:∀xs G Q,jKc xs G Q->jUz {nx:=fun _ G'=>Q .non G',rt:=Q} (jJk jZt xs) G:=by
 intro xs G Q h_;apply xe5 h_;clear h_;intro b pr P n m h_;apply ae8 h_;clear h_;intro hb hm hpb hpr hP hn hPl kk
 rw[show jJk jZt [.ref b,.ref pr,.int n]=[some (.ref b),some (.ref pr),some (.int n),none,none,none,none,none,none,none] from rfl]
 have hs:=sz
 wp_walk using 1,jUz,jJ6,jQo,kJc
 refine⟨by omega,by omega,?_⟩
 rw[show ((n:Int)).toNat=n by omega,jY9]
 refine kUv (fun _=>[]) (by simp;omega) (fun _ _=>trivial) ?_ ?_
 ·intro i e he G' K K0 s hk
  wp_walk using 1,tSeq
  exact⟨lJg _,fun p hp=>hk p _ hp jJg (.new hp)⟩
 ·intro D rs G1 hD hD1 s1 hrl hnd hrs
  rw[lK1] at hrl
  obtain⟨bo,hbo⟩:=hb.some
  have hbn:b∉D::rs:=by
   intro z
   rw[lJn] at z
   rcases z with rfl | z
   ·rw[hD] at hbo;cases hbo
   ·obtain⟨j,hj⟩:=lJq z
    have hjl:j<rs.length:=(lJa.mp hj).1
    have:=(hrs j b j hj (by rw[lQa (by omega)])).1
    rw[this] at hbo;cases hbo
  have hfr:∀r,r∈D::rs->G r=none:=by
   intro r z
   rw[lJn] at z
   rcases z with rfl | z
   ·exact hD
   ·obtain⟨j,hj⟩:=lJq z
    have hjl:j<rs.length:=(lJa.mp hj).1
    exact (hrs j r j hj (by rw[lQa (by omega)])).1
  refine⟨P.map encE,by simp only[jU4,s1 _ _ hpr,asL],?_⟩
  refine⟨fun k τ G'=>∃(v4 v5 v6 v7 v8 v9:Option T) (Hs:Web),τ=[some (.ref b),some (.ref pr),some (.int n),some (.ref D),v4,v5,v6,v7,v8,v9]/\HalfL (hvs P n k) n Hs/\RowsAt G' D Hs rs/\BoxAt G' b (m+2*k)/\Keep b G G',?_,?_,?_,?_⟩
  ·refine⟨none,none,none,none,none,none,List.replicate n [],rfl,⟨by simp,?_⟩,⟨hD1,by simp[hrl],?_⟩,hb.sub s1,.sub s1⟩
   ·intro r hs' h
    have:hs'=[]:=by rw[lQj] at h;split at h;cases h;rfl;cases h
    subst this;simp[hvs]
   ·intro i r h
    have hi:i<n:=by rw[<-hrl];exact (lJa.mp h).1
    exact⟨[],by simp[hi],(hrs i r i h (by simp[hi])).2⟩
  ·intro k τ G' hk h_;apply xe7 h_;clear h_;intro v4 v5 v6 v7 v8 v9 Hs h_;apply ae4 h_;clear h_;intro h1 h2 h3 h4
   simp only[jU4,h4 _ _ hpb hpr,asL]
  ·intro k x τ G2 hx h_;apply xe7 h_;clear h_;intro v4 v5 v6 v7 v8 v9 Hs h_;apply ae4 h_;clear h_;intro h1 h2 h3 h4
   have hk:k<P.length:=by have:=(lJa.mp hx).1;simpa[jZk] using this
   rw[jVc (x:=encE P[k]) (by simp[hk])] at hx
   cases hx
   generalize hpk:P[k]=p
   have hpe:P[k]? =some p:=by rw[lJc hk,hpk]
   obtain⟨a,c⟩:=p
   obtain⟨ha,hc⟩:=hP _ (lJe hpe)
   have ha:a<n:=ha
   have hc:c<=n:=hc
   wp_walk using 1,encE,rEqA,iSeq,jJ6
   rw[show eqG G2 (T.int (c:Int)) (T.int (n:Int))=some (decide ((c:Int)=n)) from rfl]
   have hL:=kXo (P:=P) (n:=n) k
   refine⟨_,rfl,?_⟩
   have fresh:∀p,G2 p=none->p∉D::rs/\p≠b:=by
    intro p hp
    refine⟨fun z=> ?_,?_⟩
    ·rw[lJn] at z
     rcases z with rfl | z
     ·rw[h2.1] at hp;cases hp
     ·obtain⟨j,hj⟩:=lJq z
      obtain⟨_,_,q⟩:=h2.2.2 j p hj
      rw[q] at hp;cases hp
    ·rintro rfl
     obtain⟨o,ho⟩:=h3.some
     rw[ho] at hp;cases hp
   by_cases hcn:c=n
   ·rw[if_pos (by simp[hcn])]
    refine⟨by omega,by omega,fun p hp=> ?_⟩
    obtain⟨f1,f2⟩:=fresh p hp
    refine kQc (S:=[(a,2)]) h1 (h2.sub (.new hp)) (h3.gup f2.symm) (h4.over (h4.none f2 hp)) hnd hbn hfr jJg f1 f2 (by simp[ha]) (by simp;omega) (by simp;omega) ?_
    intro G' Hs' v8 v9 i1 i2 i3 i4
    refine⟨_,_,_,_,_,_,rfl,Hs',?_,i2,i3.mono (by simp;omega),i4⟩
    rw[jXv hpe];unfold hv;rw[if_pos hcn];exact i1
   ·rw[if_neg (by simp;omega)]
    refine⟨by omega,by omega,by omega,fun p hp=> ?_⟩
    obtain⟨f1,f2⟩:=fresh p hp
    refine kQc (S:=[(a,0),(c,1)]) h1 (h2.sub (.new hp)) (h3.gup f2.symm) (h4.over (h4.none f2 hp)) hnd hbn hfr jJg f1 f2 (by simp;omega) (by simp;omega) (by simp;omega) ?_
    intro G' Hs' v8 v9 i1 i2 i3 i4
    refine⟨_,_,_,_,_,_,rfl,Hs',?_,i2,i3.mono (by simp;omega),i4⟩
    rw[jXv hpe];unfold hv;rw[if_neg hcn];exact i1
  ·intro τ G' h_;apply xe7 h_;clear h_;intro v4 v5 v6 v7 v8 v9 Hs h_;apply ae4 h_;clear h_;intro h1 h2 h3 h4
   rw[jZk,lJb] at h1 h3
   wp_walk using 1,tSeq
   have ok:=h1.ok hP hn hPl
   refine⟨D,Hs,rs,rfl,h2,ok,fun G3 W s3 J=> ?_⟩
   exact kk W G3 (made_of h1 hP ok J) (h3.sub s3) (h4.trans (.sub s3))
noncomputable def dgr (P:List (Nat×Nat)) (n r:Nat):Nat:=((hvs P n P.length).filter fun x=>x.1 == r).length
noncomputable def jU5 (n:Nat) (p:Nat×Nat):List Nat:=if p.2=n then [p.1] else [p.1,p.2]
theorem hvs_app {P Q:List (Nat×Nat)} {n:Nat}:∀k,k<=P.length->hvs (P++Q) n k=hvs P n k
 | 0,_=>rfl
 | k+1,h=>by
  have e:P[k]? =some P[k]:=lJc (by omega)
  rw[jXv e,jXv (p:=P[k]) (by rw[lJ0 (by omega)];exact e),hvs_app k (by omega)]
theorem hvs_snoc {P:List (Nat×Nat)} {n:Nat} {p:Nat×Nat}:hvs (P++[p]) n (P++[p]).length=hvs P n P.length++hv n P.length p:=by
 rw[lJo,List.length_singleton,jXv (p:=p) (by simp),hvs_app _ (lJd _)]
theorem hv_cnt {n t r:Nat} {p:Nat×Nat}:((hv n t p).filter fun x=>x.1 == r).length=(jU5 n p).count r:=by
 unfold hv jU5
 split
 ·by_cases h:p.1=r<;>simp[h]
 ·by_cases h:p.1=r<;>by_cases h':p.2=r<;>simp[h,h',List.filter_cons]
theorem kKb {P:List (Nat×Nat)} {n r:Nat} {p:Nat×Nat}:dgr (P++[p]) n r=dgr P n r+(jU5 n p).count r:=by
 unfold dgr
 rw[hvs_snoc,List.filter_append,lJo,hv_cnt]
theorem flt_succ {L:List (Nat×Nat×Nat)} {k:Nat}:(L.filter fun x=>decide (x.1<k+1)).length=(L.filter fun x=>decide (x.1<k)).length+(L.filter fun x=>x.1 == k).length:=by
 induction L with
 | nil=>rfl
 | cons a as ih=>
  rw[List.filter_cons,List.filter_cons,List.filter_cons]
  rcases lQd a.1 k with h | h | h
  ·have h1:a.1<k+1:=by omega
   have h2:¬ a.1=k:=by omega
   simp[h,h1,h2,ih];omega
  ·have h1:a.1<k+1:=by omega
   simp[h,ih];omega
  ·have h1:¬ a.1<k+1:=by omega
   have h2:¬ a.1=k:=by omega
   have h3:¬ a.1<k:=by omega
   simp[h1,h2,h3,ih]
theorem pigeon {L:List (Nat×Nat×Nat)} {d:Nat}:∀k,(∀r,r<k->d<=(L.filter fun x=>x.1 == r).length)->k*d<=(L.filter fun x=>decide (x.1<k)).length
 | 0,_=>by simp
 | k+1,h=>by
  rw[flt_succ,lKx]
  have h1:=pigeon k fun r hr=>h r (by omega)
  have h2:=h k (by omega)
  omega
theorem free_room {P:List (Nat×Nat)} {n d k:Nat} (hd:2<=d) (hk:P.length<k):∃r,r<k/\dgr P n r<d:=by
 apply lKg
 intro h
 have h1:∀r,r<k->d<=((hvs P n P.length).filter fun x=>x.1 == r).length:=fun r hr=>by
  rcases lJw (dgr P n r) d with z | z
  ·exact absurd ⟨r,hr,z⟩ h
  ·exact z
 have h2:=pigeon k h1
 have h3:=List.length_filter_le (fun x:Nat×Nat×Nat=>decide (x.1<k)) (hvs P n P.length)
 have h4:=kXo (P:=P) (n:=n) P.length
 have h5:k*2<=k*d:=Nat.mul_le_mul_left k hd
 omega
theorem dgr_zero {P:List (Nat×Nat)} {n k r:Nat} (h:∀p,p∈P->p.1<k/\p.2<k) (hr:k<=r):dgr P n r=0:=by
 unfold dgr
 rw[lKq,List.filter_eq_nil_iff]
 rintro⟨a,t,s⟩ hx
 obtain⟨p,h1,h2,h3⟩:=kK7 hx
 have h4:=h p (lJe h1)
 have h5:=(kUr h3).2.2
 simp
 omega
noncomputable def jVk (n:Nat) (f:Nat->Nat):List T:=(List.range n).map fun r=>T.int (f r)
theorem kU6 {n:Nat} {f:Nat->Nat} {r:Nat} (h:r<n):L2.atI (jVk n f) (r:Int)=some (.int (f r)):=by rw[atN];simp[jVk,h]
theorem usedT_len {n:Nat} {f:Nat->Nat}:(jVk n f).length=n:=by simp[jVk]
theorem usedT_set {n:Nat} {f:Nat->Nat} {r v:Nat}:(jVk n f).set r (.int v)=jVk n fun x=>if x=r then v else f x:=by
 apply lKc
 intro i
 by_cases hi:i=r
 ·subst hi
  by_cases h:i<n
  ·rw[lJ2 (by simpa[jVk] using h)];simp[jVk,h]
  ·rw[lJh (by simp[jVk];omega),lJh (by simp[jVk];omega)]
 ·rw[lJz (Ne.symm hi)]
  by_cases h:i<n
  ·simp[jVk,h,hi]
  ·rw[lJh (by simp[jVk];omega),lJh (by simp[jVk];omega)]
theorem bump {E:Ends3} {G2:Gp} {u:Addr} {n:Nat} {f:Nat->Nat} {es:List Nat} {stay:Gp->Prop} {w0 w1 w2 w4 w5 w6 w7 w8 w9 w10 w11:Option T} (hu:G2 u=some (.lst (jVk n f))) (hst:∀G',(∀c,c≠u->G' c=G2 c)->stay G') (hes:∀e,e∈es->e<n)
  (kk:∀G' v7,G' u=some (.lst (jVk n fun r=>f r+es.count r))->(∀c,c≠u->G' c=G2 c)->E.nx [w0,w1,w2,some (.ref u),w4,w5,w6,v7,w8,w9,w10,w11] G'):
  ForAt (jJj 7) (tAsg (tOp jQi (tOp rIxF (tVar 3) (tVar 7)) (tC (.int 1))) (gSub (tVar 3) (tVar 7) jXr)) E [w0,w1,w2,some (.ref u),w4,w5,w6,w7,w8,w9,w10,w11] (es.map fun e=>T.int (e:Nat)) stay G2:=by
 refine⟨fun j τ G'=>∃v7,τ=[w0,w1,w2,some (.ref u),w4,w5,w6,v7,w8,w9,w10,w11]/\G' u=some (.lst (jVk n fun r=>f r+(es.take j).count r))/\(∀c,c≠u->G' c=G2 c),?_,?_,?_,?_⟩
 ·exact⟨w7,rfl,by simpa using hu,fun _ _=>rfl⟩
 ·intro j τ G' hj h_;apply xe1 h_;clear h_;intro v7 h_;apply ae2 h_;clear h_;intro h1 h2
  exact hst G' h2
 ·intro j x τ G' hx0 h_;apply xe1 h_;clear h_;intro v7 h_;apply ae2 h_;clear h_;intro h1 h2
  obtain⟨e,hx,rfl⟩:=jQ5 hx0
  have he:=hes e (lJe hx)
  have hix:L2.ixN (jVk n fun r=>f r+(es.take j).count r).length (e:Int)=some e:=kUd (by rw[usedT_len];exact he)
  wp_walk using 1,jQu h1,kU6 he,jY8 h1 hix
  refine⟨?_,fun c hc=>by rw[jJi hc];exact h2 c hc⟩
  rw[show T.int (((f e+(es.take j).count e:Nat):Int)+1)=T.int ((f e+(es.take j).count e+1:Nat):Int) by simp,usedT_set]
  congr 1
  funext r
  rw[lKa,hx,Option.toList_some,List.count_append]
  by_cases hr:r=e
  ·subst hr;simp;omega
  ·have:¬ e=r:=fun z=>hr z.symm
   simp[hr,this]
 ·intro τ G' h_;apply xe1 h_;clear h_;intro v7 h_;apply ae2 h_;clear h_;intro h1 h2
  rw[lJb,lKf] at h1
  exact kk G' v7 h1 h2
structure WebOk (n d:Nat) (W:Web):Prop where
 len:W.length=n
 sym:Sym W
 deg:∀(r:Nat) (es:List (Nat×Nat)),W[r]? =some es->es.length<=d
 low:∀r,1<=r->r<n->∃i a j,en W r i=some (a,j)/\a<r
structure POk (P:List (Nat×Nat)) (n d k:Nat):Prop where
 ok:kXz P n
 deg:∀r,r<n->dgr P n r<=d
 low:∀r,1<=r->r<k->∃p,p∈P/\p.2=r/\p.1<r
theorem POk.web {P:List (Nat×Nat)} {n d:Nat} {W:Web} (h:POk P n d n) (m:Made P n W):WebOk n d W where
 len:=m.len
 sym:=m.sym
 deg:=fun r es hr=>by
  rw[m.deg r es hr];exact h.deg r (by rw[<-m.len];exact (lJa.mp hr).1)
 low:=fun r h1 h2=>by
  obtain⟨p,q1,q2,q3⟩:=h.low r h1 h2
  obtain⟨i,j,q4⟩:=m.tie p q1 (by omega)
  have:=m.sym _ _ _ _ q4
  rw[q2] at this
  exact⟨j,p.1,i,this,q3⟩
noncomputable def jUw:Sp3:=fun xs G Q=>∃(b:Addr) (n d m:Nat),xs=[.ref b,.int n,.int d]/\BoxAt G b m/\m+300<2^40/\1<=n/\n<=24/\2<=d/\d<=100/\∀W G',WebOk n d W->BoxAt G' b (m+300)->Keep b G G'->Q (encW W) G'
noncomputable def N_l_web:List Str:=["_law_box_here","_law_many","_law_most","_law_used","_law_pairs","_law_room","_law_free","_law_end","_law_turn_here","_law_pair","_law_ends_here","_law_one"]
noncomputable def kJ4:TS3:=
 (tSeq (tAsg (tOp jXs (tLst (jJb (tC (.int 0)) tNil)) (tVar 1)) (jJj 3))
 (tSeq (tAsg (tLst tNil) (jJj 4))
 (tSeq (tFor (iRng2 (jJb (tC (.int 1)) (jJb (tVar 1) tNil))) (jJj 5) (tSeq (tAsg (jU3 [false,false,false,false,false,false,false,false,false,false,false,true] (jQo (jJb (tVar 5) tNil)) (jJj 11) (jJ7 (tOp rLt (tOp rIxF (tVar 3) (tVar 11)) (tVar 2))) (tVar 11)) (jJj 6))
 (tSeq (jQl (tBM "list" jK3 (tVar 4) (jJb (tTup (jJb (tOp rIxF (tVar 6) (jJw jJt (jJb (tVar 0) (jJb (tCB rLen (jJb (tVar 6) tNil)) tNil)))) (jJb (tVar 5) tNil))) tNil)))
 (tFor (iSeq (tOp rIxF (tVar 4) (tUn rNeg (tC (.int 1))))) (jJj 7) (tAsg (tOp jQi (tOp rIxF (tVar 3) (tVar 7)) (tC (.int 1))) (gSub (tVar 3) (tVar 7) jXr))))))
 (tSeq (tFor (jQo (jJb (jJw jJt (jJb (tVar 0) (jJb (tOp jQi (tVar 1) (tC (.int 2))) tNil))) tNil)) (jJj 8) (tSeq (tAsg (tTup (jJb (jJw jJt (jJb (tVar 0) (jJb (tVar 1) tNil))) (jJb (jJw jJt (jJb (tVar 0) (jJb (tOp jQi (tVar 1) (tC (.int 1))) tNil))) tNil))) (jJj 9))
 (tSeq (tAsg (jU3 [false,false,false,false,false,false,false,true,false,false,false,false] (iSeq (tVar 9)) (jJj 7) (jJ7 (tOp rLt (tVar 7) (tVar 1))) (tVar 7)) (jJj 10))
 (tIfS (jJ7 (tCB rAll (jJb (jU3 [false,false,false,false,false,false,false,true,false,false,false,false] (iSeq (tVar 10)) (jJj 7) jU8 (tOp rLeF (tOp jQi (tOp rIxF (tVar 3) (tVar 7)) (tBM "list" rCount (tVar 10) (jJb (tVar 7) tNil))) (tVar 2))) tNil))) (tSeq (jQl (tBM "list" jK3 (tVar 4) (jJb (tVar 9) tNil)))
 (tFor (iSeq (tVar 10)) (jJj 7) (tAsg (tOp jQi (tOp rIxF (tVar 3) (tVar 7)) (tC (.int 1))) (gSub (tVar 3) (tVar 7) jXr)))) jQc))))
 (tRet (jJw jKc (jJb (tVar 0) (jJb (tVar 4) (jJb (tVar 1) tNil)))))))))
theorem rep_used {n:Nat}:(List.replicate n [T.int 0]).flatten=jVk n fun _=>0:=by
 have:(List.replicate n [T.int 0]).flatten=List.replicate n (T.int 0):=by
  induction n with
  | zero=>rfl
  | succ n ih=>rw[lKs,lK3,ih];rfl
 rw[this]
 apply lKc
 intro i
 by_cases h:i<n
 ·simp[jVk,h]
 ·rw[lJh (by simp;omega),lJh (by simp[jVk];omega)]
theorem rngT2_map {lo n:Nat}:rngT lo n=(List.range n).map fun (k:Nat)=>T.int ((lo+k:Nat):Int):=by simp[rngT]
theorem cnt_int {es:List Nat} {r:Nat}:(es.map fun e=>T.int (e:Nat)).countP (fun z=>eqT z (.int r))=es.count r:=by
 rw[List.countP_map,List.count]
 congr 1
 funext e
 simp only[eqT,Function.comp]
 by_cases h:e=r
 ·subst h;simp
 ·have h2:¬ (e:Int)=r:=by omega
  rw[beq_eq_false_iff_ne.mpr h,beq_eq_false_iff_ne.mpr h2]
theorem flat_ints {es:List Nat}:(es.map fun e=>T.int (e:Nat)).all jY5=true:=by
 rw[List.all_map,lK4];intros;rfl
theorem kQg {α:Type} {f:α->Bool}:∀ {es:List α},allBl (es.map fun e=>T.bl (f e))=some (es.all f)
 | []=>rfl
 | e::es=>by rw[lJm,allBl,kQg,lKw]
theorem rdok_l_web:∀xs G Q,jUw xs G Q->kJ4 {nx:=fun _ G'=>Q .non G',rt:=Q} (jJk N_l_web xs) G:=by
 intro xs G Q h_;apply xe4 h_;clear h_;intro b n d m h_;apply ae7 h_;clear h_;intro hb hm hn1 hn2 hd1 hd2 kk
 rw[show jJk N_l_web [.ref b,.int n,.int d]=[some (.ref b),some (.int n),some (.int d),none,none,none,none,none,none,none,none,none] from rfl]
 have hs:=sz
 wp_walk using 1,kJ4,jJ6,jQo,iRng2
 refine⟨by omega,fun z hz=> ?_⟩
 have e1:mulR (gup G z (GO.lst [T.int 0])) (.ref z) (.int n)=some (.newL (jVk n fun _=>0)):=by
  rw[<-rep_used]
  simp only[mulR,jJg];rw[if_pos];congr;refine⟨?_,?_,?_⟩<;>simp<;>omega
 wp_walk using 1,e1
 intro u hu
 obtain⟨huz,hu0⟩:=jK1 hu
 refine⟨lJg _,fun pr hpr=> ?_⟩
 obtain⟨hpu,hpr1⟩:=jK1 hpr
 obtain⟨hpz,hpr0⟩:=jK1 hpr1
 obtain⟨bo,hbo⟩:=hb.some
 have hbu:=jJd hbo hu0
 have hbp:=jJd hbo hpr0
 have hbz:=jJd hbo hz
 refine⟨by omega,by omega,by omega,by omega,?_⟩
 rw[show ((n:Int)-1).toNat=n-1 by omega,show rngT 1 (n-1)=rngT ((1:Nat):Int) (n-1) from rfl,rngT2_map]
 let J1:Nat->St3->Gp->Prop:=fun k τ G'=>∃(v5 v6 v7:Option T) (P:List (Nat×Nat)),τ=[some (.ref b),some (.int n),some (.int d),some (.ref u),some (.ref pr),v5,v6,v7,none,none,none,none]/\P.length=k/\POk P n d (k+1)/\(∀p,p∈P->p.1<k+1/\p.2<k+1)/\G' u=some (.lst (jVk n (dgr P n)))/\G' pr=some (.lst (P.map encE))/\BoxAt G' b (m+k)/\Keep b G G'
 refine⟨J1,?_,?_,?_,?_⟩
 ·refine xi4 none none none [] rfl ⟨rfl,⟨by intro p h;simp at h,fun r _=>by simp[dgr,hvs],fun r h1 h2=>by omega⟩,by intro p h;simp at h,by rw[jJi hpu.symm,jJg];rfl,jJg,((hb.gup hbz).gup hbu).gup hbp,(((Keep.new hz).over hu0).over hpr0)⟩
 ·intros;trivial
 ·intro k x τ G1 hx0 h_;apply xe4 h_;clear h_;intro v5 v6 v7 P h_;apply ae7 h_;clear h_;intro hPl hP hlt hgu hgp hbx hkp
  obtain⟨e,hx,rfl⟩:=jQ5 hx0
  obtain⟨hk,rfl⟩:k<n-1/\k=e:=by
   rw[lJa] at hx;obtain⟨q1,q2⟩:=hx;simp at q1 q2;exact⟨q1,q2⟩
  wp_walk using 1,iSeq,jQo,jJ6
  refine⟨by omega,by omega,?_⟩
  rw[show (((1+k:Nat)):Int).toNat=1+k by omega,jY9]
  refine kXw (fun r=>if dgr P n r<d then some (T.int (r:Nat)) else none) (by simp;omega) (fun _ _=>trivial) ?_ ?_
  ·intro i r hr G2 K K0 s2 hK hK0
   obtain⟨hr1,rfl⟩:i<1+k/\i=r:=by
    rw[lJa] at hr;obtain⟨q1,q2⟩:=hr;simp at q1 q2;exact⟨q1,q2⟩
   wp_walk using 1,jQu (s2 _ _ hgu),kU6 (show i<n by omega)
   by_cases hdg:dgr P n i<d
   ·rw[if_pos (by omega)]
    exact hK _ _ (by rw[if_pos hdg]) (.refl _)
   ·rw[if_neg (by omega)]
    exact hK0 (by rw[if_neg hdg]) _ (.refl _)
  ·intro fr G2 hfr hfr2 s2
   obtain⟨F,hF1,hF2⟩:∃F:List Nat,(List.range (1+k)).filterMap (fun r=>if dgr P n r<d then some (T.int (r:Nat)) else none)=F.map (fun r=>T.int (r:Nat))/\F=(List.range (1+k)).filter fun r=>decide (dgr P n r<d):=by
    refine⟨_,?_,rfl⟩
    generalize List.range (1+k)=l
    induction l with
    | nil=>rfl
    | cons a as ih=>
     rw[List.filterMap_cons,List.filter_cons]
     by_cases h:dgr P n a<d<;>simp[h,ih]
   rw[hF1] at hfr2
   have hFl:F.length<=1+k:=by rw[hF2];have:=List.length_filter_le (fun r=>decide (dgr P n r<d)) (List.range (1+k));rw[lK1] at this;exact this
   have hF0:1<=F.length:=by
    obtain⟨r,q1,q2⟩:=free_room (P:=P) (n:=n) (d:=d) (k:=1+k) hd1 (by omega)
    have:r∈F:=by rw[hF2,lK6];exact⟨lJv.mpr q1,by simpa using q2⟩
    exact List.length_pos_of_mem this
   have hgp2:=s2 _ _ hgp
   wp_walk using 1,jK2 hgp2,jJp hfr2,lJb
   refine⟨b,_,m+k,rfl,hbx.sub s2,by omega,by omega,by omega,fun c G3 c0 c1 bx kp=> ?_⟩
   have hfb:fr≠b:=by rintro rfl;obtain⟨o,ho⟩:=hbx.some;rw[ho] at hfr;cases hfr
   have hcF:c.toNat<F.length:=by omega
   have hca:L2.atI (F.map fun r=>T.int (r:Nat)) c=some (.int (F[c.toNat]:Nat)):=by rw[atZ c0];simp[hcF]
   have hmem:F[c.toNat]∈F:=List.getElem_mem hcF
   generalize F[c.toNat]=a at hca hmem
   rw[hF2,lK6] at hmem
   have ha1:a<1+k:=lJv.mp hmem.1
   have ha2:dgr P n a<d:=by simpa using hmem.2
   have hgp3:=kp _ _ hbp.symm hgp2
   have hgu3:=kp _ _ hbu.symm (s2 _ _ hgu)
   wp_walk using 1,jQu (kp _ _ hfb hfr2),hca,hgp3
   refine⟨by omega,by simp;omega,_,at_last,[T.int (a:Nat),T.int ((1+k:Nat):Int)],rfl,?_⟩
   have hne:u≠pr:=hpu.symm
   have hE:jU5 n (a,1+k)=[a,1+k]:=by unfold jU5;rw[if_neg (show ¬ (1+k)=n by omega)]
   refine bump (es:=[a,1+k]) (n:=n) (f:=dgr P n) (by rw[jJi hne];exact hgu3) (fun _ _=>rfl) (by simp;omega) ?_
   intro G4 v7 hu4 hk4
   have hlt':∀p,p∈P++[(a,1+k)]->p.1<k+1+1/\p.2<k+1+1:=by
    intro p hp
    rw[lJt,lJk] at hp
    rcases hp with hp | rfl
    ·have:=hlt p hp;omega
    ·exact⟨by show a<_;omega,by show 1+k<_;omega⟩
   refine xi4 _ _ _ (P++[(a,1+k)]) rfl ⟨by simp[hPl],⟨?_,?_,?_⟩,hlt',?_,?_,?_,?_⟩
   ·intro p hp
    have:=hlt' p hp;omega
   ·intro r hr
    rw[kKb,hE]
    have h0:=hP.deg r hr
    have hz1:=dgr_zero (n:=n) (r:=1+k) hlt (by omega)
    by_cases h1:r=a
    ·subst h1
     have:¬ 1+k=r:=by omega
     simp[this];omega
    ·have h1':¬ a=r:=fun z=>h1 z.symm
     by_cases h2:1+k=r
     ·subst h2;simp[h1'];omega
     ·simp[h1',h2];omega
   ·intro r h1 h2
    by_cases h3:r<k+1
    ·obtain⟨p,q1,q2⟩:=hP.low r h1 h3
     exact⟨p,lKi _ q1,q2⟩
    ·exact⟨(a,1+k),by simp,by show 1+k=r;omega,by show a<r;omega⟩
   ·rw[hu4,show (fun r=>dgr P n r+List.count r [a,1+k])=dgr (P++[(a,1+k)]) n from funext fun r=>by rw[kKb,hE]]
   ·rw[hk4 pr hpu,jJg];simp[encE]
   ·obtain⟨x,y,w,z1,z2⟩:=bx
    exact⟨x,y,w,by rw[hk4 b hbu,jJi hbp];exact z1,z2⟩
   ·intro c o hc he
    have hcu:=jJd he hu0
    have hcp:=jJd he hpr0
    rw[hk4 c hcu,jJi hcp]
    exact kp _ _ hc (s2 _ _ (hkp _ _ hc he))
 ·intro τ G1 h_;apply xe4 h_;clear h_;intro v5 v6 v7 P h_;apply ae7 h_;clear h_;intro hPl hP hlt hgu hgp hbx hkp
  rw[lJb,lK1] at hPl hP hbx
  rw[show n-1+1=n by omega] at hP
  wp_walk using 1,jJ6,jQo
  refine⟨b,_,m+(n-1),rfl,hbx,by omega,by omega,by omega,fun q G2 q0 q1 bx kp=> ?_⟩
  refine⟨q,rfl,by omega,by omega,?_⟩
  let J2:Nat->St3->Gp->Prop:=fun k τ G'=>∃(v7 v8 v9 v10 v11:Option T) (P:List (Nat×Nat)),τ=[some (.ref b),some (.int n),some (.int d),some (.ref u),some (.ref pr),v5,v6,v7,v8,v9,v10,v11]/\P.length<=n+k/\POk P n d n/\G' u=some (.lst (jVk n (dgr P n)))/\G' pr=some (.lst (P.map encE))/\BoxAt G' b (m+n+2*k)/\Keep b G G'
  refine⟨J2,?_,?_,?_,?_⟩
  ·exact xi6 _ _ _ _ _ P rfl ⟨by omega,hP,kp _ _ hbu.symm hgu,kp _ _ hbp.symm hgp,bx.mono (by omega),hkp.trans kp⟩
  ·intros;trivial
  ·intro k x τ G3 hx0 h_;apply xe6 h_;clear h_;intro v7 v8 v9 v10 v11 P h_;apply ae6 h_;clear h_;intro hPl hP hgu hgp hbx hkp
   have hk:k<q.toNat:=by have:=(lJa.mp hx0).1;rw[jQ8] at this;exact this
   wp_walk using 1,jJ6,iSeq
   refine⟨b,_,_,rfl,hbx,by omega,by omega,by omega,fun c G4 c0 c1 bx4 kp4=> ?_⟩
   refine⟨b,_,_,rfl,bx4,by omega,by omega,by omega,fun e G5 e0 e1 bx5 kp5=> ?_⟩
   obtain⟨a,rfl⟩:=lJ7 c0
   obtain⟨y,rfl⟩:=lJ7 e0
   have ha:a<n:=by omega
   have hy:y<=n:=by omega
   have kp35:=kp4.trans kp5
   have hgu5:=kp35 _ _ hbu.symm hgu
   have hgp5:=kp35 _ _ hbp.symm hgp
   refine⟨by omega,?_⟩
   have hEn:∀e',e'∈jU5 n (a,y)->e'<n:=by
    intro e' he'
    unfold jU5 at he'
    split at he'<;>simp at he'<;>simp at * <;>omega
   have hEl:(jU5 n (a,y)).length<=2:=by unfold jU5;split<;>simp
   refine kXw (es:=[a,y]) (enc:=fun r:Nat=>T.int r) (fun r=>if r<n then some (T.int (r:Nat)) else none) (by simp;omega) (fun _ _=>trivial) ?_ ?_
   ·intro i r hr G6 K K0 s6 hK hK0
    wp_walk using 1,tSeq
    by_cases hrn:r<n
    ·rw[if_pos (by omega)]
     exact hK _ _ (by rw[if_pos hrn]) (.refl _)
    ·rw[if_neg (by omega)]
     exact hK0 (by rw[if_neg hrn]) _ (.refl _)
   ·intro en G6 hen hen6 s6
    have hEE:List.filterMap (fun r=>if r<n then some (T.int (r:Nat)) else none) [a,y]=(jU5 n (a,y)).map fun r=>T.int (r:Nat):=by
     unfold jU5
     by_cases hyn:y=n
     ·simp[ha,hyn]
     ·have:y<n:=by omega
      simp[ha,hyn,this]
    rw[hEE] at hen6
    refine⟨_,jJp hen6,?_⟩
    refine jUa (fun r=>T.bl (decide (dgr P n r+(jU5 n (a,y)).count r<=d))) (by omega) (fun G' s=>jJp (s _ _ hen6)) ?_ ?_
    ·intro i r hr G7 K K0 s7 hK
     have hrn:=hEn r (lJe hr)
     wp_walk using 1,jQu (s7 _ _ (s6 _ _ hgu5)),kU6 hrn,jK2 (s7 _ _ hen6),rCount,s7 _ _ hen6,rLeF
     refine⟨rfl,flat_ints,?_⟩
     rw[cnt_int,show decide (((dgr P n r:Nat):Int)+((jU5 n (a,y)).count r:Nat)<=(d:Nat))=decide (dgr P n r+(jU5 n (a,y)).count r<=d) from decide_eq_decide.mpr (by omega)]
     exact hK _ (.refl _)
    ·intro al G7 hal hal7 s7
     refine⟨al,_,_,rfl,hal7,kQg,_,rfl,?_⟩
     have s57:=s6.trans s7
     have hgp7:=s57 _ _ hgp5
     have hgu7:=s57 _ _ hgu5
     have henp:en≠pr:=(jJd hgp5 hen).symm
     have henu:en≠u:=(jJd hgu5 hen).symm
     have hkp7:Keep b G G7:=(hkp.trans kp35).trans (.sub s57)
     split
     ·rename_i hall
      rw[lK4] at hall
      refine⟨by rw[jK2 hgp7];trivial,_,hgp7,by simp;omega,_,jJp (by rw[jJi henp];exact s7 _ _ hen6),?_⟩
      refine bump (es:=jU5 n (a,y)) (n:=n) (f:=dgr P n) (by rw[jJi hpu.symm];exact hgu7) (fun G' hG'=>jJp (by rw[hG' _ henu,jJi henp];exact s7 _ _ hen6)) hEn ?_
      intro G8 w7 hu8 hk8
      refine xi6 _ _ _ _ _ (P++[(a,y)]) rfl ⟨by simp;omega,⟨?_,?_,?_⟩,?_,?_,?_,?_⟩
      ·intro p hp
       rw[lJt,lJk] at hp
       rcases hp with hp | rfl
       ·exact hP.ok p hp
       ·exact⟨ha,hy⟩
      ·intro r hr
       rw[kKb]
       by_cases hm:r∈jU5 n (a,y)
       ·simpa using hall r hm
       ·rw[List.count_eq_zero_of_not_mem hm];exact hP.deg r hr
      ·intro r h1 h2
       obtain⟨p,q1,q2⟩:=hP.low r h1 h2
       exact⟨p,lKi _ q1,q2⟩
      ·rw[hu8,show (fun r=>dgr P n r+List.count r (jU5 n (a,y)))=dgr (P++[(a,y)]) n from funext fun r=>by rw[kKb]]
      ·rw[hk8 pr hpu,jJg];simp[encE]
      ·obtain⟨x1,y1,w,z1,z2⟩:=(bx5.sub s57).mono (show m+n+2*k+1+1<=m+n+2*(k+1) by omega)
       exact⟨x1,y1,w,by rw[hk8 b hbu,jJi hbp];exact z1,z2⟩
      ·intro c o hc he
       have hcu:=jJd he hu0
       have hcp:=jJd he hpr0
       rw[hk8 c hcu,jJi hcp]
       exact hkp7 _ _ hc he
     ·exact xi6 _ _ _ _ _ P rfl ⟨by omega,hP,hgu7,hgp7,(bx5.sub s57).mono (by omega),hkp7⟩
  ·intro τ G3 h_;apply xe6 h_;clear h_;intro v7 v8 v9 v10 v11 P h_;apply ae6 h_;clear h_;intro hPl hP hgu hgp hbx hkp
   rw[jQ8] at hPl hbx
   wp_walk using 1,tSeq
   refine⟨b,pr,P,n,_,rfl,hbx,by omega,hbp.symm,hgp,hP.ok,by omega,by omega,fun W G4 mw bx4 kp4=> ?_⟩
   exact kk W G4 (hP.web mw) (bx4.mono (by omega)) (hkp.trans kp4)
def Conn (W:Web):Prop:=∀S:Nat->Prop,S 0->(∀r i s j,S r->en W r i=some (s,j)->S s)->∀r,r<W.length->S r
theorem WebOk.conn {n d:Nat} {W:Web} (h:WebOk n d W):Conn W:=by
 intro S h0 hst r
 induction r using Nat.strongRecOn with
 | ind r ih=>
  intro hr
  by_cases hz:r=0
  ·subst hz;exact h0
  ·obtain⟨i,a,j,q1,q2⟩:=h.low r (by omega) (by rw[<-h.len];exact hr)
   exact hst a j r i (ih a q2 (by omega)) (h.sym _ _ _ _ q1)
theorem kXt {W:Web} {r i:Nat} {e:Nat×Nat} (h:en W r i=some e):r<W.length:=by
 obtain⟨es,h1,h2⟩:=jUv h
 exact (lJa.mp h1).1
noncomputable def ring (n:Nat):Web:=(List.range n).map fun r=>[((r+1)%n,1),((r+n-1)%n,0)]
theorem en_ring0 {n r:Nat} (h:r<n):en (ring n) r 0=some ((r+1)%n,1):=jVo (es:=[((r+1)%n,1),((r+n-1)%n,0)]) (by simp[ring,h]) rfl
theorem kXs {n r:Nat} (h:r<n):en (ring n) r 1=some ((r+n-1)%n,0):=jVo (es:=[((r+1)%n,1),((r+n-1)%n,0)]) (by simp[ring,h]) rfl
theorem kVm {n:Nat}:(ring n).length=n:=by simp[ring]
theorem ring_ok {n:Nat} (hn:1<=n):WebOk n 2 (ring n) where
 len:=kVm
 sym:=by
  intro r i s j h
  have hr:r<n:=by have:=kXt h;rwa [kVm] at this
  have hi:i=0\/i=1:=by
   obtain⟨es,h1,h2⟩:=jUv h
   have:es=[((r+1)%n,1),((r+n-1)%n,0)]:=by simp[ring,hr] at h1;exact h1.symm
   subst this
   have:=(lJa.mp h2).1
   simp at this;omega
  rcases hi with rfl | rfl
  ·rw[en_ring0 hr] at h;cases h
   rw[kXs (Nat.mod_lt _ (by omega))]
   congr 2
   by_cases hz:r+1=n
   ·rw[hz,Nat.mod_self];rw[lKn (by omega)];omega
   ·rw[lKn (show r+1<n by omega),show r+1+n-1=r+n by omega,Nat.add_mod_right,lKn hr]
  ·rw[kXs hr] at h;cases h
   rw[en_ring0 (Nat.mod_lt _ (by omega))]
   congr 2
   by_cases hz:r=0
   ·subst hz;rw[lKn (show 0+n-1<n by omega),show 0+n-1+1=n by omega,Nat.mod_self]
   ·rw[show r+n-1=(r-1)+n by omega,Nat.add_mod_right,lKn (show r-1<n by omega),show r-1+1=r by omega,lKn hr]
 deg:=fun r es hr=>by
  have hrl:r<n:=by have:=(lJa.mp hr).1;rwa [kVm] at this
  simp[ring,hrl] at hr;rw[<-hr];simp
 low:=fun r h1 h2=>⟨1,r-1,0,by rw[kXs h2,show r+n-1=(r-1)+n by omega,Nat.add_mod_right,lKn (show r-1<n by omega)],by omega⟩
noncomputable def jQt:Sp3:=fun xs G Q=>∃n:Nat,xs=[.int n]/\1<=n/\n<=1000/\∀G',Sub G G'->Q (encW (ring n)) G'
noncomputable def N_l_ring:List Str:=["_law_many","_law_room"]
noncomputable def jZe:TS3:=
 (tRet (tCB jK0 (jJb (jU3 [false,true] (jQo (jJb (tVar 0) tNil)) (jJj 1) jU8 (tTup (jJb (tTup (jJb (tOp rMod (tOp jQi (tVar 1) (tC (.int 1))) (tVar 0)) (jJb (tC (.int 1)) tNil))) (jJb (tTup (jJb (tOp rMod (tOp rSub (tVar 1) (tC (.int 1))) (tVar 0)) (jJb (tC (.int 0)) tNil))) tNil)))) tNil)))
theorem rdok_l_ring:∀xs G Q,jQt xs G Q->jZe {nx:=fun _ G'=>Q .non G',rt:=Q} (jJk N_l_ring xs) G:=by
 intro xs G Q h_;apply xe1 h_;clear h_;intro n h_;apply ae3 h_;clear h_;intro hn1 hn2 kk
 rw[show jJk N_l_ring [.int n]=[some (.int n),none] from rfl]
 have hs:=sz
 wp_walk using 1,jZe,jQo
 refine⟨by omega,by omega,?_⟩
 rw[show ((n:Int)).toNat=n by omega,jY9]
 refine jUa (fun r=>encR [((r+1)%n,1),((r+n-1)%n,0)]) (by simp;omega) (fun _ _=>trivial) ?_ ?_
 ·intro i r hr G' K K0 s hk
  have hrn:r<n:=by
   rw[lJa] at hr;obtain⟨q1,q2⟩:=hr;simp at q1 q2;omega
  wp_walk using 1,tSeq
  have e1:((r:Int)+1)%(n:Int)=(((r+1)%n:Nat):Int):=by simp
  have e2:((r:Int)-1)%(n:Int)=(((r+n-1)%n:Nat):Int):=by
   rw[Int.natCast_emod,show ((r+n-1:Nat):Int)=(r:Int)-1+n by omega,Int.add_emod_right]
  rw[e1,e2]
  refine⟨by omega,by omega,by omega,by omega,by omega,?_⟩
  exact hk _ (.refl _)
 ·intro D G' hD h1 h2
  wp_walk using 1,jJp h1
  have:=kk G' h2
  rw[encW,ring,lJr] at this
  exact this
structure Fine (W:Web):Prop where
 len:W.length<=1000
 row:∀(r:Nat) (es:List (Nat×Nat)),W[r]? =some es->es.length<=1000
 rng:∀r i s j,en W r i=some (s,j)->s<W.length
theorem jUl {W:Web} {r:Nat} {es:List (Nat×Nat)} (h:W[r]? =some es):L2.atI (W.map encR) (r:Int)=some (encR es):=by rw[atN];simp[h]
theorem encR_at {es:List (Nat×Nat)} {i:Nat} {e:Nat×Nat} (h:es[i]? =some e):L2.atI (es.map encE) (i:Int)=some (encE e):=by rw[atN];simp[h]
theorem jVl {n k:Nat} {x:T} (h:(rngT 0 n)[k]? =some x):k<n/\x= .int (k:Nat):=rngT_get h
noncomputable def leE (a b:Nat×Nat):Bool:=HT.lexLe [(a.1:Int),(a.2:Int)] [(b.1:Int),(b.2:Int)]
theorem leE_iff {a b:Nat×Nat}:leE a b=true↔(a.1<b.1\/(a.1=b.1/\a.2<=b.2)):=by
 unfold leE
 rw[HT.lexLe_cons,HT.lexLe_cons,HT.lexLe_nil]
 by_cases h1:a.1=b.1
 ·rw[if_pos (by omega)]
  by_cases h2:a.2=b.2
  ·rw[if_pos (by omega)];simp;omega
  ·rw[if_neg (by omega)];simp;omega
 ·rw[if_neg (by omega)];simp;omega
noncomputable abbrev Tie:=(Nat×Nat)×(Nat×Nat)
noncomputable def encT (x:Tie):T:= .tup [encE x.1,encE x.2]
noncomputable def kJ0 (r:Nat) (es:List (Nat×Nat)) (i:Nat):Option Tie:=match es[i]? with
 | some e=>if leE (r,i) e=true then some ((r,i),e) else none
 | none=>none
noncomputable def rowE (W:Web) (r:Nat):List Tie:=match W[r]? with
 | some es=>(List.range es.length).filterMap (kJ0 r es)
 | none=>[]
noncomputable def jQ4 (W:Web):List Tie:=(List.range W.length).flatMap (rowE W)
theorem jYr {r i:Nat} {es:List (Nat×Nat)} {x:Tie} (h:kJ0 r es i=some x):x.1=(r,i)/\es[i]? =some x.2/\leE x.1 x.2=true:=by
 unfold kJ0 at h
 split at h
 ·rename_i e he
  split at h
  ·rename_i hl;cases h;exact⟨rfl,he,hl⟩
  ·cases h
 ·cases h
theorem endsL_mem {W:Web} {x:Tie}:x∈jQ4 W↔en W x.1.1 x.1.2=some x.2/\leE x.1 x.2=true:=by
 obtain⟨⟨r,i⟩,e⟩:=x
 unfold jQ4
 rw[List.mem_flatMap]
 constructor
 ·rintro⟨r',h1,h2⟩
  unfold rowE at h2
  split at h2
  ·rename_i es hes
   rw[lQf] at h2
   obtain⟨i',h3,h4⟩:=h2
   obtain⟨q1,q2,q3⟩:=jYr h4
   cases q1
   exact⟨jVo hes q2,q3⟩
  ·cases h2
 ·rintro⟨h1,h2⟩
  obtain⟨es,q1,q2⟩:=jUv h1
  refine⟨r,lJv.mpr (lJa.mp q1).1,?_⟩
  unfold rowE
  rw[q1]
  show _∈List.filterMap _ _
  rw[lQf]
  refine⟨i,lJv.mpr (lJa.mp q2).1,?_⟩
  have q2:es[i]? =some e:=q2
  unfold kJ0
  rw[q2]
  show (if leE (r,i) e=true then _ else _)=_
  rw[if_pos h2]
theorem pw_fm {α β:Type} {f:α->Option β} {R:β->β->Prop} {xs:List α} (hx:xs.Nodup) (h:∀a a' b b',a≠a'->f a=some b->f a'=some b'->R b b'):(xs.filterMap f).Pairwise R:=by
 rw[List.pairwise_filterMap]
 exact hx.imp fun hne b hb b' hb'=>h _ _ b b' hne hb hb'
theorem endsL_nodup {W:Web}:(jQ4 W).Nodup:=by
 unfold jQ4
 have h:∀l:List Nat,l.Nodup->(l.flatMap (rowE W)).Nodup:=by
  intro l hl
  induction l with
  | nil=>exact List.nodup_nil
  | cons a as ih=>
   rw[lKj] at hl
   rw[List.flatMap_cons,lKy]
   refine⟨?_,ih hl.2,?_⟩
   ·unfold rowE
    split
    ·refine pw_fm List.nodup_range ?_
     rintro i i' x x' hne hx hx' rfl
     have q1:=(jYr hx).1
     have q2:=(jYr hx').1
     rw[q1] at q2;cases q2;exact hne rfl
    ·exact List.nodup_nil
   ·intro x hx y hy
    rintro rfl
    rw[List.mem_flatMap] at hy
    obtain⟨a',h1,h2⟩:=hy
    have fst:∀r,x∈rowE W r->x.1.1=r:=by
     intro r hr
     unfold rowE at hr
     split at hr
     ·rw[lQf] at hr
      obtain⟨i,_,h4⟩:=hr
      rw[(jYr h4).1]
     ·cases hr
    have:a=a':=(fst a hx).symm.trans (fst a' h2)
    subst this;exact hl.1 h1
 exact h _ List.nodup_range
noncomputable def jQm:Sp3:=fun xs G Q=>∃W:Web,xs=[encW W]/\Fine W/\∀p G',G p=none->G' p=some (.lst ((jQ4 W).map encT))->(jQ4 W).length<=1000000->Sub G G'->Q (.ref p) G'
noncomputable def N_l_ends:List Str:=["_law_web_here","_law_found","_law_room","_law_door"]
noncomputable def jZf:TS3:=
 (tSeq (tAsg (tLst tNil) (jJj 1))
 (tSeq (tFor (jQo (jJb (tCB rLen (jJb (tVar 0) tNil)) tNil)) (jJj 2) (tFor (jQo (jJb (tCB rLen (jJb (tOp rIxF (tVar 0) (tVar 2)) tNil)) tNil)) (jJj 3) (tIfS (jJ7 (tOp rLeF (tTup (jJb (tVar 2) (jJb (tVar 3) tNil))) (tOp rIxF (tOp rIxF (tVar 0) (tVar 2)) (tVar 3)))) (jQl (tBM "list" jK3 (tVar 1) (jJb (tTup (jJb (tTup (jJb (tVar 2) (jJb (tVar 3) tNil))) (jJb (tOp rIxF (tOp rIxF (tVar 0) (tVar 2)) (tVar 3)) tNil))) tNil))) jQc)))
 (tRet (tVar 1))))
theorem rdok_l_ends:∀xs G Q,jQm xs G Q->jZf {nx:=fun _ G'=>Q .non G',rt:=Q} (jJk N_l_ends xs) G:=by
 intro xs G Q h_;apply xe1 h_;clear h_;intro W h_;apply ae2 h_;clear h_;intro fine kk
 rw[show jJk N_l_ends [encW W]=[some (.tup (W.map encR)),none,none,none] from rfl]
 have hs:=sz
 have hl:=fine.len
 wp_walk using 1,jZf,jJ6,jQo,lJb
 refine⟨lJg _,fun p hp=>⟨by omega,by omega,?_⟩⟩
 rw[show ((W.length:Int)).toNat=W.length by omega]
 refine⟨fun k τ G'=>∃(v2 v3:Option T),τ=[some (.tup (W.map encR)),some (.ref p),v2,v3]/\G' p=some (.lst (((List.range k).flatMap (rowE W)).map encT))/\((List.range k).flatMap (rowE W)).length<=1000*k/\Sub G G',?_,?_,?_,?_⟩
 ·exact⟨none,none,rfl,jJg,lJg _,.new hp⟩
 ·intros;trivial
 ·intro k x τ G1 hx h_;apply xe2 h_;clear h_;intro v2 v3 h_;apply ae3 h_;clear h_;intro h1 h2 h3
  obtain⟨hk,rfl⟩:=jVl hx
  have hW:W[k]? =some W[k]:=lJc hk
  generalize W[k]=es at hW
  have hes:=fine.row k es hW
  wp_walk using 1,jJ6,jQo,jUl hW,encR,lJb
  refine⟨by omega,by omega,?_⟩
  rw[show ((es.length:Int)).toNat=es.length by omega]
  refine⟨fun i τ G'=>∃(v3:Option T),τ=[some (.tup (W.map encR)),some (.ref p),some (.int k),v3]/\G' p=some (.lst (((List.range k).flatMap (rowE W)++(List.range i).filterMap (kJ0 k es)).map encT))/\((List.range k).flatMap (rowE W)++(List.range i).filterMap (kJ0 k es)).length<=1000*k+i/\Sub G G',?_,?_,?_,?_⟩
  ·exact⟨v3,rfl,by simpa using h1,by simpa using h2,h3⟩
  ·intros;trivial
  ·intro i x τ G2 hx h_;apply xe1 h_;clear h_;intro v3 h_;apply ae3 h_;clear h_;intro i1 i2 i3
   obtain⟨hi,rfl⟩:=jVl hx
   have hE:es[i]? =some es[i]:=lJc hi
   generalize es[i]=e at hE
   wp_walk using 1,rLeF,jUl hW,encR,encR_at hE,encE,jK2 i1,i1
   refine⟨by omega,?_⟩
   have hle:HT.lexLe [(k:Int),(i:Int)] [(e.1:Int),(e.2:Int)]=leE (k,i) e:=rfl
   rw[hle]
   by_cases hc:leE (k,i) e=true
   ·have hcell:kJ0 k es i=some ((k,i),e):=by unfold kJ0;rw[hE];show (if _ then _ else _)=_;rw[if_pos hc]
    rw[if_pos hc]
    refine⟨by omega,by omega,by rw[lJb];omega,?_,?_,i3.over hp⟩
    ·rw[lKu,lK8];simp[hcell,encT,encE]
    ·rw[lKu,lK8,lJo,lJo]
     rw[lJo] at i2
     simp[hcell] at i2 ⊢; omega
   ·have hcell:kJ0 k es i=none:=by unfold kJ0;rw[hE];show (if _ then _ else _)=_;rw[if_neg hc]
    rw[if_neg hc]
    refine⟨?_,?_,i3⟩
    ·rw[lKu,lK8];simp[hcell]
    ·rw[lKu,lK8];simp[hcell];simp at i2;omega
  ·intro τ G' h_;apply xe1 h_;clear h_;intro v3 h_;apply ae3 h_;clear h_;intro i1 i2 i3
   rw[jQ8] at i1 i2
   have e1:(List.range (k+1)).flatMap (rowE W)=(List.range k).flatMap (rowE W)++(List.range es.length).filterMap (kJ0 k es):=by
    rw[lKu,List.flatMap_append]
    congr 1
    simp[rowE,hW]
   refine⟨_,_,rfl,by rw[e1];exact i1,by rw[e1];omega,i3⟩
 ·intro τ G1 h_;apply xe2 h_;clear h_;intro v2 v3 h_;apply ae3 h_;clear h_;intro h1 h2 h3
  rw[jQ8] at h1 h2
  wp_walk using 1,tSeq
  exact kk p G1 hp h1 (by show ((List.range W.length).flatMap (rowE W)).length<=_;omega) h3
noncomputable def jJl (F:List Nat):List T:=F.map fun e=>T.int (e:Nat)
theorem inT_ints {F:List Nat} {r:Nat}:inT (.int r) (jJl F)=F.contains r:=by
 unfold inT jJl
 rw[List.any_map,List.contains_eq_any_beq]
 congr 1
 funext e
 simp only[Function.comp,eqT]
 by_cases h:e=r
 ·subst h;simp
 ·have h2:¬ (e:Int)=r:=by omega
  have h3:¬ r=e:=fun z=>h z.symm
  rw[beq_eq_false_iff_ne.mpr h3,beq_eq_false_iff_ne.mpr h2]
theorem inR_ints {G:Gp} {p:Addr} {F:List Nat} {r:Nat} (h:G p=some (.lst (jJl F))):inR G (.int r) (.ref p)=some (F.contains r):=by
 unfold inR
 rw[jJp h]
 show (if _ then _ else _)=_
 rw[if_pos ⟨rfl,flat_ints⟩,inT_ints]
theorem jQs:∀ {n:Nat} {F:List Nat} (hn:F.Nodup) (hl:∀x,x∈F->x<n),F.length<=n
 | 0,F,hn,hl=>by
  cases F with
  | nil=>exact lJd _
  | cons a as=>exact absurd (hl a (lKe)) (lKr _)
 | n+1,F,hn,hl=>by
  have h1:=jQs (n:=n) (hn.erase n) (fun x hx=>by
   rw[hn.mem_erase_iff] at hx
   have:=hl x hx.2;omega)
  by_cases h:n∈F
  ·rw[List.length_erase_of_mem h] at h1;omega
  ·rw[List.erase_of_not_mem h] at h1;omega
theorem kKq {F:List Nat} {n:Nat} (hn:F.Nodup) (hl:∀x,x∈F->x<n) (he:F.length=n):∀r,r<n->r∈F:=by
 intro r hr
 apply lKg
 intro hm
 have:(r::F).length<=n:=jQs (lKj.mpr ⟨hm,hn⟩) (fun x hx=>by rw[lJn] at hx;rcases hx with rfl | hx;exact hr;exact hl x hx)
 simp at this;omega
def Closed (W:Web) (S:Nat->Prop):Prop:=∀r i s j,S r->en W r i=some (s,j)->S s
structure Found (W:Web) (r0:Nat) (F:List Nat):Prop where
 nd:F.Nodup
 lt:∀x,x∈F->x<W.length
 got:∀S,S r0->Closed W S->∀x,x∈F->S x
noncomputable def vis (F:List Nat) (es:List (Nat×Nat)):List Nat:=es.foldl (fun F e=>if F.contains e.1=true then F else F++[e.1]) F
noncomputable def row (W:Web) (r:Nat):List (Nat×Nat):=(W[r]?).getD []
theorem jUe {W:Web} {r:Nat} {es:List (Nat×Nat)} (h:W[r]? =some es):row W r=es:=by unfold row;rw[h];rfl
theorem jY6 {F:List Nat} {es:List (Nat×Nat)} {j:Nat} {e:Nat×Nat} (h:es[j]? =some e):vis F (es.take (j+1))=if (vis F (es.take j)).contains e.1=true then vis F (es.take j) else vis F (es.take j)++[e.1]:=by
 unfold vis
 rw[lKa,h,List.foldl_append];rfl
noncomputable def bfsN (W:Web):Nat->Nat->List Nat->List Nat
 | 0,_,F=>F
 | n+1,k,F=>match F[k]? with
  | some r=>bfsN W n (k+1) (vis F (row W r))
  | none=>F
noncomputable def bfs (W:Web) (r:Nat):List Nat:=bfsN W W.length 0 [r]
theorem jXg {W:Web} {n k:Nat} {F:List Nat} (h:F.length<=k):bfsN W n k F=F:=by
 cases n with
 | zero=>rfl
 | succ n=>rw[bfsN,lJh h]
theorem jXf {W:Web} {n k r:Nat} {F:List Nat} (h:F[k]? =some r):bfsN W (n+1) k F=bfsN W n (k+1) (vis F (row W r)):=by rw[bfsN,h]
noncomputable def jKu:Sp3:=fun xs G Q=>∃(W:Web) (r0:Nat),xs=[encW W,.int r0]/\Fine W/\r0<W.length/\∀p G' F,G p=none->G' p=some (.lst (jJl F))->Found W r0 F->F=bfs W r0->Sub G G'->Q (.ref p) G'
noncomputable def kQk:List Str:=["_law_web_here","_law_room","_law_found","_law_at","_law_other","_law_door"]
noncomputable def jVv:TS3:=
 (tSeq (tAsg (tLst (jJb (tVar 1) tNil)) (jJj 2))
 (tSeq (tAsg (tC (.int 0)) (jJj 3))
 (tSeq (jVq (jJ7 (tOp rLt (tVar 3) (tCB rLen (jJb (tVar 2) tNil)))) (tSeq (tFor (iSeq (tOp rIxF (tVar 0) (tOp rIxF (tVar 2) (tVar 3)))) (gTup 2 (jKg (jJj 4) (jKg (jJj 5) gNil))) (tIfS (jJ7 (tOp jVb (tVar 4) (tVar 2))) (jQl (tBM "list" jK3 (tVar 2) (jJb (tVar 4) tNil))) jQc))
 (tAsg (tOp jQi (tVar 3) (tC (.int 1))) (jJj 3))))
 (tRet (tVar 2)))))
theorem kQs:∀xs G Q,jKu xs G Q->jVv {nx:=fun _ G'=>Q .non G',rt:=Q} (jJk kQk xs) G:=by
 intro xs G Q h_;apply xe2 h_;clear h_;intro W r0 h_;apply ae3 h_;clear h_;intro fine hr0 kk
 rw[show jJk kQk [encW W,.int r0]=[some (.tup (W.map encR)),some (.int r0),none,none,none,none] from rfl]
 have hs:=sz
 have hl:=fine.len
 wp_walk using 1,jVv,jVq,jJ6
 refine⟨by omega,fun p hp=> ?_⟩
 refine⟨fun m τ G'=>∃(at':Nat) (v4 v5:Option T) (F:List Nat),τ=[some (.tup (W.map encR)),some (.int r0),some (.ref p),some (.int at'),v4,v5]/\G' p=some (.lst (jJl F))/\Found W r0 F/\Sub G G'/\bfs W r0=bfsN W (W.length-at') at' F/\m=W.length-at',⟨_,0,none,none,[r0],rfl,jJg,⟨by simp,by simpa using hr0,fun S h0 _ x hx=>by rw[lJk] at hx;rw[hx];exact h0⟩,.new hp,rfl,rfl⟩,?_⟩
 intro m τ G1 h_;apply xe4 h_;clear h_;intro at' v4 v5 F h_;apply ae5 h_;clear h_;intro h1 h2 h3 hB e4_
 subst e4_
 wp_walk using 1,iSeq,jJp h1,jQu h1
 have hFl:=jQs h2.nd h2.lt
 split
 ·rename_i hc
  have hat:at'<F.length:=by rw[jJl,lJb] at hc;omega
  have hF:F[at']? =some F[at']:=lJc hat
  have hfm:F[at']∈F:=List.getElem_mem hat
  generalize F[at']=r at hF hfm
  have hrW:=h2.lt r hfm
  have hW:W[r]? =some W[r]:=lJc hrW
  generalize W[r]=es at hW
  have hatI:L2.atI (jJl F) (at':Int)=some (.int r):=by rw[atN];simp[jJl,hF]
  wp_walk using 1,hatI,jUl hW,encR
  refine⟨fun τ G'=>∃(v4 v5:Option T) (F:List Nat),τ=[some (.tup (W.map encR)),some (.int r0),some (.ref p),some (.int ((at'+1:Nat):Int)),v4,v5]/\G' p=some (.lst (jJl F))/\Found W r0 F/\Sub G G'/\bfs W r0=bfsN W (W.length-(at'+1)) (at'+1) F,?_,?_⟩
  ·intro τ' G' h_;apply xe3 h_;clear h_;intro v4 v5 F' h_;apply ae4 h_;clear h_;intro i1 i2 i3 iB
   exact⟨W.length-(at'+1),by omega,at'+1,v4,v5,rfl,F',i1,i2,i3,iB,rfl⟩
  ·refine⟨fun j τ G'=>∃(v4 v5:Option T) (F':List Nat),τ=[some (.tup (W.map encR)),some (.int r0),some (.ref p),some (.int at'),v4,v5]/\G' p=some (.lst (jJl F'))/\r∈F'/\Found W r0 F'/\Sub G G'/\F'=vis F (es.take j),?_,?_,?_,?_⟩
   ·exact⟨v4,v5,F,rfl,h1,hfm,h2,h3,rfl⟩
   ·intros;trivial
   ·intro j x τ G2 hx0 h_;apply xe3 h_;clear h_;intro v4 v5 F0 h_;apply ae5 h_;clear h_;intro i1 i2 i3 i4 iB
    obtain⟨⟨s,t⟩,hx,rfl⟩:=jQ5 hx0
    have hen:=jVo hW hx
    wp_walk using 1,encE,jVb,inR_ints i1,jK2 i1,i1
    by_cases hm:s∈F0
    ·rw[if_neg (by simp[hm])]
     exact⟨F0,rfl,i2,i3,i4,by rw[jY6 hx,<-iB,if_pos (by simpa using hm)]⟩
    ·rw[if_pos (by simp[hm])]
     have hFl:=jQs i3.nd i3.lt
     refine⟨by rw[jJl,lJb];omega,F0++[s],by simp[jJl],lKi _ i2,⟨?_,?_,?_⟩,i4.over hp,by rw[jY6 hx,<-iB,if_neg (by simpa using hm)]⟩
     ·rw[lKy];exact⟨i3.nd,by simp,fun a ha b hb=>by rw[lJk] at hb;subst hb;rintro rfl;exact hm ha⟩
     ·intro x hx
      rw[lJt,lJk] at hx
      rcases hx with hx | rfl
      ·exact i3.lt x hx
      ·exact fine.rng _ _ _ _ hen
     ·intro S h0 hc x hx
      rw[lJt,lJk] at hx
      rcases hx with hx | rfl
      ·exact i3.got S h0 hc x hx
      ·exact hc _ _ _ _ (i3.got S h0 hc r i2) hen
   ·intro τ G' h_;apply xe3 h_;clear h_;intro v4 v5 F0 h_;apply ae5 h_;clear h_;intro i1 i2 i3 i4 iB
    wp_walk using 1,tSeq
    refine⟨by simp,F0,i1,i3,i4,?_⟩
    rw[lJb,lKf] at iB
    rw[hB,show W.length-at'=W.length-(at'+1)+1 by omega,jXf hF,jUe hW,<-iB]
 ·rename_i hc
  exact kk p G1 F hp h1 h2 (by rw[hB,jXg (by rw[jJl,lJb] at hc;omega)]) h3
structure Turn (m:Nat) (σ:List Nat):Prop where
 len:σ.length=m
 nd:σ.Nodup
 lt:∀x,x∈σ->x<m
def Invol (σ:List Nat):Prop:=∀(k x:Nat),σ[k]? =some x->σ[x]? =some k
theorem Turn.at {m:Nat} {σ:List Nat} (h:Turn m σ) {k:Nat} (hk:k<m):∃x,σ[k]? =some x/\x<m:=by
 have hk':k<σ.length:=by rw[h.len];exact hk
 exact⟨σ[k],lJc hk',h.lt _ (List.getElem_mem hk')⟩
theorem Turn.onto {m:Nat} {σ:List Nat} (h:Turn m σ) {x:Nat} (hx:x<m):∃k,k<m/\σ[k]? =some x:=by
 obtain⟨k,hk⟩:=lJq (kKq h.nd h.lt h.len x hx)
 exact⟨k,by rw[<-h.len];exact (lJa.mp hk).1,hk⟩
theorem Turn.inj {m:Nat} {σ:List Nat} (h:Turn m σ) {k k' x:Nat} (h1:σ[k]? =some x) (h2:σ[k']? =some x):k=k':=
 (lK0 (lJa.mp h1).1 h.nd).mp (h1.trans h2.symm)
theorem Invol.turn {m:Nat} {σ:List Nat} (hl:σ.length=m) (h:Invol σ):Turn m σ where
 len:=hl
 nd:=by
  unfold List.Nodup
  refine List.pairwise_iff_getElem.mpr ?_
  intro i j hi hj hij e
  have h1:=h j _ (lJc hj)
  have h2:=h i _ (lJc hi)
  rw[e,h1] at h2;cases h2;omega
 lt:=fun x hx=>by
  obtain⟨k,hk⟩:=lJq hx
  rw[<-hl];exact (lJa.mp (h k x hk)).1
theorem Invol.swap {σ:List Nat} {a b:Nat} (h:Invol σ) (ha:σ[a]? =some a) (hb:σ[b]? =some b) (hab:a≠b):Invol ((σ.set a b).set b a):=by
 have hal:=(lJa.mp ha).1
 have hbl:=(lJa.mp hb).1
 have gt:∀k,((σ.set a b).set b a)[k]? =if k=b then some a else if k=a then some b else σ[k]? :=by
  intro k
  by_cases h1:k=b
  ·subst h1;rw[if_pos rfl,lJ2 (by simpa using hbl)]
  ·rw[if_neg h1,lJz (fun z=>h1 z.symm)]
   by_cases h2:k=a
   ·subst h2;rw[if_pos rfl,lJ2 hal]
   ·rw[if_neg h2,lJz (fun z=>h2 z.symm)]
 intro k x hk
 rw[gt] at hk ⊢
 by_cases h1:k=b
 ·subst h1;rw[if_pos rfl] at hk;cases hk
  rw[if_neg hab,if_pos rfl]
 ·rw[if_neg h1] at hk
  by_cases h2:k=a
  ·subst h2;rw[if_pos rfl] at hk;cases hk
   rw[if_pos rfl]
  ·rw[if_neg h2] at hk
   have hx:=h k x hk
   have h3:x≠b:=by rintro rfl;rw[hb] at hx;cases hx;exact h1 rfl
   have h4:x≠a:=by rintro rfl;rw[ha] at hx;cases hx;exact h2 rfl
   rw[if_neg h3,if_neg h4];exact hx
noncomputable def jQ6:Sp3:=fun xs G Q=>∃(b:Addr) (m n:Nat) (own:Bool),xs=[.ref b,.int m,.bl own]/\BoxAt G b n/\n+m<2^40/\1<=m/\m<=1000/\∀ σ G',Turn m σ->(own=true->Invol σ)->BoxAt G' b (n+m)->Keep b G G'->Q (.tup (jJl σ)) G'
noncomputable def N_l_turn:List Str:=["_law_box_here","_law_many","_law_own","_law_order","_law_k","_law_backs"]
noncomputable def jZc:TS3:=
 (tSeq (tAsg (tLst tNil) (jJj 3))
 (tSeq (tFor (jQo (jJb (tVar 1) tNil)) (jJj 4) (jQl (tBM "list" kKn (tVar 3) (jJb (jJw jJt (jJb (tVar 0) (jJb (tOp jQi (tVar 4) (tC (.int 1))) tNil))) (jJb (tVar 4) tNil)))))
 (tSeq (tIfS (tNot (tTru rTru (tVar 2))) (tRet (tCB jK0 (jJb (tVar 3) tNil))) jQc)
 (tSeq (tAsg (jVd (jJb (tVar 1) tNil)) (jJj 5))
 (tSeq (tFor (iRng3 (jJb (tC (.int 0)) (jJb (tOp rSub (tVar 1) (tC (.int 1))) (jJb (tC (.int 2)) tNil)))) (jJj 4) (tSeq (tAsg (tOp rIxF (tVar 3) (tOp jQi (tVar 4) (tC (.int 1)))) (gSub (tVar 5) (tOp rIxF (tVar 3) (tVar 4)) jXr))
 (tAsg (tOp rIxF (tVar 3) (tVar 4)) (gSub (tVar 5) (tOp rIxF (tVar 3) (tOp jQi (tVar 4) (tC (.int 1)))) jXr))))
 (tRet (tCB jK0 (jJb (tVar 5) tNil))))))))
theorem rdok_l_turn:∀xs G Q,jQ6 xs G Q->jZc {nx:=fun _ G'=>Q .non G',rt:=Q} (jJk N_l_turn xs) G:=by
 intro xs G Q h_;apply xe4 h_;clear h_;intro b m n own h_;apply ae5 h_;clear h_;intro hb hn hm1 hm2 kk
 rw[show jJk N_l_turn [.ref b,.int m,.bl own]=[some (.ref b),some (.int m),some (.bl own),none,none,none] from rfl]
 have hs:=sz
 obtain⟨bo,hbo⟩:=hb.some
 wp_walk using 1,jZc,jJ6,jQo,iRng3,jVd
 refine⟨lJg _,fun o ho=>⟨by omega,by omega,?_⟩⟩
 have hob:=jJd hbo ho
 rw[show ((m:Int)).toNat=m by omega]
 refine⟨fun k τ G'=>∃(v4:Option T) (σ:List Nat),τ=[some (.ref b),some (.int m),some (.bl own),some (.ref o),v4,none]/\G' o=some (.lst (jJl σ))/\Turn k σ/\BoxAt G' b (n+k)/\Keep b G G',?_,?_,?_,?_⟩
 ·exact⟨none,[],rfl,jJg,⟨rfl,List.nodup_nil,fun x hx=>by cases hx⟩,hb.gup hob,.new ho⟩
 ·intros;trivial
 ·intro k x τ G1 hx h_;apply xe2 h_;clear h_;intro v4 σ h_;apply ae4 h_;clear h_;intro h1 h2 h3 h4
  obtain⟨hk,rfl⟩:=jVl hx
  wp_walk using 1,jK2 h1
  refine⟨b,_,n+k,rfl,h3,by omega,by omega,by omega,fun c G2 c0 c1 bx kp=> ?_⟩
  have h1':=kp _ _ hob.symm h1
  refine⟨jJl σ,c,rfl,h1',c0,by rw[jJl,lJb,h2.len];omega,by rw[jJl,lJb,h2.len];omega,σ.take c.toNat++k::σ.drop c.toNat,?_,⟨?_,?_,?_⟩,bx.gup hob,(h4.trans kp).over ho⟩
  ·simp[insT,jJl,List.map_take,List.map_drop]
  ·rw[ins_perm.length_eq,lJo,h2.len];rfl
  ·rw[ins_perm.nodup_iff,lKy]
   exact⟨h2.nd,by simp,fun a ha e he=>by rw[lJk] at he;subst he;have:=h2.lt a ha;omega⟩
  ·intro x hx
   rw[ins_perm.mem_iff,lJt,lJk] at hx
   rcases hx with hx | rfl
   ·have:=h2.lt x hx;omega
   ·omega
 ·intro τ G1 h_;apply xe2 h_;clear h_;intro v4 σ h_;apply ae4 h_;clear h_;intro h1 h2 h3 h4
  rw[jQ8] at h2 h3
  wp_walk using 1,jJp h1
  cases own with
  | false=>exact kk σ G1 h2 (fun z=>by cases z) h3 h4
  | true=>
   wp_walk using 1,jJ6,iRng3,jVd
   refine⟨by omega,by omega,fun t ht=> ?_⟩
   have hto:=jJd h1 ht
   have htb:b≠t:=by obtain⟨u,hu⟩:=h3.some;exact jJd hu ht
   have ht0:=h4.none htb.symm ht
   have hsm:Builtin.Range.small 0 ((m:Int)-1) 2=true:=by
    unfold Builtin.Range.small Builtin.Range.rangeSize
    simp only[Builtin.Range.rangeFitsLong,lJ8,Bool.or_eq_true,decide_eq_true_eq,beq_iff_eq,show (2:Int)>0 by decide,if_true]
    split<;>omega
   refine⟨by decide,by decide,hsm,?_⟩
   have hN:(Builtin.Range.rangeSize 0 ((m:Int)-1) 2).toNat=m / 2:=by
    unfold Builtin.Range.rangeSize;rw[if_pos (by decide)]
    split<;>omega
   rw[hN,show ((m:Int)).toNat=m by omega,jY9]
   refine⟨fun k τ G'=>∃(v4:Option T) (ρ:List Nat),τ=[some (.ref b),some (.int m),some (.bl true),some (.ref o),v4,some (.ref t)]/\G' t=some (.lst (jJl ρ))/\G' o=some (.lst (jJl σ))/\Invol ρ/\ρ.length=m/\(∀i x,2*k<=i->σ[i]? =some x->ρ[x]? =some x)/\BoxAt G' b (n+m)/\Keep b G G',?_,?_,?_,?_⟩
   ·refine⟨_,List.range m,rfl,jJg,by rw[jJi hto];exact h1,?_,by simp,?_,h3.gup htb,h4.over ht0⟩
    ·intro k x hk
     obtain⟨q1,q2⟩:=lJa.mp hk
     simp at q1 q2;subst q2;exact hk
    ·intro i x _ hx
     have:=h2.lt x (lJe hx)
     simp[this]
   ·intros;trivial
   ·intro k x τ G2 hx h_;apply xe2 h_;clear h_;intro v4 ρ h_;apply ae7 h_;clear h_;intro i1 i2 i3 i4 i5 i6 i7
    obtain⟨hk,rfl⟩:k<m / 2/\x= .int ((2*k:Nat):Int):=by
     obtain⟨q1,q2⟩:=lJa.mp hx
     simp[rngS] at q1 q2;refine⟨q1,?_⟩;rw[<-q2];congr 1;omega
    obtain⟨a,ha,_⟩:=h2.at (show 2*k<m by omega)
    obtain⟨c,hc,_⟩:=h2.at (show 2*k+1<m by omega)
    have hca:L2.atI (jJl σ) ((2*k:Nat):Int)=some (.int (a:Nat)):=by rw[atN];simp[jJl,ha]
    have hcc:L2.atI (jJl σ) (((2*k:Nat):Int)+1)=some (.int (c:Nat)):=by rw[show ((2*k:Nat):Int)+1=((2*k+1:Nat):Int) by omega,atN];simp[jJl,hc]
    have hac:a≠c:=by rintro rfl;have:=h2.inj ha hc;omega
    have fa:=i5 (2*k) a (lJd _) ha
    have fc:=i5 (2*k+1) c (by omega) hc
    have hal:a<ρ.length:=(lJa.mp fa).1
    have hcl:c<ρ.length:=(lJa.mp fc).1
    have ixa:L2.ixN (jJl ρ).length (a:Int)=some a:=kUd (by rw[jJl,lJb];exact hal)
    have ixc:L2.ixN ((jJl ρ).set a (.int (c:Nat))).length (c:Int)=some c:=kUd (by rw[lKo,jJl,lJb];exact hcl)
    have ix2:∀ob (y:Int),ixR (gup G2 t ob) (.ref o) (.int y)=L2.atI (jJl σ) y:=fun ob y=>jQu (by rw[jJi hto];exact i2)
    wp_walk using 1,jQu i2,hca,hcc,jY8 i1 ixa,ix2,ixc
    have e1:((jJl ρ).set a (.int (c:Nat))).set c (.int (a:Nat))=jJl ((ρ.set a c).set c a):=by simp[jJl,List.map_set]
    rw[e1]
    refine⟨(ρ.set a c).set c a,rfl,by rw[jJi hto];exact i2,i3.swap fa fc hac,by simp[i4],?_,i6.gup htb,i7.over ht0⟩
    intro i x hi hx
    have hxa:a≠x:=by rintro rfl;have:=h2.inj ha hx;omega
    have hxc:c≠x:=by rintro rfl;have:=h2.inj hc hx;omega
    rw[lJz hxc,lJz hxa]
    exact i5 i x (by omega) hx
   ·intro τ G2 h_;apply xe2 h_;clear h_;intro v4 ρ h_;apply ae7 h_;clear h_;intro i1 i2 i3 i4 i5 i6 i7
    wp_walk using 1,jJp i1
    exact kk ρ G2 (i3.turn i4) (fun _=>i3) i6 i7
structure TurnsOk (W:Web) (m:Nat) (Ts:List (List Nat)):Prop where
 len:Ts.length=(jQ4 W).length
 ok:∀(t:Nat) (x:Tie) (σ:List Nat),(jQ4 W)[t]? =some x->Ts[t]? =some σ->Turn m σ/\(x.1=x.2->Invol σ)
def Bel (W:Web) (Ts:List (List Nat)) (x i y j:Nat):Prop:=∃(t:Nat) (e f:Nat×Nat) (σ:List Nat) (k k':Nat),(jQ4 W)[t]? =some (e,f)/\Ts[t]? =some σ/\σ[k]? =some k'/\
 ((x=e.1+k*W.length/\i=e.2/\y=f.1+k'*W.length/\j=f.2)\/(y=e.1+k*W.length/\j=e.2/\x=f.1+k'*W.length/\i=f.2))
theorem Bel.symm {W:Web} {Ts:List (List Nat)} {x i y j:Nat} (h:Bel W Ts x i y j):Bel W Ts y j x i:=by
 obtain⟨t,e,f,σ,k,k',h1,h2,h3,h4⟩:=h
 exact⟨t,e,f,σ,k,k',h1,h2,h3,h4.symm⟩
theorem spl {n r k r' k':Nat} (h1:r<n) (h2:r'<n) (h:r+k*n=r'+k'*n):r=r'/\k=k':=by
 have e1:(r+k*n)%n=r:=by rw[Nat.add_mul_mod_self_right,lKn h1]
 have e2:(r'+k'*n)%n=r':=by rw[Nat.add_mul_mod_self_right,lKn h2]
 have hn:0<n:=by omega
 have e3:(r+k*n) / n=k:=by rw[Nat.add_mul_div_right _ _ hn,Nat.div_eq_of_lt h1,Nat.zero_add]
 have e4:(r'+k'*n) / n=k':=by rw[Nat.add_mul_div_right _ _ hn,Nat.div_eq_of_lt h2,Nat.zero_add]
 rw[h] at e1 e3
 exact⟨e1.symm.trans e2,e3.symm.trans e4⟩
theorem kVb {W:Web} {t:Nat} {x:Tie} (h:(jQ4 W)[t]? =some x):en W x.1.1 x.1.2=some x.2/\leE x.1 x.2=true:=endsL_mem.mp (lJe h)
theorem kVa {W:Web} {t t':Nat} {x:Tie} (h:(jQ4 W)[t]? =some x) (h':(jQ4 W)[t']? =some x):t=t':=(lK0 (lJa.mp h).1 endsL_nodup).mp (h.trans h'.symm)
theorem Bel.fn {W:Web} {m:Nat} {Ts:List (List Nat)} {x i y j y' j':Nat} (hs:Sym W) (ok:TurnsOk W m Ts) (h:Bel W Ts x i y j) (h':Bel W Ts x i y' j'):y=y'/\j=j':=by
 obtain⟨t,e,f,σ,k,l,h1,h2,h3,h4⟩:=h
 obtain⟨t',e',f',σ',k',l',h1',h2',h3',h4'⟩:=h'
 obtain⟨q1,q2⟩:=kVb h1
 obtain⟨q1',q2'⟩:=kVb h1'
 have q1:en W e.1 e.2=some (f.1,f.2):=q1
 have q1':en W e'.1 e'.2=some (f'.1,f'.2):=q1'
 have qs:=hs _ _ _ _ q1
 have qs':=hs _ _ _ _ q1'
 have l1:=kXt q1
 have l2:=kXt qs
 have l1':=kXt q1'
 have l2':=kXt qs'
 obtain⟨e1,e2⟩:=e;obtain⟨f1,f2⟩:=f;obtain⟨e1',e2'⟩:=e';obtain⟨f1',f2'⟩:=f'
 obtain⟨T1,T2⟩:=ok.ok _ _ _ h1 h2
 simp only at *
 rcases h4 with ⟨rfl,rfl,rfl,rfl⟩ | ⟨rfl,rfl,rfl,rfl⟩<;>rcases h4' with ⟨z1,rfl,rfl,rfl⟩ | ⟨rfl,rfl,z1,rfl⟩
 ·obtain⟨rfl,rfl⟩:=spl l1 l1' z1
  rw[q1] at q1';cases q1'
  have:=kVa h1 h1';subst this
  rw[h2] at h2';cases h2'
  rw[h3] at h3';cases h3'
  exact⟨rfl,rfl⟩
 ·obtain⟨rfl,rfl⟩:=spl l1 l2' z1
  rw[q1] at qs';cases qs'
  have a1:=leE_iff.mp q2
  have a2:=leE_iff.mp q2'
  simp only at a1 a2
  have:e1=f1/\i=j:=by omega
  obtain⟨rfl,rfl⟩:=this
  have:=kVa h1 h1';subst this
  rw[h2] at h2';cases h2'
  have:=T2 rfl _ _ h3'
  rw[h3] at this;cases this
  exact⟨rfl,rfl⟩
 ·obtain⟨rfl,rfl⟩:=spl l2 l1' z1
  rw[qs] at q1';cases q1'
  have a1:=leE_iff.mp q2
  have a2:=leE_iff.mp q2'
  simp only at a1 a2
  have:e1=f1/\j=i:=by omega
  obtain⟨rfl,rfl⟩:=this
  have:=kVa h1 h1';subst this
  rw[h2] at h2';cases h2'
  have:=T2 rfl _ _ h3
  rw[h3'] at this;cases this
  exact⟨rfl,rfl⟩
 ·obtain⟨rfl,rfl⟩:=spl l2 l2' z1
  rw[qs] at qs';cases qs'
  have:=kVa h1 h1';subst this
  rw[h2] at h2';cases h2'
  have:=T1.inj h3 h3';subst this
  exact⟨rfl,rfl⟩
noncomputable def cl (M:List (List T)) (x i:Nat):Option T:=(M[x]?).bind fun ts=>ts[i]?
noncomputable def put (M:List (List T)) (x i:Nat) (v:T):List (List T):=match M[x]? with
 | some ts=>M.set x (ts.set i v)
 | none=>M
theorem kXx {M:List (List T)} {x i:Nat} {v:T} (h:cl M x i=some v):∃ts,M[x]? =some ts/\ts[i]? =some v:=by
 unfold cl at h
 cases e1:M[x]? with
 | none=>rw[e1] at h;cases h
 | some ts=>rw[e1] at h;exact⟨ts,rfl,h⟩
theorem cl_of {M:List (List T)} {x i:Nat} {ts:List T} (h1:M[x]? =some ts):cl M x i=ts[i]? :=by unfold cl;rw[h1];rfl
theorem cl_put {M:List (List T)} {x i:Nat} {v u:T} (h:cl M x i=some u) (x' i':Nat):cl (put M x i v) x' i'=if x'=x/\i'=i then some v else cl M x' i':=by
 obtain⟨ts,h1,h2⟩:=kXx h
 have hx:=(lJa.mp h1).1
 have hi:=(lJa.mp h2).1
 unfold put
 rw[h1]
 show cl (M.set x (ts.set i v)) x' i'=_
 by_cases hxx:x'=x
 ·subst hxx
  rw[cl_of (lJ2 hx),cl_of h1]
  by_cases hii:i'=i
  ·subst hii;rw[lJ2 hi,if_pos ⟨rfl,rfl⟩]
  ·rw[lJz (fun z=>hii z.symm),if_neg (fun z=>hii z.2)]
 ·rw[if_neg (fun z=>hxx z.1)]
  unfold cl
  rw[lJz (fun z=>hxx z.symm)]
structure SInv (W:Web) (m:Nat) (Ts:List (List Nat)) (M:List (List T)):Prop where
 len:M.length=m*W.length
 row:∀(x:Nat) (ts:List T),M[x]? =some ts->∃es,W[x%W.length]? =some es/\ts.length=es.length
 val:∀x i v,cl M x i=some v->v= .non\/∃y j,Bel W Ts x i y j/\v=encE (y,j)
def Fl (M:List (List T)) (x i:Nat):Prop:=∃e,cl M x i=some (encE e)
theorem SInv.at {W:Web} {m:Nat} {Ts:List (List Nat)} {M:List (List T)} {r i k:Nat} {e:Nat×Nat} (h:SInv W m Ts M) (hk:k<m) (he:en W r i=some e):∃ts,M[r+k*W.length]? =some ts/\i<ts.length:=by
 obtain⟨es,h1,h2⟩:=jUv he
 have hr:=kXt he
 have hx:r+k*W.length<M.length:=by
  rw[h.len]
  have:(k+1)*W.length<=m*W.length:=lK5 _ hk
  rw[lKx] at this;omega
 have hM:M[r+k*W.length]? =some M[r+k*W.length]:=lJc hx
 obtain⟨es',q1,q2⟩:=h.row _ _ hM
 rw[Nat.add_mul_mod_self_right,lKn hr,h1] at q1;cases q1
 exact⟨_,hM,by rw[q2];exact (lJa.mp h2).1⟩
theorem SInv.put {W:Web} {m:Nat} {Ts:List (List Nat)} {M:List (List T)} {x i y j:Nat} {ts:List T} (h:SInv W m Ts M) (hx:M[x]? =some ts) (hi:i<ts.length) (hb:Bel W Ts x i y j):
  SInv W m Ts (M.set x (ts.set i (encE (y,j))))/\Fl (M.set x (ts.set i (encE (y,j)))) x i/\∀x' i',Fl M x' i'->Fl (M.set x (ts.set i (encE (y,j)))) x' i':=by
 have hc:cl M x i=some ts[i]:=by rw[cl_of hx];exact lJc hi
 have hp:M.set x (ts.set i (encE (y,j)))=_root_.W.put M x i (encE (y,j)):=by unfold _root_.W.put;rw[hx]
 have hxl:=(lJa.mp hx).1
 refine⟨⟨by rw[lKo];exact h.len,fun x' ts' h'=> ?_,fun x' i' v hv=> ?_⟩,?_,fun x' i' ⟨e,he⟩=> ?_⟩
 ·by_cases hxx:x'=x
  ·subst hxx
   rw[lJ2 hxl] at h';cases h'
   rw[lKo];exact h.row _ _ hx
  ·rw[lJz (fun z=>hxx z.symm)] at h';exact h.row _ _ h'
 ·rw[hp,cl_put hc] at hv
  by_cases hxx:x'=x/\i'=i
  ·rw[if_pos hxx] at hv;cases hv
   obtain⟨rfl,rfl⟩:=hxx
   exact .inr ⟨y,j,hb,rfl⟩
  ·rw[if_neg hxx] at hv;exact h.val _ _ _ hv
 ·exact⟨(y,j),by rw[hp,cl_put hc,if_pos ⟨rfl,rfl⟩]⟩
 ·by_cases hxx:x'=x/\i'=i
  ·exact⟨(y,j),by rw[hp,cl_put hc,if_pos hxx]⟩
  ·exact⟨e,by rw[hp,cl_put hc,if_neg hxx];exact he⟩
structure Sheet (W:Web) (m:Nat) (V:Web):Prop where
 len:V.length=m*W.length
 row:∀(x:Nat) (ts:List (Nat×Nat)),V[x]? =some ts->∃es,W[x%W.length]? =some es/\ts.length=es.length
 sym:Sym V
def DoneS (W:Web) (m:Nat) (Ts:List (List Nat)) (M:List (List T)) (d:Nat->Nat->Prop):Prop:=∀t k e f σ k',d t k->(jQ4 W)[t]? =some (e,f)->Ts[t]? =some σ->σ[k]? =some k'->Fl M (e.1+k*W.length) e.2/\Fl M (f.1+k'*W.length) f.2
noncomputable def dec:T->Nat×Nat
 | .tup [.int a,.int b]=>(a.toNat,b.toNat)
 | _=>(0,0)
theorem kQd {e:Nat×Nat}:dec (encE e)=e:=by obtain⟨a,b⟩:=e;simp[encE,dec]
theorem sheet_of {W:Web} {m:Nat} {Ts:List (List Nat)} {M:List (List T)} (hs:Sym W) (ok:TurnsOk W m Ts) (h:SInv W m Ts M) (hd:DoneS W m Ts M fun t k=>t<(jQ4 W).length/\k<m):Sheet W m (M.map (List.map dec))/\M=(M.map (List.map dec)).map (List.map encE):=by
 have full:∀x i v,cl M x i=some v->Fl M x i:=by
  intro x i v hv
  obtain⟨ts,h1,h2⟩:=kXx hv
  obtain⟨es,q1,q2⟩:=h.row _ _ h1
  have hx:x<m*W.length:=by rw[<-h.len];exact (lJa.mp h1).1
  have hi:i<es.length:=by rw[<-q2];exact (lJa.mp h2).1
  have hW:0<W.length:=by rcases Nat.eq_zero_or_pos W.length with z | z;rw[z] at hx;omega;exact z
  have hk:x / W.length<m:=Nat.div_lt_of_lt_mul (by rw[Nat.mul_comm];exact hx)
  have hxe:x%W.length+x / W.length*W.length=x:=by rw[Nat.mul_comm];exact Nat.mod_add_div x W.length
  have he:=jVo q1 (lJc hi)
  generalize es[i]=e at he
  obtain⟨s,j⟩:=e
  by_cases hle:leE (x%W.length,i) (s,j)=true
  ·obtain⟨t,ht⟩:=lJq (endsL_mem (x:=((x%W.length,i),(s,j))).mpr ⟨he,hle⟩)
   have htl:=(lJa.mp ht).1
   have htT:t<Ts.length:=by rw[ok.len];exact htl
   have hσ:Ts[t]? =some Ts[t]:=lJc htT
   obtain⟨k',hk',_⟩:=(ok.ok _ _ _ ht hσ).1.at hk
   have:=(hd t _ _ _ _ _ ⟨htl,hk⟩ ht hσ hk').1
   simp only at this
   rw[hxe] at this;exact this
  ·have hle2:leE (s,j) (x%W.length,i)=true:=by
    rw[leE_iff] at hle ⊢; simp only at hle ⊢; omega
   obtain⟨t,ht⟩:=lJq (endsL_mem (x:=((s,j),(x%W.length,i))).mpr ⟨hs _ _ _ _ he,hle2⟩)
   have htl:=(lJa.mp ht).1
   have htT:t<Ts.length:=by rw[ok.len];exact htl
   have hσ:Ts[t]? =some Ts[t]:=lJc htT
   obtain⟨k0,hk0,hk1⟩:=(ok.ok _ _ _ ht hσ).1.onto hk
   have:=(hd t _ _ _ _ _ ⟨htl,hk0⟩ ht hσ hk1).2
   simp only at this
   rw[hxe] at this;exact this
 have enM:∀x i e,en (M.map (List.map dec)) x i=some e->cl M x i=some (encE e)/\Bel W Ts x i e.1 e.2:=by
  intro x i e he
  obtain⟨es,h1,h2⟩:=jUv he
  rw[lJj] at h1
  cases e1:M[x]? with
  | none=>rw[e1] at h1;cases h1
  | some ts=>
   rw[e1] at h1;cases h1
   rw[lJj] at h2
   cases e2:ts[i]? with
   | none=>rw[e2] at h2;cases h2
   | some v=>
    rw[e2] at h2;cases h2
    have hc:cl M x i=some v:=by rw[cl_of e1];exact e2
    obtain⟨e',he'⟩:=full x i v hc
    rw[hc] at he';cases he'
    rw[kQd]
    refine⟨hc,?_⟩
    rcases h.val _ _ _ hc with z | ⟨y,j,hb,z⟩
    ·cases z
    ·have:e'=(y,j):=by rw[<-kQd (e:=e'),z,kQd]
     rw[this];exact hb
 have toM:∀x i e,cl M x i=some (encE e)->en (M.map (List.map dec)) x i=some e:=by
  intro x i e he
  obtain⟨ts,h1,h2⟩:=kXx he
  exact jVo (es:=ts.map dec) (by simp[h1]) (by simp[h2,kQd])
 refine⟨⟨by rw[lJb];exact h.len,fun x ts hx=> ?_,fun x i y j he=> ?_⟩,?_⟩
 ·rw[lJj] at hx
  cases e1:M[x]? with
  | none=>rw[e1] at hx;cases hx
  | some us=>
   rw[e1] at hx;cases hx
   rw[lJb];exact h.row _ _ e1
 ·obtain⟨h1,h2⟩:=enM x i (y,j) he
  have h3:Bel W Ts y j x i:=h2.symm
  have hin:∃v,cl M y j=some v:=by
   obtain⟨t,e,f,σ,k,k',q1,q2,q3,q4⟩:=h3
   obtain⟨z1,z2⟩:=kVb q1
   have z1:en W e.1 e.2=some (f.1,f.2):=z1
   have T1:=(ok.ok _ _ _ q1 q2).1
   have hk:k<m:=by rw[<-T1.len];exact (lJa.mp q3).1
   have hk':k'<m:=T1.lt _ (lJe q3)
   rcases q4 with ⟨a1,a2,_,_⟩ | ⟨_,_,a1,a2⟩
   ·obtain⟨ts,b1,b2⟩:=h.at hk z1
    exact⟨ts[e.2],by rw[a1,a2,cl_of b1];exact lJc b2⟩
   ·obtain⟨ts,b1,b2⟩:=h.at hk' (hs _ _ _ _ z1)
    exact⟨ts[f.2],by rw[a1,a2,cl_of b1];exact lJc b2⟩
  obtain⟨v,hv⟩:=hin
  obtain⟨e',he'⟩:=full y j v hv
  have h4:=toM y j e' he'
  obtain⟨_,h5⟩:=enM y j e' h4
  obtain⟨a1,a2⟩:=Bel.fn hs ok h3 h5
  rw[h4,<-show (e'.1,e'.2)=e' from rfl,<-a1,<-a2]
 ·rw[lJr]
  conv=>lhs;rw[<-List.map_id M]
  apply lKb
  intro ts hts
  show ts=(ts.map dec).map encE
  rw[lJr]
  conv=>lhs;rw[<-List.map_id ts]
  apply lKb
  intro v hv
  obtain⟨x,hx⟩:=lJq hts
  obtain⟨i,hi⟩:=lJq hv
  obtain⟨e,he⟩:=full x i v (by rw[cl_of hx];exact hi)
  rw[cl_of hx,hi] at he;cases he
  show encE e=encE (dec (encE e))
  rw[kQd]
def RowsT (G:Gp) (h:Addr) (M:List (List T)) (rs:List Addr):Prop:=G h=some (.lst (rs.map T.ref))/\rs.length=M.length/\∀(i:Nat) (r:Addr),rs[i]? =some r->∃ts:List T,M[i]? =some ts/\G r=some (.lst ts)
theorem RowsT.set {G:Gp} {h:Addr} {M:List (List T)} {rs:List Addr} {r:Nat} {a:Addr} {ts:List T} (x:RowsT G h M rs) (hn:(h::rs).Nodup) (hr:rs[r]? =some a):RowsT (gup G a (.lst ts)) h (M.set r ts) rs:=by
 rw[lKj] at hn
 have hrl:r<rs.length:=(lJa.mp hr).1
 refine⟨by rw[jJi];exact x.1;rintro rfl;exact hn.1 (lJe hr),by rw[lKo];exact x.2.1,fun i c e=> ?_⟩
 by_cases hi:i=r
 ·subst hi
  rw[hr] at e;cases e
  exact⟨ts,by rw[lJ2];rw[<-x.2.1];exact hrl,jJg⟩
 ·obtain⟨us,h1,h2⟩:=x.2.2 i c e
  refine⟨us,by rw[lJz (Ne.symm hi)];exact h1,?_⟩
  rw[jJi];exact h2
  rintro rfl
  have hil:i<rs.length:=(lJa.mp e).1
  exact hi ((lK0 hil hn.2).mp (e.trans hr.symm))
theorem RowsT.get {G:Gp} {h:Addr} {M:List (List T)} {rs:List Addr} {x:Nat} {ts:List T} (R:RowsT G h M rs) (hx:M[x]? =some ts):∃a,rs[x]? =some a/\L2.atI (rs.map T.ref) (x:Int)=some (.ref a)/\G a=some (.lst ts):=by
 have hxl:x<rs.length:=by rw[R.2.1];exact (lJa.mp hx).1
 have hr:rs[x]? =some rs[x]:=lJc hxl
 obtain⟨us,h1,h2⟩:=R.2.2 x _ hr
 rw[hx] at h1;cases h1
 exact⟨_,hr,by rw[atN,lJj,hr];rfl,h2⟩
theorem rep_non {n:Nat}:(List.replicate n [T.non]).flatten=List.replicate n T.non:=by
 induction n with
 | zero=>rfl
 | succ n ih=>rw[lKs,lK3,ih];rfl
noncomputable def rowN (W:Web) (x:Nat):List T:=List.replicate ((W[x%W.length]?).getD []).length .non
theorem sinv_start {W:Web} {m:Nat} {Ts:List (List Nat)}:SInv W m Ts ((List.range (m*W.length)).map (rowN W)) where
 len:=by simp
 row:=fun x ts h=>by
  rw[lJj] at h
  cases e:(List.range (m*W.length))[x]? with
  | none=>rw[e] at h;cases h
  | some y=>
   rw[e] at h;cases h
   obtain⟨q1,q2⟩:=lJa.mp e
   simp at q1 q2;subst q2
   have hW:0<W.length:=by rcases Nat.eq_zero_or_pos W.length with z | z;rw[z] at q1;omega;exact z
   have hx:x%W.length<W.length:=Nat.mod_lt _ hW
   exact⟨W[x%W.length],lJc hx,by simp[rowN,hx]⟩
 val:=fun x i v h=>by
  obtain⟨ts,h1,h2⟩:=kXx h
  rw[lJj] at h1
  cases e:(List.range (m*W.length))[x]? with
  | none=>rw[e] at h1;cases h1
  | some y=>
   rw[e] at h1;cases h1
   have:=lJe h2
   unfold rowN at this
   exact .inl (List.mem_replicate.mp this).2
noncomputable def jKt:Sp3:=fun xs G Q=>∃(W:Web) (tr:Addr) (m:Nat) (Ts:List (List Nat)),xs=[encW W,.ref tr,.int m]/\Fine W/\Sym W/\1<=W.length/\1<=m/\m*W.length<=1000/\TurnsOk W m Ts/\G tr=some (.lst (Ts.map fun σ=>T.tup (jJl σ)))/\∀V G',Sheet W m V->Sub G G'->Q (encW V) G'
noncomputable def kQj:List Str:=["_law_web_here","_law_turns","_law_many","_law_made","_law_t","_law_one","_law_other","_law_k","_law_spot","_law_there","_law_n","_law_room"]
noncomputable def jVu:TS3:=
 (tSeq (tAsg (jU3 [false,false,false,false,false,false,false,false,false,false,true,false] (jQo (jJb (tOp jXs (tVar 2) (tCB rLen (jJb (tVar 0) tNil))) tNil)) (jJj 10) jU8 (tOp jXs (tLst (jJb (tC .non) tNil)) (tCB rLen (jJb (tOp rIxF (tVar 0) (tOp rMod (tVar 10) (tCB rLen (jJb (tVar 0) tNil)))) tNil)))) (jJj 3))
 (tSeq (tFor (kJc (jJb (jJw jQm (jJb (tVar 0) tNil)) tNil)) (gTup 2 (jKg (jJj 4) (jKg (gTup 2 (jKg (jJj 5) (jKg (jJj 6) gNil))) gNil))) (tFor (jQo (jJb (tVar 2) tNil)) (jJj 7) (tSeq (tAsg (tOp jQi (tOp rIxF (tVar 5) (tC (.int 0))) (tOp jXs (tVar 7) (tCB rLen (jJb (tVar 0) tNil)))) (jJj 8))
 (tSeq (tAsg (tOp jQi (tOp rIxF (tVar 6) (tC (.int 0))) (tOp jXs (tOp rIxF (tOp rIxF (tVar 1) (tVar 4)) (tVar 7)) (tCB rLen (jJb (tVar 0) tNil)))) (jJj 9))
 (tSeq (tAsg (tTup (jJb (tVar 9) (jJb (tOp rIxF (tVar 6) (tC (.int 1))) tNil))) (gSub (tOp rIxF (tVar 3) (tVar 8)) (tOp rIxF (tVar 5) (tC (.int 1))) jXr))
 (tAsg (tTup (jJb (tVar 8) (jJb (tOp rIxF (tVar 5) (tC (.int 1))) tNil))) (gSub (tOp rIxF (tVar 3) (tVar 9)) (tOp rIxF (tVar 6) (tC (.int 1))) jXr)))))))
 (tRet (tCB jK0 (jJb (jU3 [false,false,false,false,false,false,false,false,false,false,false,true] (iSeq (tVar 3)) (jJj 11) jU8 (tCB jK0 (jJb (tVar 11) tNil))) tNil)))))
theorem kQr:∀xs G Q,jKt xs G Q->jVu {nx:=fun _ G'=>Q .non G',rt:=Q} (jJk kQj xs) G:=by
 intro xs G Q h_;apply xe4 h_;clear h_;intro W tr m Ts h_;apply ae8 h_;clear h_;intro fine sym hW1 hm1 hmn ok htr kk
 rw[show jJk kQj [encW W,.ref tr,.int m]=[some (.tup (W.map encR)),some (.ref tr),some (.int m),none,none,none,none,none,none,none,none,none] from rfl]
 have hs:=sz
 have hl:=fine.len
 have hm2:m<=1000:=lJs (Nat.le_mul_of_pos_right m hW1) hmn
 wp_walk using 1,jVu,jJ6,jQo,kJc,iSeq,lJb
 have hcast:(m:Int)*(W.length:Int)=((m*W.length:Nat):Int):=by simp
 rw[hcast]
 refine⟨.inr ⟨by omega,by omega⟩,by omega,by omega,?_⟩
 rw[show ((m*W.length:Nat):Int).toNat=m*W.length by omega,jY9]
 refine kUv (rowN W) (by simp;omega) (fun _ _=>trivial) ?_ ?_
 ·intro x x' hx G' K K0 s hk
  obtain⟨q1,q2⟩:=lJa.mp hx
  simp at q1 q2;subst q2
  have hmod:x%W.length<W.length:=Nat.mod_lt _ hW1
  have hWx:W[x%W.length]? =some W[x%W.length]:=lJc hmod
  have hrow:rowN W x=List.replicate (W[x%W.length]).length .non:=by simp[rowN,hWx]
  rw[hrow] at hk
  generalize W[x%W.length]=es at hWx hk
  have hes:=fine.row _ _ hWx
  wp_walk using 1,lJb,show (x:Int)%(W.length:Int)=((x%W.length:Nat):Int) by simp,jUl hWx,encR
  refine⟨by omega,fun p hp=>⟨by omega,.newL (List.replicate es.length .non),?_,?_⟩⟩
  ·rw[<-rep_non]
   simp only[mulR,jJg];rw[if_pos];congr;refine⟨?_,?_,?_⟩<;>simp<;>omega
  ·rw[fin_new]
   intro q hq
   have hq0:=(jK1 hq).2
   exact hk q _ hq0 jJg ((Sub.new hp).over hq0)
 ·intro D rs G1 hD hD1 s1 hrl hnd hrs
  rw[lK1] at hrl
  have hfr:∀r,r∈rs->G r=none:=by
   intro r z
   obtain⟨j,hj⟩:=lJq z
   have hjl:j<rs.length:=(lJa.mp hj).1
   exact (hrs j r j hj (by rw[lQa (by omega)])).1
  refine⟨W,rfl,fine,fun pe G2 hpe hG2 hlen s2=> ?_⟩
  have hpn:∀r,r∈rs->pe≠r:=by
   rintro r z rfl
   obtain⟨j,hj⟩:=lJq z
   have hjl:j<rs.length:=(lJa.mp hj).1
   have:=(hrs j pe j hj (by rw[lQa (by omega)])).2
   rw[this] at hpe;cases hpe
  refine⟨(jQ4 W).map encT,by simp only[jU4,hG2,asL],?_⟩
  let J1:Nat->St3->Gp->Prop:=fun t τ G'=>∃(v4 v5 v6 v7 v8 v9:Option T) (M:List (List T)),τ=[some (.tup (W.map encR)),some (.ref tr),some (.int m),some (.ref D),v4,v5,v6,v7,v8,v9,none,none]/\RowsT G' D M rs/\SInv W m Ts M/\DoneS W m Ts M (fun t' k=>t'<t/\k<m)/\Sub G G'/\G' pe=some (.lst ((jQ4 W).map encT))
  refine⟨J1,?_,?_,?_,?_⟩
  ·refine xi7 none none none none none none ((List.range (m*W.length)).map (rowN W)) rfl ⟨⟨s2 _ _ hD1,by simp[hrl],fun i r hi=> ?_⟩,sinv_start,fun t k e f σ k' h=>absurd h.1 (lKr _),s1.trans s2,hG2⟩
   have hil:i<m*W.length:=by rw[<-hrl];exact (lJa.mp hi).1
   exact⟨rowN W i,by simp[hil],s2 _ _ (hrs i r i hi (by simp[hil])).2⟩
  ·intro t τ G' ht h_;apply xe7 h_;clear h_;intro v4 v5 v6 v7 v8 v9 M h_;apply ae5 h_;clear h_;intro i1 i2 i3 i4 i5
   simp only[jU4,i5,asL]
  ·intro t x τ G3 hx h_;apply xe7 h_;clear h_;intro v4 v5 v6 v7 v8 v9 M h_;apply ae5 h_;clear h_;intro i1 i2 i3 i4 i5
   have ht:t<(jQ4 W).length:=by have:=(lJa.mp hx).1;simpa[jZk] using this
   have hte:(jQ4 W)[t]? =some (jQ4 W)[t]:=lJc ht
   rw[jVc (x:=encT (jQ4 W)[t]) (by simp[ht])] at hx
   cases hx
   generalize (jQ4 W)[t]=x at hte
   obtain⟨e,f⟩:=x
   have htT:t<Ts.length:=by rw[ok.len];exact ht
   have hσ:Ts[t]? =some Ts[t]:=lJc htT
   generalize Ts[t]=σ at hσ
   obtain⟨T1,T2⟩:=ok.ok _ _ _ hte hσ
   have hef:en W e.1 e.2=some (f.1,f.2):=(kVb hte).1
   have hfe:=sym _ _ _ _ hef
   wp_walk using 1,jJ6,jQo,encT
   refine⟨by omega,by omega,?_⟩
   rw[show ((m:Int)).toNat=m by omega]
   let J2:Nat->St3->Gp->Prop:=fun k τ G'=>∃(v7 v8 v9:Option T) (M:List (List T)),τ=[some (.tup (W.map encR)),some (.ref tr),some (.int m),some (.ref D),some (.int t),some (encE e),some (encE f),v7,v8,v9,none,none]/\RowsT G' D M rs/\SInv W m Ts M/\DoneS W m Ts M (fun t' k'=>(t'<t/\k'<m)\/(t'=t/\k'<k))/\Sub G G'/\G' pe=some (.lst ((jQ4 W).map encT))
   refine⟨J2,?_,?_,?_,?_⟩
   ·refine xi4 v7 v8 v9 M rfl ⟨i1,i2,fun t' k e f σ k' h=> ?_,i4,i5⟩
    rcases h with h | h
    ·exact i3 t' k e f σ k' h
    ·exact absurd h.2 (lKr _)
   ·intros;trivial
   ·intro k x τ G4 hx h_;apply xe4 h_;clear h_;intro v7 v8 v9 M h_;apply ae5 h_;clear h_;intro i1 i2 i3 i4 i5
    obtain⟨hk,rfl⟩:=jVl hx
    obtain⟨k',hk',hkm⟩:=T1.at hk
    have hb1:Bel W Ts (e.1+k*W.length) e.2 (f.1+k'*W.length) f.2:=⟨t,e,f,σ,k,k',hte,hσ,hk',.inl ⟨rfl,rfl,rfl,rfl⟩⟩
    obtain⟨ts,m1,m2⟩:=i2.at hk hef
    obtain⟨a,a1,a2,a3⟩:=i1.get m1
    have ham:=lJe a1
    obtain⟨p1,p2,p3⟩:=i2.put m1 m2 hb1
    have q1:=i1.set (ts:=ts.set e.2 (encE (f.1+k'*W.length,f.2))) hnd a1
    obtain⟨us,m3,m4⟩:=p1.at hkm hfe
    obtain⟨c,c1,c2,c3⟩:=q1.get m3
    have hcm:=lJe c1
    obtain⟨p4,p5,p6⟩:=p1.put m3 m4 hb1.symm
    have q2:=q1.set (ts:=us.set f.2 (encE (e.1+k*W.length,e.2))) hnd c1
    have g2:L2.atI (Ts.map fun σ=>T.tup (jJl σ)) (t:Int)=some (.tup (jJl σ)):=by rw[atN];simp[hσ]
    have g3:L2.atI (jJl σ) (k:Int)=some (.int (k':Nat)):=by rw[atN];simp[jJl,hk']
    have b1:e.1+k*W.length<m*W.length:=by rw[<-i2.len];exact (lJa.mp m1).1
    have b2:f.1+k'*W.length<m*W.length:=by rw[<-p1.len];exact (lJa.mp m3).1
    have s8:(e.1:Int)+(k:Int)*(W.length:Int)=((e.1+k*W.length:Nat):Int):=by simp
    have s9:(f.1:Int)+(k':Int)*(W.length:Int)=((f.1+k'*W.length:Nat):Int):=by simp
    wp_walk using 1,encE,lJb,jQu (i4 _ _ htr),g2,g3,s8,s9,jQu i1.1,a2,jY8 a3 (kUd m2)
    refine⟨.inr ⟨by omega,by omega⟩,.inr ⟨by omega,by omega⟩,by omega,by omega,.ref c,(jQu q1.1).trans c2,_,jY8 c3 (kUd m4),xi4 _ _ _ _ rfl ⟨q2,p4,?_,(i4.over (hfr a ham)).over (hfr c hcm),?_⟩⟩
    ·intro t' k0 e' f' σ' k1 h g4 g5 g6
     by_cases hh:t'=t/\k0=k
     ·obtain⟨rfl,rfl⟩:=hh
      rw[hte] at g4;cases g4
      rw[hσ] at g5;cases g5
      rw[hk'] at g6;cases g6
      exact⟨p6 _ _ p2,p5⟩
     ·obtain⟨z1,z2⟩:=i3 t' k0 e' f' σ' k1 (by omega) g4 g5 g6
      exact⟨p6 _ _ (p3 _ _ z1),p6 _ _ (p3 _ _ z2)⟩
    ·rw[jJi (hpn c hcm),jJi (hpn a ham)];exact i5
   ·intro τ G' h_;apply xe4 h_;clear h_;intro v7 v8 v9 M h_;apply ae5 h_;clear h_;intro i1 i2 i3 i4 i5
    rw[jQ8] at i3
    refine xi7 _ _ _ _ _ _ M rfl ⟨i1,i2,fun t' k e f σ k' h=>i3 t' k e f σ k' ?_,i4,i5⟩
    by_cases hh:t'=t
    ·exact .inr ⟨hh,h.2⟩
    ·exact .inl ⟨by omega,h.2⟩
  ·intro τ G3 h_;apply xe7 h_;clear h_;intro v4 v5 v6 v7 v8 v9 M h_;apply ae5 h_;clear h_;intro i1 i2 i3 i4 i5
   rw[jZk,lJb] at i3
   obtain⟨sh,eM⟩:=sheet_of sym ok i2 i3
   wp_walk using 1,iSeq,jJp i1.1
   refine jUa (es:=rs) (fun r=>T.tup (match G3 r with | some (.lst ts)=>ts | _=>[])) (by omega) (fun G' s=>jJp (s _ _ i1.1)) ?_ ?_
   ·intro i r hr G4 K K0 s hk
    obtain⟨ts,z1,z2⟩:=i1.2.2 i r hr
    wp_walk using 1,jJp (s _ _ z2)
    have:=hk G4 (.refl _)
    rw[z2] at this
    exact this
   ·intro E G4 hE h4 s4
    refine⟨_,jJp h4,?_⟩
    have e1:rs.map (fun r=>T.tup (match G3 r with | some (.lst ts)=>ts | _=>[]))=(M.map (List.map dec)).map encR:=by
     have e2:(M.map (List.map dec)).map encR=M.map T.tup:=by
      conv=>rhs;rw[eM]
      rw[lJr,lJr,lJr];rfl
     rw[e2]
     apply lKc
     intro i
     by_cases hi:i<rs.length
     ·have hri:rs[i]? =some rs[i]:=lJc hi
      obtain⟨ts,z1,z2⟩:=i1.2.2 i _ hri
      rw[lJj,lJj,hri,z1]
      simp only[Option.map_some,z2]
     ·rw[lJh (by rw[lJb];omega),lJh (by rw[lJb,<-i1.2.1];omega)]
    rw[e1]
    exact kk _ G4 sh (i4.trans s4)
def Cov (W:Web) (m:Nat) (V:Web):Prop:=V=W\/(Sheet W m V/\Conn V)
theorem Sheet.fine {W V:Web} {m:Nat} (h:Sheet W m V) (f:Fine W) (hm:m*W.length<=1000):Fine V where
 len:=by rw[h.len];exact hm
 row:=fun x ts hx=>by obtain⟨es,h1,h2⟩:=h.row x ts hx;rw[h2];exact f.row _ _ h1
 rng:=fun r i s j he=>kXt (h.sym _ _ _ _ he)
theorem Found.conn {V:Web} {F:List Nat} (h:Found V 0 F) (hl:F.length=V.length):Conn V:=fun S h0 hst r hr=>h.got S h0 hst r (kKq h.nd h.lt hl r hr)
theorem eqG_enc {G:Gp} {e f:Nat×Nat}:eqG G (encE e) (encE f)=some (decide (e=f)):=by
 obtain⟨a,b⟩:=e;obtain⟨c,d⟩:=f
 rw[show eqG G (encE (a,b)) (encE (c,d))=some (eqT (encE (a,b)) (encE (c,d))) from rfl]
 congr 1
 simp only[encE,eqT,eqTs,Bool.and_true]
 by_cases h1:a=c
 ·by_cases h2:b=d
  ·simp[h1,h2]
  ·have:¬ (b:Int)=d:=by omega
   simp[h1,h2,this]
 ·have:¬ (a:Int)=c:=by omega
  simp[h1,this]
theorem kJf {G:Gp} {a c:Nat}:eqG G (.int a) (.int c)=some (decide (a=c)):=by
 rw[show eqG G (.int a) (.int c)=some (eqT (.int a) (.int c)) from rfl]
 congr 1
 simp only[eqT]
 by_cases h1:a=c
 ·simp[h1]
 ·have:¬ (a:Int)=c:=by omega
  simp[h1,this]
noncomputable def jKv:Sp3:=fun xs G Q=>∃(b:Addr) (W:Web) (m n:Nat),xs=[.ref b,encW W,.int m]/\BoxAt G b n/\n+3*((jQ4 W).length*m)<2^40/\Fine W/\Sym W/\1<=W.length/\1<=m/\m*W.length<=1000/\∀V G',Cov W m V->BoxAt G' b (n+3*((jQ4 W).length*m))->Keep b G G'->Q (encW V) G'
noncomputable def kQl:List Str:=["_law_box_here","_law_web_here","_law_many","_law_turn_here","_law_turns","_law_pair","_law_made"]
noncomputable def jVw:TS3:=
 (tSeq (tFor (jQo (jJb (tC (.int 3)) tNil)) (jJj 3) (tSeq (tAsg (tLst tNil) (jJj 4))
 (tSeq (tFor (iSeq (jJw jQm (jJb (tVar 1) tNil))) (jJj 5) (jQl (tBM "list" jK3 (tVar 4) (jJb (jJw jQ6 (jJb (tVar 0) (jJb (tVar 2) (jJb (tOp rEqA (tOp rIxF (tVar 5) (tC (.int 0))) (tOp rIxF (tVar 5) (tC (.int 1)))) tNil)))) tNil))))
 (tSeq (tAsg (jJw jKt (jJb (tVar 1) (jJb (tVar 4) (jJb (tVar 2) tNil)))) (jJj 6))
 (tIfS (jJ7 (tOp rEqA (tCB rLen (jJb (jJw jKu (jJb (tVar 6) (jJb (tC (.int 0)) tNil))) tNil)) (tCB rLen (jJb (tVar 6) tNil)))) (tRet (tVar 6)) jQc)))))
 (tRet (tVar 1)))
theorem kQt:∀xs G Q,jKv xs G Q->jVw {nx:=fun _ G'=>Q .non G',rt:=Q} (jJk kQl xs) G:=by
 intro xs G Q h_;apply xe4 h_;clear h_;intro b W m n h_;apply ae8 h_;clear h_;intro hb hn fine sym hW1 hm1 hmn kk
 rw[show jJk kQl [.ref b,encW W,.int m]=[some (.ref b),some (encW W),some (.int m),none,none,none,none] from rfl]
 have hs:=sz
 have hm2:m<=1000:=lJs (Nat.le_mul_of_pos_right m hW1) hmn
 wp_walk using 1,jVw,jJ6,jQo
 refine⟨by decide,by decide,?_⟩
 refine⟨fun k τ G'=>∃(v3 v4 v5 v6:Option T),τ=[some (.ref b),some (encW W),some (.int m),v3,v4,v5,v6]/\BoxAt G' b (n+k*((jQ4 W).length*m))/\Keep b G G',?_,?_,?_,?_⟩
 ·exact⟨none,none,none,none,rfl,by simpa using hb,.refl _ _⟩
 ·intros;trivial
 ·intro k x τ G1 hx h_;apply xe4 h_;clear h_;intro v3 v4 v5 v6 h_;apply ae2 h_;clear h_;intro hb1 kp1
  have hk:k<3:=by have:=(lJa.mp hx).1;rw[jQ8] at this;exact this
  have hk3:(k+1)*((jQ4 W).length*m)<=3*((jQ4 W).length*m):=lK5 _ (by omega)
  rw[lKx] at hk3
  obtain⟨bo,hbo⟩:=hb1.some
  wp_walk using 1,jJ6,iSeq
  refine⟨lJg _,fun D hD0=> ?_⟩
  have hDb:=jJd hbo hD0
  refine⟨W,rfl,fine,fun pe G2 hpe hG2 hlen s2=> ?_⟩
  have hD:=s2 _ _ (jJg (G:=G1) (a:=D) (o:= .lst []))
  have s1:Sub G1 G2:=(Sub.new hD0).trans s2
  have hpb:b≠pe:=by rintro rfl;rw[jJi hDb] at hpe;rw[hpe] at hbo;cases hbo
  have hDe:pe≠D:=by rintro rfl;rw[jJg] at hpe;cases hpe
  have hpe1:G1 pe=none:=by rw[jJi hDe] at hpe;exact hpe
  refine⟨_,jJp hG2,?_⟩
  let J2:Nat->St3->Gp->Prop:=fun i τ G'=>∃(v5:Option T) (Ts:List (List Nat)),τ=[some (.ref b),some (encW W),some (.int m),some x,some (.ref D),v5,v6]/\Ts.length=i/\(∀(t:Nat) (x:Tie) (σ:List Nat),(jQ4 W)[t]? =some x->Ts[t]? =some σ->Turn m σ/\(x.1=x.2->Invol σ))/\BoxAt G' b (n+k*((jQ4 W).length*m)+i*m)/\Keep b G1 G'/\G' pe=some (.lst ((jQ4 W).map encT))/\G' D=some (.lst (Ts.map fun σ=>T.tup (jJl σ)))
  refine⟨J2,?_,?_,?_,?_⟩
  ·exact⟨_,[],rfl,rfl,fun t x σ _ h=>by simp at h,by simpa using (hb1.sub s1),.sub s1,hG2,hD⟩
  ·intro i τ G' hi h_;apply xe2 h_;clear h_;intro v5 Ts h_;apply ae6 h_;clear h_;intro j1 j2 j3 j4 j6 j5
   exact jJp j6
  ·intro i y τ G3 hx0 h_;apply xe2 h_;clear h_;intro v5 Ts h_;apply ae6 h_;clear h_;intro j1 j2 j3 j4 j6 j5
   obtain⟨⟨e,f⟩,hte,rfl⟩:=jQ5 hx0
   have hi:i<(jQ4 W).length:=(lJa.mp hte).1
   have him:(i+1)*m<=(jQ4 W).length*m:=lK5 _ hi
   rw[lKx] at him
   wp_walk using 1,encT,rEqA,eqG_enc,jK2 j5
   refine⟨b,m,_,_,rfl,j3,by omega,hm1,hm2,fun σ G4 T1 T2 bx kp=> ?_⟩
   refine⟨_,kp _ _ hDb.symm j5,by rw[lJb];omega,_,Ts++[σ],rfl,by simp[j1],?_,?_,?_,?_,?_⟩
   ·intro t y ρ h1 h2
    by_cases htl:t<Ts.length
    ·rw[lJ0 htl] at h2;exact j2 t y ρ h1 h2
    ·have htl2:t<(Ts++[σ]).length:=(lJa.mp h2).1
     simp at htl2
     have:t=Ts.length:=by omega
     subst this
     rw[lK7 (lJd _)] at h2
     simp at h2;subst h2
     rw[j1,hte] at h1;cases h1
     exact⟨T1,fun z=>T2 (by simpa using z)⟩
   ·exact (bx.gup hDb).mono (by rw[lKx];omega)
   ·exact (j4.trans kp).over hD0
   ·rw[jJi hDe];exact kp _ _ hpb.symm j6
   ·rw[jJg,lJu];rfl
  ·intro τ G3 h_;apply xe2 h_;clear h_;intro v5 Ts h_;apply ae6 h_;clear h_;intro j1 j2 j3 j4 j6 j5
   rw[lJb] at j1 j3
   wp_walk using 1,tSeq
   have hkp3:Keep b G G3:=kp1.trans j4
   refine⟨W,D,m,Ts,rfl,fine,sym,hW1,hm1,hmn,⟨j1,j2⟩,j5,fun V G4 sh s4=> ?_⟩
   have hVl:1<=V.length:=by rw[sh.len];exact Nat.mul_pos hm1 hW1
   refine⟨V,0,rfl,sh.fine fine hmn,hVl,fun p G5 F hp hp5 fd _ s5=> ?_⟩
   wp_walk using 1,rEqA,jJp hp5,encW,jJl,lJb,kJf
   split
   ·rename_i hc
    have hc:F.length=V.length:=by simpa using hc
    exact kk V G5 (.inr ⟨sh,fd.conn hc⟩) (((j3.sub s4).sub s5).mono (by omega)) ((hkp3.trans (.sub s4)).trans (.sub s5))
   ·exact⟨((j3.sub s4).sub s5).mono (by rw[lKx];omega),(hkp3.trans (.sub s4)).trans (.sub s5)⟩
 ·intro τ G1 h_;apply xe4 h_;clear h_;intro v3 v4 v5 v6 h_;apply ae2 h_;clear h_;intro hb1 kp1
  rw[jQ8] at hb1
  wp_walk using 1,tSeq
  exact kk W G1 (.inl rfl) hb1 kp1
structure AnyWeb (W:Web):Prop where
 pos:1<=W.length
 len:W.length<=24
 sym:Sym W
 deg:∀(r:Nat) (es:List (Nat×Nat)),W[r]? =some es->es.length<=6
 conn:Conn W
theorem WebOk.any {n d:Nat} {W:Web} (h:WebOk n d W) (h1:1<=n) (h2:n<=24) (h3:d<=6):AnyWeb W:=⟨by rw[h.len];exact h1,by rw[h.len];exact h2,h.sym,fun r es hr=>lJs (h.deg r es hr) h3,h.conn⟩
theorem WebOk.fine {n d:Nat} {W:Web} (h:WebOk n d W) (h2:n<=24) (h3:d<=6):Fine W:=⟨by rw[h.len];omega,fun r es hr=>by have:=h.deg r es hr;omega,fun r i s j he=>kXt (h.sym _ _ _ _ he)⟩
theorem AnyWeb.fine {W:Web} (h:AnyWeb W):Fine W:=⟨by have:=h.len;omega,fun r es hr=>by have:=h.deg r es hr;omega,fun r i s j he=>kXt (h.sym _ _ _ _ he)⟩
theorem flat_len {α β:Type} {f:α->List β} {d:Nat}:∀ {l:List α},(∀a,a∈l->(f a).length<=d)->(l.flatMap f).length<=l.length*d
 | [],_=>by simp
 | a::l,h=>by
  rw[List.flatMap_cons,lJo,lJ4,lKx]
  have h1:=h a (lKe)
  have h2:=flat_len (l:=l) fun x hx=>h x (lJ1 _ hx)
  omega
theorem ends_len {W:Web} {d:Nat} (h:∀(r:Nat) (es:List (Nat×Nat)),W[r]? =some es->es.length<=d):(jQ4 W).length<=W.length*d:=by
 have:=flat_len (f:=rowE W) (d:=d) (l:=List.range W.length) fun r hr=>by
  unfold rowE
  split
  ·rename_i es hes
   have h1:=List.length_filterMap_le (kJ0 r es) (List.range es.length)
   rw[lK1] at h1
   have h2:=h r es hes
   omega
  ·simp
 rwa [lK1] at this
noncomputable def jX3 (r:Nat) (es:List (Nat×Nat)):Nat:=(es.getLast?.map Prod.fst).getD r
noncomputable def goW (W:Web) (r:Nat) (ds:List Nat):Option (List (Nat×Nat)):=ds.foldl (fun o d=>o.bind fun es=>(en W (jX3 r es) d).map fun e=>es++[e]) (some [])
theorem jZo {W:Web} {r d:Nat} {ds:List Nat}:goW W r (ds++[d])=(goW W r ds).bind fun es=>(en W (jX3 r es) d).map fun e=>es++[e]:=by
 unfold goW;rw[List.foldl_append];rfl
theorem goW_none {W:Web} {r:Nat} {ds ds':List Nat} (h:goW W r ds=none):goW W r (ds++ds')=none:=by
 unfold goW at h ⊢
 rw[List.foldl_append,h]
 induction ds' with
 | nil=>rfl
 | cons a as ih=>exact ih
theorem kJa {r:Nat} {es:List (Nat×Nat)} {e:Nat×Nat}:jX3 r (es++[e])=e.1:=by simp[jX3]
theorem snocRec {α:Type} {P:List α->Prop} (h0:P []) (h1:∀ds d,P ds->P (ds++[d])) (ds:List α):P ds:=by
 have:∀l:List α,P l.reverse:=by
  intro l
  induction l with
  | nil=>exact h0
  | cons a as ih=>rw[lK2];exact h1 _ _ ih
 have h:=this ds.reverse
 rwa [List.reverse_reverse] at h
theorem goW_lt {W:Web} (f:Fine W) {r:Nat} (hr:r<W.length):∀ {ds:List Nat} {es:List (Nat×Nat)},goW W r ds=some es->jX3 r es<W.length/\es.length=ds.length/\∀e,e∈es->e.1<W.length:=by
 intro ds
 refine snocRec (P:=fun ds=>∀ {es:List (Nat×Nat)},goW W r ds=some es->jX3 r es<W.length/\es.length=ds.length/\∀e,e∈es->e.1<W.length) ?_ ?_ ds
 ·intro es h;cases h;exact⟨hr,rfl,fun e he=>by cases he⟩
 ·intro ds d ih es h
  rw[jZo] at h
  cases e1:goW W r ds with
  | none=>rw[e1] at h;cases h
  | some es1=>
   rw[e1] at h
   obtain⟨a1,a2,a3⟩:=ih e1
   simp only[Option.bind_some] at h
   cases e2:en W (jX3 r es1) d with
   | none=>rw[e2] at h;cases h
   | some e=>
    rw[e2] at h;cases h
    have he:=f.rng _ _ e.1 e.2 e2
    refine⟨by rw[kJa];exact he,by simp[a2],fun x hx=> ?_⟩
    rw[lJt,lJk] at hx
    rcases hx with hx | rfl
    ·exact a3 x hx
    ·exact he
theorem goW_take {W:Web} {r i d:Nat} {ds:List Nat} (hd:ds[i]? =some d):goW W r (ds.take (i+1))=(goW W r (ds.take i)).bind fun es=>(en W (jX3 r es) d).map fun e=>es++[e]:=by
 rw[lKa,hd];exact jZo
theorem goW_cut {W:Web} {r i d:Nat} {ds:List Nat} {es:List (Nat×Nat)} (hd:ds[i]? =some d) (h:goW W r (ds.take i)=some es) (hn:en W (jX3 r es) d=none):goW W r ds=none:=by
 have:goW W r (ds.take (i+1))=none:=by rw[goW_take hd,h];simp[hn]
 have h2:=goW_none (ds':=ds.drop (i+1)) this
 rwa [List.take_append_drop] at h2
noncomputable def jQp:Sp3:=fun xs G Q=>∃(W:Web) (r:Nat) (x:T) (ds:List Nat),xs=[encW W,.int r,x]/\Fine W/\r<W.length/\seqT G x=some (jJl ds)/\ds.length<=1000/\∀G',Sub G G'->(goW W r ds=none->Q .non G')/\(∀es p,goW W r ds=some es->G p=none->G' p=some (.lst (es.map encE))->Q (.ref p) G')
noncomputable def N_ends_on:List Str:=["web","room","way","ends","here","door","end"]
noncomputable def jYk:TS3:=
 (tSeq (tAsg (tLst tNil) (jJj 3))
 (tSeq (tAsg (tVar 1) (jJj 4))
 (tSeq (tFor (iSeq (tVar 2)) (jJj 5) (tSeq (tIfS (tNot (jJ7 (kUg rLeF rLt (tC (.int 0)) (tVar 5) (tCB rLen (jJb (tOp rIxF (tVar 0) (tVar 4)) tNil))))) (tRet (tC .non)) jQc)
 (tSeq (tAsg (tOp rIxF (tOp rIxF (tVar 0) (tVar 4)) (tVar 5)) (jJj 6))
 (tSeq (jQl (tBM "list" jK3 (tVar 3) (jJb (tVar 6) tNil)))
 (tAsg (tOp rIxF (tVar 6) (tC (.int 0))) (jJj 4))))))
 (tRet (tVar 3)))))
theorem row_at {W:Web} {r:Nat} (hr:r<W.length):∃es,W[r]? =some es/\∀d,en W r d=es[d]? :=⟨W[r],lJc hr,fun d=>by unfold en;rw[lJc hr];rfl⟩
theorem rdok_ends_on:∀xs G Q,jQp xs G Q->jYk {nx:=fun _ G'=>Q .non G',rt:=Q} (jJk N_ends_on xs) G:=by
 intro xs G Q h_;apply xe4 h_;clear h_;intro W r x ds h_;apply ae5 h_;clear h_;intro fine hr hx hdl kk
 rw[show jJk N_ends_on [encW W,.int r,x]=[some (.tup (W.map encR)),some (.int r),some x,none,none,none,none] from rfl]
 have hs:=sz
 wp_walk using 1,jYk,jJ6,iSeq
 refine⟨lJg _,fun p hp=> ?_⟩
 refine⟨jJl ds,(Sub.new hp).seq hx,?_⟩
 refine⟨fun i τ G'=>∃(v5 v6:Option T) (es:List (Nat×Nat)),τ=[some (.tup (W.map encR)),some (.int r),some x,some (.ref p),some (.int (jX3 r es:Nat)),v5,v6]/\goW W r (ds.take i)=some es/\G' p=some (.lst (es.map encE))/\Sub G G',?_,?_,?_,?_⟩
 ·exact⟨none,none,[],rfl,rfl,jJg,.new hp⟩
 ·intro i τ G' hi h_;apply xe3 h_;clear h_;intro v5 v6 es h_;apply ae3 h_;clear h_;intro h1 h2 h3
  exact h3.seq hx
 ·intro i y τ G1 hy h_;apply xe3 h_;clear h_;intro v5 v6 es h_;apply ae3 h_;clear h_;intro h1 h2 h3
  obtain⟨d,hd,rfl⟩:=jQ5 hy
  have hi:i<ds.length:=(lJa.mp hd).1
  obtain⟨b1,b2,b3⟩:=goW_lt fine hr h1
  obtain⟨row,hrow,hen⟩:=row_at b1
  have hrl:=fine.row _ _ hrow
  rw[lKk] at b2
  have hatR:=jUl hrow
  wp_walk using 1,kUg,rLeF,hatR,encR,lJb
  rw[if_pos (by omega)]
  by_cases hdr:d<row.length
  ·have hed:row[d]? =some row[d]:=lJc hdr
   generalize row[d]=e at hed
   have heR:=encR_at hed
   wp_walk using 1,heR,show decide ((d:Int)<(row.length:Int))=true by simp;omega,encE,jK2 h2,h2,lJb
   refine⟨by omega,_,_,es++[e],by rw[kJa],rfl,rfl,?_,by simp[encE],h3.over hp⟩
   rw[goW_take hd,h1]
   simp[hen,hed]
  ·have hnone:row[d]? =none:=lJh (by omega)
   wp_walk using 1,show decide ((d:Int)<(row.length:Int))=false by simp;omega
   exact (kk G1 h3).1 (goW_cut hd h1 (by rw[hen];exact hnone))
 ·intro τ G1 h_;apply xe3 h_;clear h_;intro v5 v6 es h_;apply ae3 h_;clear h_;intro h1 h2 h3
  wp_walk using 1,tSeq
  have e1:(jJl ds).length=ds.length:=by simp[jJl]
  rw[e1,lKf] at h1
  exact (kk G1 h3).2 es p h1 hp h2
theorem at_ints {nu:List Nat} {x y:Nat} (h:nu[x]? =some y):L2.atI (jJl nu) (x:Int)=some (.int (y:Nat)):=by rw[atN];simp[jJl,h]
theorem valT_isSome {kvs:List (L2.Key×T)} {k:L2.Key}:(valT kvs k).isSome=true↔k∈kvs.map Prod.fst:=by
 unfold valT
 rw[Option.isSome_map,List.find?_isSome,lJp]
 exact⟨fun ⟨a,h1,h2⟩=>⟨a,h1,by simpa using h2⟩,fun ⟨a,h1,h2⟩=>⟨a,h1,by simpa using h2⟩⟩
noncomputable def keyN (x:Nat):L2.Key:= .inl (x:Nat)
theorem keyN_mem {F:List Nat} {x:Nat}:keyN x∈F.map keyN↔x∈F:=by
 rw[lJp]
 refine⟨fun ⟨a,ha,e⟩=> ?_,fun h=>⟨x,h,rfl⟩⟩
 have e1:(Sum.inl (a:Int):L2.Key)=Sum.inl (x:Int):=e
 have:(a:Int)=x:=by injection e1
 have:a=x:=by omega
 exact this▸ha
theorem inR_dck {G:Gp} {d:Addr} {kvs:List (L2.Key×T)} {F:List Nat} {x:Nat} (h:G d=some (.dck kvs)) (hk:kvs.map Prod.fst=F.map keyN):inR G (.int (x:Nat)) (.ref d)=some (decide (x∈F)):=by
 have e1:seqT G (.ref d)=none:=by simp only[seqT,h];rfl
 have e2:dAt G (.ref d) (.int (x:Nat))=some (valT kvs (keyN x)):=by simp only[dAt,h,kJz];rfl
 unfold inR
 simp only[e1,e2]
 congr 1
 rw[Bool.eq_iff_iff,valT_isSome,hk,keyN_mem];simp
theorem putT_new {kvs:List (L2.Key×T)} {k:L2.Key} {v:T} (h:k∉kvs.map Prod.fst):putT kvs k v=kvs++[(k,v)]:=by
 unfold putT
 rw[if_neg]
 rw[List.any_eq_true]
 rintro⟨a,ha,e⟩
 exact h (lJp.mpr ⟨a,ha,by simpa using e⟩)
theorem setR_dck {G:Gp} {d:Addr} {kvs:List (L2.Key×T)} {x:Nat} {v:T} (h:G d=some (.dck kvs)) (hz:kvs.length<sizeLine):setR G (.ref d) (.int (x:Nat)) v=some (gup G d (.dck (putT kvs (keyN x) v))):=by
 simp only[setR,h,kJz]
 rw[if_pos hz];rfl
theorem kVy {xs:List T} {j:Nat} {y:T} (h:(numT xs)[j]? =some y):∃x,xs[j]? =some x/\y= .tup [.int j,x]:=by
 have hj:j<xs.length:=by have:=(lJa.mp h).1;rwa [jJ9] at this
 refine⟨xs[j],lJc hj,?_⟩
 rw[jVc (lJc hj)] at h
 cases h;rfl
theorem sub_none {G G':Gp} (h:Sub G G') {p:Addr} (hp:G' p=none):G p=none:=by
 cases e:G p with
 | none=>rfl
 | some o=>rw[h _ _ e] at hp;cases hp
theorem vis_sub {F:List Nat} {es:List (Nat×Nat)}:(∃E,vis F es=F++E)/\(∀e,e∈es->e.1∈vis F es)/\(∀x,x∈vis F es->x∈F\/∃e,e∈es/\e.1=x)/\(F.Nodup->(vis F es).Nodup):=by
 induction es generalizing F with
 | nil=>exact⟨⟨[],by simp[vis]⟩,by simp,fun x h=> .inl h,fun h=>h⟩
 | cons e es ih=>
  have hv:vis F (e::es)=vis (if F.contains e.1=true then F else F++[e.1]) es:=rfl
  rw[hv]
  by_cases h:F.contains e.1=true
  ·rw[if_pos h]
   obtain⟨⟨E,i1⟩,i2,i3,i4⟩:=ih (F:=F)
   refine⟨⟨E,i1⟩,fun d hd=> ?_,fun x hx=> ?_,i4⟩
   ·rcases (lJn.mp hd) with rfl | hde
    ·rw[i1];exact lKi _ (by simpa using h)
    ·exact i2 d hde
   ·rcases i3 x hx with h | ⟨d,hd,e⟩
    ·exact .inl h
    ·exact .inr ⟨d,lJ1 _ hd,e⟩
  ·rw[if_neg h]
   obtain⟨⟨E,i1⟩,i2,i3,i4⟩:=ih (F:=F++[e.1])
   refine⟨⟨e.1::E,by rw[i1];simp⟩,fun d hd=> ?_,fun x hx=> ?_,fun hn=>i4 ?_⟩
   ·rcases (lJn.mp hd) with rfl | hde
    ·rw[i1];exact lKi _ (by simp)
    ·exact i2 d hde
   ·rcases i3 x hx with h | ⟨d,hd,e'⟩
    ·rcases (lJt.mp h) with h | hs
     ·exact .inl h
     ·exact .inr ⟨e,lKe ..,(lJk.mp hs).symm⟩
    ·exact .inr ⟨d,lJ1 _ hd,e'⟩
   ·rw[lKy]
    exact⟨hn,by simp,fun a ha b hb=>by rw[lJk] at hb;subst hb;rintro rfl;exact h (by simpa using ha)⟩
structure Bfs (W:Web) (k:Nat) (F:List Nat):Prop where
 nd:F.Nodup
 lt:∀x,x∈F->x<W.length
 near:∀(i x:Nat) (e:Nat×Nat),i<k->F[i]? =some x->e∈row W x->e.1∈F
theorem row_mem {W:Web} {x:Nat} {e:Nat×Nat} (h:e∈row W x):∃i,en W x i=some e:=by
 unfold row at h
 cases hW:W[x]? with
 | none=>rw[hW] at h;simp at h
 | some es=>
  rw[hW] at h
  obtain⟨i,hi⟩:=lJq (show e∈es from h)
  exact⟨i,jVo hW hi⟩
theorem Bfs.step {W:Web} (f:Fine W) {k r:Nat} {F:List Nat} (h:Bfs W k F) (hr:F[k]? =some r):Bfs W (k+1) (vis F (row W r)):=by
 obtain⟨⟨E,e1⟩,e2,e3,e4⟩:=vis_sub (F:=F) (es:=row W r)
 refine⟨e4 h.nd,fun x hx=> ?_,fun i x e hi hx he=> ?_⟩
 ·rcases e3 x hx with hx | ⟨e,he,rfl⟩
  ·exact h.lt x hx
  ·obtain⟨i,hi⟩:=row_mem he
   exact f.rng _ _ e.1 e.2 hi
 ·have hkl:k<F.length:=(lJa.mp hr).1
  have hx':F[i]? =some x:=by rw[e1,lJ0 (by omega)] at hx;exact hx
  rcases Nat.lt_or_eq_of_le (Nat.le_of_lt_succ hi) with h1 | rfl
  ·rw[e1];exact lKi _ (h.near i x e h1 hx' he)
  ·rw[hr] at hx';cases hx';exact e2 e he
theorem Bfs.run {W:Web} (f:Fine W):∀(n k:Nat) (F:List Nat),Bfs W k F->W.length<=n+k->k<=F.length->(∃E,bfsN W n k F=F++E)/\Bfs W (bfsN W n k F).length (bfsN W n k F)
 | 0,k,F,h,hl,hk=>by
  have hF:=jQs h.nd h.lt
  have:k=F.length:=by omega
  subst this
  exact⟨⟨[],by simp[bfsN]⟩,h⟩
 | n+1,k,F,h,hl,hk=>by
  rcases lJw k F.length with hlt | hge
  ·have hr:F[k]? =some F[k]:=lJc hlt
   rw[jXf hr]
   obtain⟨⟨E,e1⟩,e2,e3,e4⟩:=vis_sub (F:=F) (es:=row W F[k])
   obtain⟨⟨E',h1⟩,h2⟩:=Bfs.run f n (k+1) _ (h.step f hr) (by omega) (by rw[e1,lJo];omega)
   exact⟨⟨E++E',by rw[h1,e1,lKl]⟩,h2⟩
  ·have:k=F.length:=by omega
   subst this
   rw[jXg (lJd _)]
   exact⟨⟨[],by simp⟩,h⟩
theorem bfs_ok {W:Web} (f:Fine W) {r:Nat} (hr:r<W.length):(∃E,bfs W r=r::E)/\Bfs W (bfs W r).length (bfs W r):=
 Bfs.run f W.length 0 [r] ⟨by simp,by simpa using hr,fun i x e hi=>absurd hi (lKr _)⟩ (by omega) (by simp)
structure Order (W:Web) (r:Nat) (F:List Nat):Prop where
 nd:F.Nodup
 lt:∀x,x∈F->x<W.length
 all:∀x,x<W.length->x∈F
 first:F[0]? =some r
theorem bfs_order {W:Web} (f:Fine W) (sym:Sym W) (c:Conn W) {r:Nat} (hr:r<W.length):Order W r (bfs W r):=by
 obtain⟨⟨E,e1⟩,h⟩:=bfs_ok f hr
 have cl:∀x i s j,x∈bfs W r->en W x i=some (s,j)->s∈bfs W r:=by
  intro x i s j hx he
  obtain⟨k,hk⟩:=lJq hx
  have hkl:=(lJa.mp hk).1
  refine h.near k x (s,j) hkl hk ?_
  have he':=he
  unfold en at he'
  cases hW:W[x]? with
  | none=>rw[hW] at he';cases he'
  | some es=>rw[hW] at he';rw[jUe hW];exact lJe (show es[i]? =_ from he')
 have hrF:r∈bfs W r:=by rw[e1];exact lKe ..
 have h0:0∈bfs W r:=c (fun x=>x∈bfs W r->0∈bfs W r) (fun h=>h) (fun x i s j hx he hs=>hx (cl s j x i hs (sym _ _ _ _ he))) r hr hrF
 exact⟨h.nd,h.lt,fun x hx=>c (fun x=>x∈bfs W r) h0 (fun x i s j h he=>cl x i s j h he) x hx,by rw[e1];rfl⟩
theorem cover_le:∀(n:Nat) (F:List Nat),(∀x,x<n->x∈F)->n<=F.length
 | 0,_,_=>lJg _
 | n+1,F,h=>by
  have hn:=h n (Nat.lt_succ_self _)
  have h1:=cover_le n (F.erase n) fun x hx=>(List.mem_erase_of_ne (by omega)).mpr (h x (by omega))
  rw[List.length_erase_of_mem hn] at h1
  have:=List.length_pos_of_mem hn
  omega
theorem Order.len {W:Web} {r:Nat} {F:List Nat} (h:Order W r F):F.length=W.length:=by
 have h1:=jQs h.nd h.lt
 exact Nat.le_antisymm h1 (cover_le _ _ h.all)
noncomputable def nuF (nu:List Nat) (x:Nat):Nat:=(nu[x]?).getD x
noncomputable def renE (nu:List Nat) (es:List (Nat×Nat)):List (Nat×Nat):=es.map fun e=>(nuF nu e.1,e.2)
structure Ren (W:Web) (nu:List Nat) (V:Web):Prop where
 len:V.length=W.length
 at':∀(r:Nat) (es:List (Nat×Nat)),W[r]? =some es->V[nuF nu r]? =some (renE nu es)
theorem jV9 {nu:List Nat} {x y:Nat} (h:nu[x]? =some y):nuF nu x=y:=by unfold nuF;rw[h];rfl
theorem jZ6 {nu:List Nat} {x:Nat} (h:nu.length<=x):nuF nu x=x:=by unfold nuF;rw[lJh h];rfl
theorem nuF_lt {n:Nat} {nu:List Nat} (t:Turn n nu) {x:Nat} (h:x<n):nuF nu x<n:=by
 obtain⟨y,hy,hl⟩:=t.at h
 rw[jV9 hy];exact hl
theorem kVz {n:Nat} {nu:List Nat} (t:Turn n nu) {x y:Nat} (h:nuF nu x=nuF nu y):x=y:=by
 rcases lJw x n with hx | hx<;>rcases lJw y n with hy | hy
 ·obtain⟨a,ha,_⟩:=t.at hx
  obtain⟨b,hb,_⟩:=t.at hy
  rw[jV9 ha,jV9 hb] at h
  subst h
  exact (lK0 (by rw[t.len];exact hx) t.nd).mp (ha.trans hb.symm)
 ·have:=nuF_lt t hx;rw[h,jZ6 (by rw[t.len];exact hy)] at this;omega
 ·have:=nuF_lt t hy;rw[<-h,jZ6 (by rw[t.len];exact hx)] at this;omega
 ·rw[jZ6 (by rw[t.len];exact hx),jZ6 (by rw[t.len];exact hy)] at h;exact h
theorem nuF_onto {n:Nat} {nu:List Nat} (t:Turn n nu) {y:Nat} (h:y<n):∃x,x<n/\nuF nu x=y:=by
 have hm:=kKq t.nd t.lt t.len y h
 obtain⟨x,hx⟩:=lJq hm
 exact⟨x,by have:=(lJa.mp hx).1;rw[t.len] at this;exact this,jV9 hx⟩
theorem ren_row {W V:Web} {nu:List Nat} (h:Ren W nu V) (t:Turn W.length nu) (r:Nat):row V (nuF nu r)=renE nu (row W r):=by
 rcases lJw r W.length with hr | hr
 ·have hW:W[r]? =some W[r]:=lJc hr
  rw[jUe hW,jUe (h.at' r _ hW)]
 ·have e1:row W r=[]:=by unfold row;rw[lJh hr];rfl
  have e2:row V (nuF nu r)=[]:=by unfold row;rw[jZ6 (by rw[t.len];exact hr),lJh (by rw[h.len];exact hr)];rfl
  rw[e1,e2];rfl
theorem contains_map {f:Nat->Nat} (hf:∀x y,f x=f y->x=y) {F:List Nat} {x:Nat}:(F.map f).contains (f x)=F.contains x:=by
 rw[Bool.eq_iff_iff]
 simp only[List.contains_iff_mem,lJp]
 exact⟨fun ⟨a,ha,e⟩=>hf _ _ e▸ha,fun h=>⟨x,h,rfl⟩⟩
theorem vis_map {f:Nat->Nat} (hf:∀x y,f x=f y->x=y) (es:List (Nat×Nat)):∀F:List Nat,vis (F.map f) (es.map fun e=>(f e.1,e.2))=(vis F es).map f:=by
 induction es with
 | nil=>intro F;rfl
 | cons e es ih=>
  intro F
  show vis (if (F.map f).contains (f e.1)=true then F.map f else F.map f++[f e.1]) _=(vis (if F.contains e.1=true then F else F++[e.1]) es).map f
  rw[contains_map hf]
  by_cases h:F.contains e.1=true
  ·rw[if_pos h,if_pos h];exact ih F
  ·rw[if_neg h,if_neg h,show F.map f++[f e.1]=(F++[e.1]).map f by simp];exact ih _
theorem bfsN_ren {W V:Web} {nu:List Nat} (h:Ren W nu V) (t:Turn W.length nu):∀(n k:Nat) (F:List Nat),bfsN V n k (F.map (nuF nu))=(bfsN W n k F).map (nuF nu)
 | 0,_,_=>rfl
 | n+1,k,F=>by
  cases hk:F[k]? with
  | none=>
   have hl:F.length<=k:=by simpa using hk
   rw[jXg hl,jXg (by rw[lJb];exact hl)]
  | some r=>
   rw[jXf hk,jXf (by rw[lJj,hk];rfl),ren_row h t,renE,vis_map (fun _ _=>kVz t)]
   exact bfsN_ren h t n (k+1) _
theorem bfs_ren {W V:Web} {nu:List Nat} (h:Ren W nu V) (t:Turn W.length nu) (r:Nat):bfs V (nuF nu r)=(bfs W r).map (nuF nu):=by
 unfold bfs;rw[h.len];exact bfsN_ren h t _ _ [r]
theorem idx_map {f:Nat->Nat} (hf:∀x y,f x=f y->x=y) (x:Nat):∀F:List Nat,(F.map f).idxOf (f x)=F.idxOf x
 | []=>rfl
 | a::F=>by
  simp only[lJm,List.idxOf_cons,idx_map hf x F]
  by_cases h:a=x
  ·rw[h];simp only[BEq.rfl,cond_true]
  ·have h2:¬ f a=f x:=fun e=>h (hf _ _ e)
   rw[beq_eq_false_iff_ne.mpr h,beq_eq_false_iff_ne.mpr h2]
noncomputable def tf (W:Web) (r:Nat):Web:=(bfs W r).map fun s=>(row W s).map fun e=>((bfs W r).idxOf e.1,e.2)
theorem tf_ren {W V:Web} {nu:List Nat} (h:Ren W nu V) (t:Turn W.length nu) (r:Nat):tf V (nuF nu r)=tf W r:=by
 unfold tf
 rw[bfs_ren h t,lJr]
 apply lKb
 intro s _
 show (row V (nuF nu s)).map _=_
 rw[ren_row h t,renE,lJr]
 apply lKb
 intro e _
 show ((List.map (nuF nu) (bfs W r)).idxOf (nuF nu e.1),e.2)=_
 rw[idx_map fun _ _=>kVz t]
noncomputable def inv (n:Nat) (F:List Nat):List Nat:=(List.range n).map fun x=>F.idxOf x
theorem Order.idx {W:Web} {r:Nat} {F:List Nat} (o:Order W r F) {x:Nat} (h:x<W.length):F[F.idxOf x]? =some x/\F.idxOf x<W.length:=by
 have hl:=List.idxOf_lt_length_of_mem (o.all x h)
 refine⟨?_,by rw[o.len] at hl;exact hl⟩
 rw[lJc hl,List.getElem_idxOf]
theorem inv_at {n x:Nat} {F:List Nat} (h:x<n):(inv n F)[x]? =some (F.idxOf x):=by simp[inv,h]
theorem Order.turn {W:Web} {r:Nat} {F:List Nat} (o:Order W r F):Turn W.length (inv W.length F):=by
 refine⟨by simp[inv],?_,fun y hy=> ?_⟩
 ·unfold inv
  rw[lQe,List.pairwise_map]
  refine List.Pairwise.imp_of_mem (fun {a b} ha hb hne e=>hne ?_) (lQe.mp List.nodup_range)
  have h1:=(o.idx (lJv.mp ha)).1
  have h2:=(o.idx (lJv.mp hb)).1
  rw[e,h2] at h1;cases h1;rfl
 ·obtain⟨x,hx,rfl⟩:=lJp.mp hy
  exact (o.idx (lJv.mp hx)).2
theorem tf_is {W:Web} (f:Fine W) {r:Nat} (o:Order W r (bfs W r)):Ren W (inv W.length (bfs W r)) (tf W r):=by
 refine⟨by unfold tf;rw[lJb];exact o.len,fun x es hx=> ?_⟩
 have hxl:=(lJa.mp hx).1
 rw[jV9 (inv_at hxl)]
 unfold tf
 rw[lJj,(o.idx hxl).1]
 show some _=some _
 congr 1
 show (row W x).map _=_
 rw[jUe hx,renE]
 apply lKb
 intro e he
 obtain⟨i,hi⟩:=lJq he
 rw[jV9 (inv_at (f.rng x i e.1 e.2 (jVo hx hi)))]
theorem Ren.unique {W V V':Web} {nu:List Nat} (t:Turn W.length nu) (h:Ren W nu V) (h':Ren W nu V'):V=V':=by
 apply lKc
 intro i
 rcases lJw i W.length with hi | hi
 ·obtain⟨x,hx,rfl⟩:=nuF_onto t hi
  have hW:W[x]? =some W[x]:=lJc hx
  rw[h.at' x _ hW,h'.at' x _ hW]
 ·rw[lJh (by rw[h.len];exact hi),lJh (by rw[h'.len];exact hi)]
theorem ren_en {W V:Web} {nu:List Nat} (t:Turn W.length nu) (h:Ren W nu V) (r i:Nat):en V (nuF nu r) i=(en W r i).map fun e=>(nuF nu e.1,e.2):=by
 unfold en
 rcases lJw r W.length with hr | hr
 ·have hW:W[r]? =some W[r]:=lJc hr
  rw[hW,h.at' r _ hW]
  show (renE nu W[r])[i]? =_
  rw[renE,lJj];rfl
 ·rw[lJh hr,jZ6 (by rw[t.len];exact hr),lJh (by rw[h.len];exact hr)];rfl
theorem conn_from {W:Web} (sym:Sym W) (c:Conn W) {r0:Nat} (hr:r0<W.length) (S:Nat->Prop) (h0:S r0) (cl:∀r i s j,S r->en W r i=some (s,j)->S s):∀r,r<W.length->S r:=
 c S (c (fun x=>S x->S 0) (fun h=>h) (fun x i s j hx he hs=>hx (cl s j x i hs (sym _ _ _ _ he))) r0 hr h0) cl
theorem AnyWeb.order {W:Web} (a:AnyWeb W) {r:Nat} (hr:r<W.length):Order W r (bfs W r):=bfs_order a.fine a.sym a.conn hr
theorem vis_lt {W:Web} (f:Fine W) {F:List Nat} {x:Nat} {es:List (Nat×Nat)} (hx:W[x]? =some es) (hF:∀y,y∈F->y<W.length) (j:Nat):∀y,y∈vis F (es.take j)->y<W.length:=by
 intro y hy
 rcases (vis_sub (F:=F) (es:=es.take j)).2.2.1 y hy with h | ⟨e,he,rfl⟩
 ·exact hF y h
 ·obtain⟨i,hi⟩:=lJq (List.mem_of_mem_take he)
  exact f.rng x i e.1 e.2 (jVo hx hi)
noncomputable def jJ1:Sp3:=fun xs G Q=>∃(W:Web) (r0:Nat),xs=[encW W,.int r0]/\Fine W/\r0<W.length/\∀d G' kvs,G d=none->G' d=some (.dck kvs)->kvs.map Prod.fst=(bfs W r0).map keyN->Sub G G'->Q (.ref d) G'
noncomputable def jYb:List Str:=["web","room","comings","level","further","here","door","end"]
noncomputable def jQ9:TS3:=
 (tSeq (tAsg (tDisp1 (tVar 1) (tC .non)) (jJj 2))
 (tSeq (tAsg (tLst (jJb (tVar 1) tNil)) (jJj 3))
 (tSeq (jVq (tTru rTru (tVar 3)) (tSeq (tAsg (tLst tNil) (jJj 4))
 (tSeq (tFor (iSeq (tVar 3)) (jJj 5) (tFor (iEnT (jJb (tOp rIxF (tVar 0) (tVar 5)) tNil)) (gTup 2 (jKg (jJj 6) (jKg (jJj 7) gNil))) (tIfS (jJ7 (tOp jVb (tOp rIxF (tVar 7) (tC (.int 0))) (tVar 2))) (tSeq (tAsg (tTup (jJb (tVar 5) (jJb (tVar 6) tNil))) (gSub (tVar 2) (tOp rIxF (tVar 7) (tC (.int 0))) jXr))
 (jQl (tBM "list" jK3 (tVar 4) (jJb (tOp rIxF (tVar 7) (tC (.int 0))) tNil)))) jQc)))
 (tAsg (tVar 4) (jJj 3)))))
 (tRet (tVar 2)))))
theorem jZa:∀xs G Q,jJ1 xs G Q->jQ9 {nx:=fun _ G'=>Q .non G',rt:=Q} (jJk jYb xs) G:=by
 intro xs G Q h_;apply xe2 h_;clear h_;intro W r0 h_;apply ae3 h_;clear h_;intro fine hr0 kk
 rw[show jJk jYb [encW W,.int r0]=[some (.tup (W.map encR)),some (.int r0),none,none,none,none,none,none] from rfl]
 have hs:=sz
 have hl:=fine.len
 wp_walk using 1,jQ9,jVq,jJ6,tDisp1,iSeq,iEnT
 intro d hd
 refine⟨keyN r0,rfl,by omega,fun l hl0=> ?_⟩
 have hdl:d≠l:=jJd (jJg (G:=G) (a:=d) (o:= .dck [(keyN r0,T.non)])) hl0
 refine⟨fun m τ G'=>∃(a:Nat) (l:Addr) (v4 v5 v6 v7:Option T) (F:List Nat) (kvs:List (L2.Key×T)),τ=[some (.tup (W.map encR)),some (.int r0),some (.ref d),some (.ref l),v4,v5,v6,v7]/\d≠l/\G l=none/\G' d=some (.dck kvs)/\kvs.map Prod.fst=F.map keyN/\G' l=some (.lst (jJl (F.drop a)))/\a<=F.length/\Bfs W a F/\bfs W r0=bfsN W (W.length-a) a F/\Sub G G'/\m=W.length-a,?_,?_⟩
 ·refine⟨_,0,l,none,none,none,none,[r0],[(keyN r0,T.non)],rfl,hdl,?_,?_,rfl,jJg,lJg _,⟨by simp,by simpa using hr0,fun i x e hi=>absurd hi (lKr _)⟩,rfl,(Sub.new hd).trans (.new hl0),rfl⟩
  ·rw[jJi hdl.symm] at hl0;exact hl0
  ·rw[jJi hdl];exact jJg
 intro m τ G1 h_;apply xe8 h_;clear h_;intro a l v4 v5 v6 v7 F kvs h_;apply ae10 h_;clear h_;intro hdl hl0 h1 hk h2 haF hB hb hs1 e9_
 subst e9_
 have hFl:=jQs hB.nd hB.lt
 wp_walk using 1,h2
 split
 ·rename_i hne
  have haF':a<F.length:=by
   rcases lJw a F.length with z | z
   ·exact z
   ·rw[List.drop_of_length_le z] at hne;simp[jJl] at hne
  refine⟨fun τ' G'=>∃(l':Addr) (v4 v5 v6 v7:Option T) (F':List Nat) (kvs':List (L2.Key×T)),τ'=[some (.tup (W.map encR)),some (.int r0),some (.ref d),some (.ref l'),v4,v5,v6,v7]/\d≠l'/\G l'=none/\G' d=some (.dck kvs')/\kvs'.map Prod.fst=F'.map keyN/\G' l'=some (.lst (jJl (F'.drop F.length)))/\F.length<=F'.length/\Bfs W F.length F'/\bfs W r0=bfsN W (W.length-F.length) F.length F'/\Sub G G',?_,by omega,fun p hp=> ?_⟩
  ·intro τ' G' h_;apply xe7 h_;clear h_;intro l' v4 v5 v6 v7 F' kvs' h_;apply ae9 h_;clear h_;intro i1 i2 i3 i4 i5 i6 i7 i8 i9
   exact⟨W.length-F.length,by omega,F.length,l',v4,v5,v6,v7,rfl,i1,i2,F',kvs',i3,i4,i5,i6,i7,i8,i9,rfl⟩
  ·have hpd:d≠p:=jJd h1 hp
   have hpl:l≠p:=jJd h2 hp
   have hp0:=sub_none hs1 hp
   refine⟨jJl (F.drop a),jJp (by rw[jJi hpl];exact h2),?_⟩
   refine⟨fun i τ G'=>∃(v5 v6 v7:Option T) (F':List Nat) (kvs':List (L2.Key×T)),τ=[some (.tup (W.map encR)),some (.int r0),some (.ref d),some (.ref l),some (.ref p),v5,v6,v7]/\G' d=some (.dck kvs')/\kvs'.map Prod.fst=F'.map keyN/\G' l=some (.lst (jJl (F.drop a)))/\G' p=some (.lst (jJl (F'.drop F.length)))/\(∃E,F'=F++E)/\Bfs W (a+i) F'/\bfs W r0=bfsN W (W.length-(a+i)) (a+i) F'/\Sub G G',?_,?_,?_,?_⟩
   ·exact⟨v5,v6,v7,F,kvs,rfl,by rw[jJi hpd];exact h1,hk,by rw[jJi hpl];exact h2,by rw[List.drop_length];exact jJg,⟨[],by simp⟩,hB,hb,hs1.trans (.new hp)⟩
   ·intro i τ G' hi h_;apply xe5 h_;clear h_;intro v5 v6 v7 F' kvs' h_;apply ae8 h_;clear h_;intro j1 jk j2 j3 jE jB jb js
    exact jJp j2
   ·intro i y τ G2 hy h_;apply xe5 h_;clear h_;intro v5 v6 v7 F' kvs' h_;apply ae8 h_;clear h_;intro j1 jk j2 j3 q4_ jB jb js
    obtain⟨E,jE⟩:=q4_
    obtain⟨x,hx,rfl⟩:=jQ5 hy
    rw[List.getElem?_drop] at hx
    have hai:a+i<F.length:=(lJa.mp hx).1
    have hx':F'[a+i]? =some x:=by rw[jE,lJ0 hai];exact hx
    have hxW:=jB.lt x (lJe hx')
    have hW:W[x]? =some W[x]:=lJc hxW
    generalize W[x]=es at hW
    wp_walk using 1,iEnT,jUl hW,encR,jJ6
    refine⟨fun j τ G'=>∃(v6 v7:Option T) (F2:List Nat) (kvs2:List (L2.Key×T)),τ=[some (.tup (W.map encR)),some (.int r0),some (.ref d),some (.ref l),some (.ref p),some (.int x),v6,v7]/\G' d=some (.dck kvs2)/\kvs2.map Prod.fst=F2.map keyN/\G' l=some (.lst (jJl (F.drop a)))/\G' p=some (.lst (jJl (F2.drop F.length)))/\F2=vis F' (es.take j)/\Sub G G',?_,?_,?_,?_⟩
    ·exact⟨v6,v7,F',kvs',rfl,j1,jk,j2,j3,rfl,js⟩
    ·intros;trivial
    ·intro j y τ G3 hy h_;apply xe4 h_;clear h_;intro v6 v7 F2 kvs2 h_;apply ae6 h_;clear h_;intro q1 qk q2 q3 q4 q5
     obtain⟨z,hz,rfl⟩:=kVy hy
     obtain⟨e,he,rfl⟩:=jQ5 hz
     have hF2n:F2.Nodup:=by rw[q4];exact vis_sub.2.2.2 jB.nd
     have hF2l:∀y,y∈F2->y<W.length:=by rw[q4];exact vis_lt fine hW jB.lt j
     have hF2:=jQs hF2n hF2l
     have hkl:kvs2.length=F2.length:=by have:=congrArg List.length qk;simpa using this
     have hFF:F.length<=F2.length:=by
      obtain⟨⟨E',e1⟩,_⟩:=vis_sub (F:=F') (es:=es.take j)
      rw[q4,e1,jE];simp only[lJo];omega
     wp_walk using 1,encE,jVb,inR_dck q1 qk
     by_cases hm:e.1∈F2
     ·rw[if_neg (by simp[hm])]
      exact⟨F2,kvs2,q1,qk,q2,q3,by rw[jY6 he,<-q4,if_pos (by simpa using hm)],q5⟩
     ·rw[if_pos (by simp[hm])]
      wp_walk using 1,setR_dck q1 (show kvs2.length<sizeLine by omega)
      have hgp:gup G3 d (.dck (putT kvs2 (keyN e.1) (.tup [.int x,.int j]))) p=some (.lst (jJl (F2.drop F.length))):=by rw[jJi hpd.symm];exact q3
      refine⟨by omega,by rw[jK2 hgp];trivial,_,hgp,by simp[jJl];omega,F2++[e.1],kvs2++[(keyN e.1,.tup [.int x,.int j])],?_,?_,?_,?_,?_,?_⟩
      ·rw[jJi hpd,jJg,putT_new (by rw[qk,keyN_mem];exact hm)]
      ·rw[lJu,lJu,qk];rfl
      ·rw[jJi hpl,jJi hdl.symm];exact q2
      ·rw[List.drop_append_of_le_length hFF];simp[jJl]
      ·rw[jY6 he,<-q4,if_neg (by simpa using hm)]
      ·exact (q5.over hd).over hp0
    ·intro τ G3 h_;apply xe4 h_;clear h_;intro v6 v7 F2 kvs2 h_;apply ae6 h_;clear h_;intro q1 qk q2 q3 q4 q5
     rw[jJ9,lJb,lKf] at q4
     obtain⟨⟨E',e1⟩,_⟩:=vis_sub (F:=F') (es:=es)
     refine⟨_,_,_,rfl,F2,kvs2,q1,qk,q2,q3,⟨E++E',by rw[q4,e1,jE,lKl]⟩,?_,?_,q5⟩
     ·have:=jB.step fine hx'
      rw[jUe hW,<-q4] at this
      exact this
     ·rw[jb,show W.length-(a+i)=W.length-(a+(i+1))+1 by omega,jXf hx',jUe hW,<-q4];rfl
   ·intro τ G2 h_;apply xe5 h_;clear h_;intro v5 v6 v7 F' kvs' h_;apply ae8 h_;clear h_;intro j1 jk j2 j3 q4_ jB jb js
    obtain⟨E,jE⟩:=q4_
    have hlen:(jJl (F.drop a)).length=F.length-a:=by simp[jJl]
    rw[hlen,show a+(F.length-a)=F.length by omega] at jB jb
    wp_walk using 1,tSeq
    exact⟨hpd,hp0,F',kvs',j1,jk,j3,by rw[jE,lJo];omega,jB,jb,js⟩
 ·rename_i hne
  have he:F.length<=a:=by
   have:jJl (F.drop a)=[]:=by simpa using hne
   have:=congrArg List.length this
   simp[jJl] at this;omega
  rw[jXg he] at hb
  exact kk d G1 kvs hd h1 (by rw[hk,hb]) hs1
noncomputable def jQq:Sp3:=fun xs G Q=>∃(es:List (Nat×Nat)) (nu:List Nat),xs=[encR es,.tup (jJl nu)]/\(∀e,e∈es->e.1<nu.length)/\es.length<=1000/\∀G',Sub G G'->Q (encR (renE nu es)) G'
noncomputable def N_ends_by:List Str:=["ends","numbers","end"]
noncomputable def jYl:TS3:=
 (tRet (tCB jK0 (jJb (jU3 [false,false,true] (iSeq (tVar 0)) (jJj 2) jU8 (tTup (jJb (tOp rIxF (tVar 1) (tOp rIxF (tVar 2) (tC (.int 0)))) (jJb (tOp rIxF (tVar 2) (tC (.int 1))) tNil)))) tNil)))
theorem rdok_ends_by:∀xs G Q,jQq xs G Q->jYl {nx:=fun _ G'=>Q .non G',rt:=Q} (jJk N_ends_by xs) G:=by
 intro xs G Q h_;apply xe2 h_;clear h_;intro es nu h_;apply ae3 h_;clear h_;intro hlt hl kk
 rw[show jJk N_ends_by [encR es,.tup (jJl nu)]=[some (.tup (es.map encE)),some (.tup (jJl nu)),none] from rfl]
 have hs:=sz
 wp_walk using 1,jYl,iSeq
 refine jUa (fun e=>encE (nuF nu e.1,e.2)) (by omega) (fun _ _=>trivial) ?_ ?_
 ·intro i e he G' K K0 s hk
  have hx:=hlt e (lJe he)
  have hy:nu[e.1]? =some nu[e.1]:=lJc hx
  wp_walk using 1,encE,at_ints hy
  rw[encE,jV9 hy] at hk
  exact⟨by omega,hk G' (.refl _)⟩
 ·intro D G' hD h1 h2
  refine⟨_,jJp h1,?_⟩
  have:=kk G' h2
  rw[encR,renE,lJr] at this
  exact this
noncomputable def jKj:Sp3:=fun xs G Q=>∃(W:Web) (nu:List Nat),xs=[encW W,.tup (jJl nu)]/\Fine W/\Turn W.length nu/\∀V G',Ren W nu V->Sub G G'->Q (encW V) G'
noncomputable def kJj:List Str:=["web","numbers","rooms","room","ends"]
noncomputable def jU9:TS3:=
 (tSeq (tAsg (tCB rListA (jJb (tVar 0) tNil)) (jJj 2))
 (tSeq (tFor (iEnT (jJb (tVar 0) tNil)) (gTup 2 (jKg (jJj 3) (jKg (jJj 4) gNil))) (tAsg (jJw jQq (jJb (tVar 4) (jJb (tVar 1) tNil))) (gSub (tVar 2) (tOp rIxF (tVar 1) (tVar 3)) jXr)))
 (tRet (tCB jK0 (jJb (tVar 2) tNil)))))
theorem kKk:∀xs G Q,jKj xs G Q->jU9 {nx:=fun _ G'=>Q .non G',rt:=Q} (jJk kJj xs) G:=by
 intro xs G Q h_;apply xe2 h_;clear h_;intro W nu h_;apply ae3 h_;clear h_;intro fine t kk
 rw[show jJk kJj [encW W,.tup (jJl nu)]=[some (.tup (W.map encR)),some (.tup (jJl nu)),none,none,none] from rfl]
 have hs:=sz
 have hl:=fine.len
 wp_walk using 1,jU9,rListA,kVs,jJ6,iEnT
 intro p hp
 refine⟨fun k τ G'=>∃(v3 v4:Option T) (V:Web),τ=[some (.tup (W.map encR)),some (.tup (jJl nu)),some (.ref p),v3,v4]/\G' p=some (.lst (V.map encR))/\V.length=W.length/\(∀(r:Nat) (es:List (Nat×Nat)),r<k->W[r]? =some es->V[nuF nu r]? =some (renE nu es))/\Sub G G',?_,?_,?_,?_⟩
 ·exact⟨none,none,W,rfl,jJg,rfl,fun r es h=>absurd h (lKr _),.new hp⟩
 ·intros;trivial
 ·intro k y τ G1 hy h_;apply xe3 h_;clear h_;intro v3 v4 V h_;apply ae4 h_;clear h_;intro h1 h2 h3 h4
  obtain⟨z,hz,rfl⟩:=kVy hy
  obtain⟨es,he,rfl⟩:=jQ5 hz
  have hk:k<W.length:=(lJa.mp he).1
  obtain⟨x,hx,hxl⟩:=t.at hk
  wp_walk using 1,tSeq
  refine⟨es,nu,rfl,fun e hm=> ?_,fine.row k es he,fun G2 s2=> ?_⟩
  ·obtain⟨i,hi⟩:=lJq hm
   rw[t.len];exact fine.rng k i e.1 e.2 (jVo he hi)
  ·have hp2:=s2 _ _ h1
   wp_walk using 1,at_ints hx,setR_m hp2
   have hxV:x<(V.map encR).length:=by rw[lJb,h2];exact hxl
   rw[kUd hxV]
   refine⟨_,rfl,V.set x (renE nu es),(by show gup _ _ _ _=_;rw[jJg,List.map_set]),by rw[lKo];exact h2,fun r es' hr he'=> ?_,(h4.trans s2).over hp⟩
   rcases Nat.lt_or_eq_of_le (Nat.le_of_lt_succ hr) with h | rfl
   ·rw[lJz (fun e=> ?_)]
    ·exact h3 r es' h he'
    ·have:=kVz t ((jV9 hx).trans e)
     omega
   ·rw[he] at he';cases he'
    rw[jV9 hx,lJ2 (by rw[h2];exact hxl)]
 ·intro τ G1 h_;apply xe3 h_;clear h_;intro v3 v4 V h_;apply ae4 h_;clear h_;intro h1 h2 h3 h4
  wp_walk using 1,tSeq
  refine⟨_,jJp h1,?_⟩
  rw[jJ9,lJb] at h3
  exact kk V G1 ⟨h2,fun r es he=>h3 r es (lJa.mp he).1 he⟩ h4
theorem rng_ints {n:Nat}:rngT 0 n=jJl (List.range n):=by
 unfold rngT jJl
 apply lKb
 intro x _
 show T.int (0+(x:Int))=_
 rw[Int.zero_add]
theorem kK3 {F:List Nat} {kvs:List (L2.Key×T)} (h:kvs.map Prod.fst=F.map keyN):(kvs.map fun kv=>kT kv.1)=jJl F:=by
 have:(kvs.map fun kv=>kT kv.1)=(kvs.map Prod.fst).map kT:=by rw[lJr];rfl
 rw[this,h,lJr];rfl
noncomputable def jKm:Sp3:=fun xs G Q=>∃(W:Web) (r:Nat),xs=[encW W,.int r]/\AnyWeb W/\r<W.length/\∀G',Sub G G'->Q (encW (tf W r)) G'
noncomputable def kQh:List Str:=["web","room","numbers","number","come_to"]
noncomputable def jVs:TS3:=
 (tSeq (tAsg (jVd (jJb (tCB rLen (jJb (tVar 0) tNil)) tNil)) (jJj 2))
 (tSeq (tFor (kJc (jJb (tCB kUk (jJb (jJw jJ1 (jJb (tVar 0) (jJb (tVar 1) tNil))) tNil)) tNil)) (gTup 2 (jKg (jJj 3) (jKg (jJj 4) gNil))) (tAsg (tVar 3) (gSub (tVar 2) (tVar 4) jXr)))
 (tRet (jJw jKj (jJb (tVar 0) (jJb (tCB jK0 (jJb (tVar 2) tNil)) tNil))))))
theorem kQp:∀xs G Q,jKm xs G Q->jVs {nx:=fun _ G'=>Q .non G',rt:=Q} (jJk kQh xs) G:=by
 intro xs G Q h_;apply xe2 h_;clear h_;intro W r h_;apply ae3 h_;clear h_;intro any hr kk
 rw[show jJk kQh [encW W,.int r]=[some (.tup (W.map encR)),some (.int r),none,none,none] from rfl]
 have hs:=sz
 have hW2:=any.len
 have o:=any.order hr
 have ol:=o.len
 wp_walk using 1,jVs,jVd,jJ6,kJc,kUk,lJb
 refine⟨by omega,by omega,fun q hq=> ?_⟩
 refine⟨W,r,rfl,any.fine,hr,fun d G1 kvs hd hd1 hk s1=> ?_⟩
 have hq1:=s1 _ _ (jJg (G:=G) (a:=q) (o:= .lst (rngT 0 ((W.length:Nat):Int).toNat)))
 rw[show ((W.length:Nat):Int).toNat=W.length by omega,rng_ints] at hq1
 refine⟨d,rfl,kvs,hd1,fun u hu=> ?_⟩
 rw[kK3 hk]
 have hqu:q≠u:=jJd hq1 hu
 refine⟨jJl (bfs W r),by simp only[jU4,jJg];rfl,?_⟩
 refine⟨fun i τ G'=>∃(v3 v4:Option T) (N:List Nat),τ=[some (.tup (W.map encR)),some (.int r),some (.ref q),v3,v4]/\G' q=some (.lst (jJl N))/\G' u=some (.lst (jJl (bfs W r)))/\N.length=W.length/\(∀i' x,i'<i->(bfs W r)[i']? =some x->N[x]? =some i')/\Sub G G',?_,?_,?_,?_⟩
 ·exact⟨none,none,List.range W.length,rfl,by rw[jJi hqu];exact hq1,jJg,by simp,fun i' x h=>absurd h (lKr _),((Sub.new hq).trans s1).trans (.new hu)⟩
 ·intro i τ G' hi h_;apply xe3 h_;clear h_;intro v3 v4 N h_;apply ae5 h_;clear h_;intro h1 h2 h3 h4 h5
  simp only[jU4,h2];rfl
 ·intro i y τ G2 hy h_;apply xe3 h_;clear h_;intro v3 v4 N h_;apply ae5 h_;clear h_;intro h1 h2 h3 h4 h5
  obtain⟨z,hz,rfl⟩:=kVy hy
  obtain⟨x,hx,rfl⟩:=jQ5 hz
  have hxl:=o.lt x (lJe hx)
  wp_walk using 1,setR_m h1
  rw[kUd (show x<(jJl N).length by simp[jJl,h3,hxl])]
  refine⟨_,rfl,N.set x i,(by show gup _ _ _ _=_;rw[jJg];simp[jJl]),(by show gup _ _ _ _=_;rw[jJi hqu.symm];exact h2),by rw[lKo];exact h3,fun i' x' hi' hx'=> ?_,h5.over hq⟩
  rcases Nat.lt_or_eq_of_le (Nat.le_of_lt_succ hi') with h | rfl
  ·rw[lJz (fun e=> ?_)]
   ·exact h4 i' x' h hx'
   ·subst e
    have:=(lK0 (lJa.mp hx).1 o.nd).mp (hx.trans hx'.symm)
    omega
  ·rw[hx] at hx';cases hx'
   rw[lJ2 (by rw[h3];exact hxl)]
 ·intro τ G2 h_;apply xe3 h_;clear h_;intro v3 v4 N h_;apply ae5 h_;clear h_;intro h1 h2 h3 h4 h5
  wp_walk using 1,tSeq
  refine⟨_,jJp h1,?_⟩
  have hN:N=inv W.length (bfs W r):=by
   apply lKc
   intro x
   rcases lJw x W.length with hx | hx
   ·obtain⟨e1,e2⟩:=o.idx hx
    rw[inv_at hx,h4 _ x (by rw[jJ9];simp[jJl];rw[ol];exact e2) e1]
   ·rw[lJh (by omega),lJh (by simp[inv];exact hx)]
  refine⟨W,N,rfl,any.fine,by rw[hN];exact o.turn,fun V G3 ren s3=> ?_⟩
  rw[hN] at ren
  rw[Ren.unique o.turn ren (tf_is any.fine o)]
  exact kk G3 (h5.trans s3)
structure WS where
 rm:Nat
 cm:Option Nat
 hd:Nat
 ly:List Int
 wk:Nat
noncomputable def cmT:Option Nat->T
 | none=> .non
 | some d=> .int (d:Nat)
noncomputable def wfs (W:Web) (l:Addr) (s:WS):List (Str×T):=[("web",encW W),("room",.int (s.rm:Nat)),("came",cmT s.cm),("held",.int (s.hd:Nat)),("lying",.ref l),("walked",.int (s.wk:Nat))]
noncomputable def wkG (W:Web) (l:Addr) (s:WS):GO:= .ins "Walker" (wfs W l s)
theorem fldT_none {m:Str}:∀ {fs:List (Str×T)},(∀g,g∈fs.map (·.1)->¬ g=m)->fldT m fs=none
 | [],_=>rfl
 | (g,x)::r,h=>by
  rw[fldT,if_neg (h g (by simp))]
  exact fldT_none fun g' hg=>h g' (by rw[lJm];exact lJ1 _ hg)
theorem jZ4 {G:Gp} {a l:Addr} {V:Web} {s:WS} {m:Str} (h:G a=some (wkG V l s)) (hm:∀g,g∈(["web","room","came","held","lying","walked"]:List Str)->¬ g=m:=by decide +kernel):obR "Walker" m G (.ref a)=true:=by
 simp only[obR,h,wkG,fldT_none (fs:=wfs V l s) hm,Option.isNone_none,decide_true,Bool.and_true]
theorem q1:(("web":Str)="room")=False:=eq_false (by decide +kernel)
theorem q2:(("web":Str)="came")=False:=eq_false (by decide +kernel)
theorem q3:(("web":Str)="held")=False:=eq_false (by decide +kernel)
theorem q4:(("web":Str)="lying")=False:=eq_false (by decide +kernel)
theorem q5:(("web":Str)="walked")=False:=eq_false (by decide +kernel)
theorem q6:(("room":Str)="came")=False:=eq_false (by decide +kernel)
theorem q7:(("room":Str)="held")=False:=eq_false (by decide +kernel)
theorem q8:(("room":Str)="lying")=False:=eq_false (by decide +kernel)
theorem q9:(("room":Str)="walked")=False:=eq_false (by decide +kernel)
theorem q10:(("came":Str)="held")=False:=eq_false (by decide +kernel)
theorem q11:(("came":Str)="lying")=False:=eq_false (by decide +kernel)
theorem q12:(("came":Str)="walked")=False:=eq_false (by decide +kernel)
theorem q13:(("held":Str)="lying")=False:=eq_false (by decide +kernel)
theorem q14:(("held":Str)="walked")=False:=eq_false (by decide +kernel)
theorem q15:(("lying":Str)="walked")=False:=eq_false (by decide +kernel)
section
variable {G:Gp} {a l:Addr} {W:Web} {s:WS}
theorem fl {f:Str} {v:T} (h:G a=some (wkG W l s)) (hf:fldT f (wfs W l s)=some v):fldR "Walker" f G (.ref a)=some v:=by
 simp only[fldR,h,wkG,if_true,hf]
theorem fWeb (h:G a=some (wkG W l s)):fldR "Walker" "web" G (.ref a)=some (encW W):=fl h (by simp only[wfs,fldT,if_true])
theorem fRoom (h:G a=some (wkG W l s)):fldR "Walker" "room" G (.ref a)=some (.int (s.rm:Nat)):=fl h (by simp only[wfs,fldT,if_true,q1,if_false])
theorem fCame (h:G a=some (wkG W l s)):fldR "Walker" "came" G (.ref a)=some (cmT s.cm):=fl h (by simp only[wfs,fldT,if_true,q2,q6,if_false])
theorem fHeld (h:G a=some (wkG W l s)):fldR "Walker" "held" G (.ref a)=some (.int (s.hd:Nat)):=fl h (by simp only[wfs,fldT,if_true,q3,q7,q10,if_false])
theorem fLying (h:G a=some (wkG W l s)):fldR "Walker" "lying" G (.ref a)=some (.ref l):=fl h (by simp only[wfs,fldT,if_true,q4,q8,q11,q13,if_false])
theorem fWalked (h:G a=some (wkG W l s)):fldR "Walker" "walked" G (.ref a)=some (.int (s.wk:Nat)):=fl h (by simp only[wfs,fldT,if_true,q5,q9,q12,q14,q15,if_false])
theorem sf {f:Str} {v:T} {fs:List (Str×T)} (h:G a=some (wkG W l s)) (hf:jX0 f v (wfs W l s)=fs):kKf "Walker" f G (.ref a) v=some (gup G a (.ins "Walker" fs)):=by
 simp only[kKf,h,wkG]
 rw[if_pos ⟨trivial,by simp[wfs]⟩,hf]
theorem pRoom {r:Nat} (h:G a=some (wkG W l s)):kKf "Walker" "room" G (.ref a) (.int (r:Nat))=some (gup G a (wkG W l {s with rm:=r})):=sf h (by simp only[wfs,jX0,if_true,q1,if_false])
theorem pCame {c:Nat} (h:G a=some (wkG W l s)):kKf "Walker" "came" G (.ref a) (.int (c:Nat))=some (gup G a (wkG W l {s with cm:=some c})):=sf h (by simp only[wfs,jX0,if_true,q2,q6,if_false,cmT])
theorem pHeld {n:Nat} {i:Int} (hi:i=(n:Nat)) (h:G a=some (wkG W l s)):kKf "Walker" "held" G (.ref a) (.int i)=some (gup G a (wkG W l {s with hd:=n})):=by
 subst hi;exact sf h (by simp only[wfs,jX0,if_true,q3,q7,q10,if_false])
theorem pWalked {n:Nat} {i:Int} (hi:i=(n:Nat)) (h:G a=some (wkG W l s)):kKf "Walker" "walked" G (.ref a) (.int i)=some (gup G a (wkG W l {s with wk:=n})):=by
 subst hi;exact sf h (by simp only[wfs,jX0,if_true,q5,q9,q12,q14,q15,if_false])
end
noncomputable def dg (W:Web) (r:Nat):Nat:=((W[r]?).getD []).length
noncomputable def kXp (W:Web) (s:WS):T:= .tup [.int (dg W s.rm:Nat),cmT s.cm,.int (s.ly.count (s.rm:Int):Nat)]
def WkAt (G:Gp) (a l:Addr) (W:Web) (s:WS):Prop:=G a=some (wkG W l s)/\G l=some (.lst (jKr s.ly))
theorem WkAt.ne {G:Gp} {a l:Addr} {W:Web} {s:WS} (h:WkAt G a l W s):a≠l:=by
 rintro rfl
 have:=h.1.symm.trans h.2
 cases this
theorem kUu (r:Int):∀ly:List Int,(jKr ly).countP (fun z=>eqT z (.int r))=ly.count r
 | []=>rfl
 | a::l=>by
  rw[jKr,lJm,List.countP_cons,List.count_cons]
  have:=kUu r l
  rw[jKr] at this
  rw[this]
  simp[eqT]
theorem flat_is:∀ly:List Int,(jKr ly).all jY5=true
 | []=>rfl
 | _::l=>flat_is l
noncomputable def jJr:Sp3:=fun xs G Q=>∃(a l:Addr) (W:Web) (s:WS),xs=[.ref a]/\WkAt G a l W s/\s.rm<W.length/\Q (kXp W s) G
noncomputable def jZw:List Str:=["self"]
noncomputable def jU2:TS3:=
 (tRet (tTup (jJb (tCB rLen (jJb (tOp rIxF (tFld "Walker" "web" (tVar 0)) (tFld "Walker" "room" (tVar 0))) tNil)) (jJb (tFld "Walker" "came" (tVar 0)) (jJb (tBM "list" rCount (tFld "Walker" "lying" (tVar 0)) (jJb (tFld "Walker" "room" (tVar 0)) tNil)) tNil)))))
theorem kJq:∀xs G Q,jJr xs G Q->jU2 {nx:=fun _ G'=>Q .non G',rt:=Q} (jJk jZw xs) G:=by
 intro xs G Q h_;apply xe4 h_;clear h_;intro a l W s h_;apply ae3 h_;clear h_;intro h hr kk
 rw[show jJk jZw [.ref a]=[some (.ref a)] from rfl]
 obtain⟨es,hes⟩:∃es,W[s.rm]? =some es:=⟨_,lJc hr⟩
 have hdg:dg W s.rm=es.length:=by rw[dg,hes];rfl
 wp_walk using 1,jU2,tFld,fWeb h.1,fRoom h.1,fCame h.1,fLying h.1,rCount,jK2 h.2,h.2,encW,jUl hes,encR
 refine⟨rfl,flat_is _,by rw[sz];omega,?_⟩
 rw[kUu,lJb,<-hdg]
 exact kk
noncomputable def jJ3:Sp3:=fun xs G Q=>∃(a l:Addr) (W:Web) (s:WS),xs=[.ref a]/\WkAt G a l W s/\Q (.int (s.hd:Nat)) G
noncomputable def jXz:List Str:=["self"]
noncomputable def jQ3:TS3:=
 (tRet (tFld "Walker" "held" (tVar 0)))
theorem jYz:∀xs G Q,jJ3 xs G Q->jQ3 {nx:=fun _ G'=>Q .non G',rt:=Q} (jJk jXz xs) G:=by
 intro xs G Q h_;apply xe4 h_;clear h_;intro a l W s h_;apply ae2 h_;clear h_;intro h kk
 rw[show jJk jXz [.ref a]=[some (.ref a)] from rfl]
 wp_walk using 1,jQ3,tFld,fHeld h.1
 exact kk
noncomputable def goS (s:WS) (e:Nat×Nat):WS:={s with rm:=e.1,cm:=some e.2,wk:=s.wk+1}
theorem WkAt.gup {G:Gp} {a l:Addr} {W:Web} {s s':WS} (h:WkAt G a l W s) (e:s'.ly=s.ly):WkAt (gup G a (wkG W l s')) a l W s':=⟨jJg,by rw[jJi h.ne.symm,h.2,e]⟩
noncomputable def jJu:Sp3:=fun xs G Q=>∃(a l:Addr) (W:Web) (s:WS) (d:Nat) (e:Nat×Nat),xs=[.ref a,.int (d:Nat)]/\WkAt G a l W s/\Fine W/\en W s.rm d=some e/\Q (kXp W (goS s e)) (gup G a (wkG W l (goS s e)))
noncomputable def kQn:List Str:=["self","door","end"]
noncomputable def jVy:TS3:=
 (tSeq (tIfS (tNot (jJ7 (kUg rLeF rLt (tC (.int 0)) (tVar 1) (tCB rLen (jJb (tOp rIxF (tFld "Walker" "web" (tVar 0)) (tFld "Walker" "room" (tVar 0))) tNil))))) jY7 jQc)
 (tSeq (tAsg (tOp rIxF (tOp rIxF (tFld "Walker" "web" (tVar 0)) (tFld "Walker" "room" (tVar 0))) (tVar 1)) (jJj 2))
 (tSeq (jYt "Walker" "room" (tVar 0) (tOp rIxF (tVar 2) (tC (.int 0))))
 (tSeq (jYt "Walker" "came" (tVar 0) (tOp rIxF (tVar 2) (tC (.int 1))))
 (tSeq (jYt "Walker" "walked" (tVar 0) (tOp jQi (tFld "Walker" "walked" (tVar 0)) (tC (.int 1))))
 (tRet (jUb "Walker" "here" jJr (tVar 0) tNil)))))))
theorem kQv:∀xs G Q,jJu xs G Q->jVy {nx:=fun _ G'=>Q .non G',rt:=Q} (jJk kQn xs) G:=by
 intro xs G Q h_;apply xe6 h_;clear h_;intro a l W s d e h_;apply ae4 h_;clear h_;intro h fine he kk
 rw[show jJk kQn [.ref a,.int (d:Nat)]=[some (.ref a),some (.int (d:Nat)),none] from rfl]
 obtain⟨es,hes,hd⟩:∃es,W[s.rm]? =some es/\es[d]? =some e:=by
  unfold en at he
  cases q:W[s.rm]? with
  | none=>rw[q] at he;cases he
  | some es=>rw[q] at he;exact⟨es,rfl,he⟩
 have hdl:d<es.length:=(lJa.mp hd).1
 wp_walk using 1,jVy,tFld,kUg,rLeF,jY7,jYt,fWeb h.1,fRoom h.1,encW,jUl hes,encR,lJb
 rw[if_pos (by omega),if_neg (by simp;omega)]
 refine⟨_,encR_at hd,.int (e.1:Nat),rfl,_,pRoom h.1,.int (e.2:Nat),rfl,_,pCame jJg,_,fWalked jJg,_,rfl,_,pWalked (n:=s.wk+1) rfl jJg,?_⟩
 wp_walk using 1,jUb
 refine⟨jZ4 jJg,a,l,W,goS s e,rfl,h.gup rfl,fine.rng _ _ _ _ he,kk⟩
theorem eqG_is {G:Gp} {a c:Int}:eqG G (.int a) (.int c)=some (decide (a=c)):=by
 rw[show eqG G (.int a) (.int c)=some (eqT (.int a) (.int c)) from rfl]
 congr 1
noncomputable def layS (s:WS):WS:={s with hd:=s.hd-1,ly:=s.ly++[(s.rm:Int)]}
noncomputable def jKk:Sp3:=fun xs G Q=>∃(a l:Addr) (W:Web) (s:WS),xs=[.ref a]/\WkAt G a l W s/\s.rm<W.length/\0<s.hd/\s.ly.length<1000/\Q (kXp W (layS s)) (gup (gup G a (wkG W l (layS s))) l (.lst (jKr (layS s).ly)))
noncomputable def kJk:List Str:=["self"]
noncomputable def jVa:TS3:=
 (tSeq (tIfS (jJ7 (tOp rEqA (tFld "Walker" "held" (tVar 0)) (tC (.int 0)))) jY7 jQc)
 (tSeq (jYt "Walker" "held" (tVar 0) (tOp rSub (tFld "Walker" "held" (tVar 0)) (tC (.int 1))))
 (tSeq (jQl (tBM "list" jK3 (tFld "Walker" "lying" (tVar 0)) (jJb (tFld "Walker" "room" (tVar 0)) tNil)))
 (tRet (jUb "Walker" "here" jJr (tVar 0) tNil)))))
theorem kKl:∀xs G Q,jKk xs G Q->jVa {nx:=fun _ G'=>Q .non G',rt:=Q} (jJk kJk xs) G:=by
 intro xs G Q h_;apply xe4 h_;clear h_;intro a l W s h_;apply ae5 h_;clear h_;intro h hr hh hl kk
 rw[show jJk kJk [.ref a]=[some (.ref a)] from rfl]
 have h2:(gup G a (wkG W l {s with hd:=s.hd-1})) l=some (.lst (jKr s.ly)):=by rw[jJi h.ne.symm];exact h.2
 have hs:=sz
 wp_walk using 1,jVa,tFld,jY7,jYt,rEqA,fHeld h.1,eqG_is
 rw[if_neg (by simp;omega)]
 refine⟨_,pHeld (n:=s.hd-1) (by omega) h.1,_,fLying jJg,?_⟩
 wp_walk using 1,jK2 h2,fRoom jJg,h2
 refine⟨by rw[jKr,lJb];omega,?_⟩
 wp_walk using 1,jUb
 have e1:jKr s.ly++[T.int (s.rm:Nat)]=jKr (layS s).ly:=by simp[layS,jKr]
 rw[e1]
 have ha:(gup (gup G a (wkG W l (layS s))) l (.lst (jKr (layS s).ly))) a=some (wkG W l (layS s)):=by rw[jJi h.ne,jJg]
 exact⟨jZ4 ha,a,l,W,layS s,rfl,⟨ha,jJg⟩,hr,kk⟩
noncomputable def kQo (s:WS):WS:={s with hd:=s.hd+1,ly:=match s.ly.idxOf? (s.rm:Int) with
 | some j=>s.ly.eraseIdx j
 | none=>s.ly}
theorem inR_is {G:Gp} {l:Addr} {ly:List Int} {r:Int} (h:G l=some (.lst (jKr ly))):inR G (.int r) (.ref l)=some (decide (r∈ly)):=by
 have e:seqT G (.ref l)=some (jKr ly):=by simp only[seqT,h,asL]
 unfold inR
 rw[e]
 simp only
 rw[if_pos ⟨rfl,flat_is ly⟩]
 congr 1
 clear e h
 induction ly with
 | nil=>rfl
 | cons a r' ih=>
  have e:inT (T.int r) (jKr (a::r'))=(a == r||inT (T.int r) (jKr r')):=rfl
  rw[e,ih]
  by_cases q:a=r
  ·simp[q]
  ·have q':¬ r=a:=fun z=>q z.symm
   simp[q,q']
noncomputable def jKd:Sp3:=fun xs G Q=>∃(a l:Addr) (W:Web) (s:WS),xs=[.ref a]/\WkAt G a l W s/\s.rm<W.length/\(s.rm:Int)∈s.ly/\Q (kXp W (kQo s)) (gup (gup G l (.lst (jKr (kQo s).ly))) a (wkG W l (kQo s)))
noncomputable def jZu:List Str:=["self"]
noncomputable def jU0:TS3:=
 (tSeq (tIfS (jJ7 (tOp jVb (tFld "Walker" "room" (tVar 0)) (tFld "Walker" "lying" (tVar 0)))) jY7 jQc)
 (tSeq (jQl (tBM "list" rRemove (tFld "Walker" "lying" (tVar 0)) (jJb (tFld "Walker" "room" (tVar 0)) tNil)))
 (tSeq (jYt "Walker" "held" (tVar 0) (tOp jQi (tFld "Walker" "held" (tVar 0)) (tC (.int 1))))
 (tRet (jUb "Walker" "here" jJr (tVar 0) tNil)))))
theorem kJo:∀xs G Q,jKd xs G Q->jU0 {nx:=fun _ G'=>Q .non G',rt:=Q} (jJk jZu xs) G:=by
 intro xs G Q h_;apply xe4 h_;clear h_;intro a l W s h_;apply ae4 h_;clear h_;intro h hr hm kk
 rw[show jJk jZu [.ref a]=[some (.ref a)] from rfl]
 obtain⟨j,hj⟩:∃j,s.ly.idxOf? (s.rm:Int)=some j:=by
  rw[<-Option.isSome_iff_exists,List.isSome_idxOf?]
  exact hm
 have ej:(kQo s).ly=s.ly.eraseIdx j:=by simp only[kQo,hj]
 wp_walk using 1,jU0,tFld,jY7,jYt,jVb,fRoom h.1,fLying h.1,inR_is h.2,hm,jK2 h.2
 rw[if_neg (by simp)]
 have g1:(gup G l (.lst (jKr (kQo s).ly))) a=some (wkG W l s):=by rw[jJi h.ne];exact h.1
 refine⟨l,s.ly,s.rm,j,rfl,rfl,h.2,hj,?_⟩
 rw[<-ej]
 refine⟨_,fHeld g1,_,rfl,_,pHeld (n:=s.hd+1) rfl g1,?_⟩
 wp_walk using 1,jUb
 exact⟨jZ4 jJg,a,l,W,kQo s,rfl,⟨jJg,by rw[jJi h.ne.symm,jJg]⟩,hr,kk⟩
noncomputable def jJy:Sp3:=fun xs G Q=>∃(a:Addr) (W:Web) (r h:Nat),xs=[.ref a,encW W,.int (r:Nat),.int (h:Nat)]/\G a=some (.ins "Walker" [])/\∀l G',l≠a->G l=none->WkAt G' a l W ⟨r,none,h,[],0⟩->(∀b,b≠a->b≠l->G' b=G b)->Q .non G'
noncomputable def jZv:List Str:=["self","web","room","stones"]
noncomputable def jU1:TS3:=
 (tSeq (jYt "Walker" "web" (tVar 0) (tVar 1))
 (tSeq (jYt "Walker" "room" (tVar 0) (tVar 2))
 (tSeq (jYt "Walker" "came" (tVar 0) (tC .non))
 (tSeq (jYt "Walker" "held" (tVar 0) (tVar 3))
 (tSeq (jYt "Walker" "lying" (tVar 0) (tLst tNil))
 (jYt "Walker" "walked" (tVar 0) (tC (.int 0))))))))
theorem setN {G:Gp} {a:Addr} {f:Str} {v:T} {fs fs':List (Str×T)} (h:G a=some (.ins "Walker" fs)) (hl:fs.length<1000) (hp:jX0 f v fs=fs'):kKf "Walker" f G (.ref a) v=some (gup G a (.ins "Walker" fs')):=by
 simp only[kKf,h]
 rw[if_pos ⟨trivial,hl⟩,hp]
theorem kJp:∀xs G Q,jJy xs G Q->jU1 {nx:=fun _ G'=>Q .non G',rt:=Q} (jJk jZv xs) G:=by
 intro xs G Q h_;apply xe4 h_;clear h_;intro a W r h h_;apply ae2 h_;clear h_;intro h0 kk
 rw[show jJk jZv [.ref a,encW W,.int (r:Nat),.int (h:Nat)]=[some (.ref a),some (encW W),some (.int (r:Nat)),some (.int (h:Nat))] from rfl]
 wp_walk using 1,jU1,jYt
 refine⟨_,setN h0 (show 0<1000 by decide) (fs':=[("web",encW W)]) rfl,_,setN jJg (show 1<1000 by decide) (fs':=[("web",encW W),("room",.int (r:Nat))]) (by simp only[jX0,q1,if_false]),
  _,setN jJg (show 2<1000 by decide) (fs':=[("web",encW W),("room",.int (r:Nat)),("came",.non)]) (by simp only[jX0,q2,q6,if_false]),
  _,setN jJg (show 3<1000 by decide) (fs':=[("web",encW W),("room",.int (r:Nat)),("came",.non),("held",.int (h:Nat))]) (by simp only[jX0,q3,q7,q10,if_false]),lJg _,fun l hl=> ?_⟩
 rw[kK8,kK8,kK8] at hl ⊢
 obtain⟨hla,hl0⟩:=jK1 hl
 refine⟨_,setN (fs:=[("web",encW W),("room",.int (r:Nat)),("came",.non),("held",.int (h:Nat))]) (by rw[jJi hla.symm,jJg]) (show 4<1000 by decide) (fs':=[("web",encW W),("room",.int (r:Nat)),("came",.non),("held",.int (h:Nat)),("lying",.ref l)]) (by simp only[jX0,q4,q8,q11,q13,if_false]),
  _,setN jJg (show 5<1000 by decide) (fs':=wfs W l ⟨r,none,h,[],0⟩) (by simp only[jX0,q5,q9,q12,q14,q15,if_false,wfs,cmT];rfl),?_⟩
 refine kk l _ hla hl0 ⟨jJg,by rw[jJi hla,jJi hla,jJg];rfl⟩ fun b h1 h2=> ?_
 rw[jJi h1,jJi h1,jJi h2,jJi h1]
structure OkD (d:Nat) (x:T):Prop where
 tr:tree x=true
 lay:(td x).canLay0=true
 dep:(td x).depth<=d
theorem okD_int {i:Int}:OkD 0 (.int i):=⟨rfl,rfl,Nat.le_of_eq (by simp[td,PyData.depth])⟩
theorem okD_all {d:Nat}:∀xs:List T,(∀x,x∈xs->OkD d x)->jUg xs=true/\PyData.canLayAll0 (tds xs)=true/\PyData.depthAll (tds xs)<=d
 | [],_=>⟨rfl,by simp[tds,PyData.canLayAll0],by simp[tds,PyData.depthAll]⟩
 | x::xs,h=>by
  obtain⟨a1,a2,a3⟩:=okD_all xs fun y hy=>h y (lJ1 _ hy)
  obtain⟨b1,b2,b3⟩:=h x (lKe ..)
  refine⟨?_,?_,?_⟩
  ·show (tree x&&jUg xs)=true;rw[a1,b1];rfl
  ·rw[tds,PyData.canLayAll0,a2,b2];rfl
  ·rw[tds,PyData.depthAll];omega
theorem kKp {d:Nat} {xs:List T} (h:∀x,x∈xs->OkD d x):OkD (d+1) (.tup xs):=by
 obtain⟨a1,a2,a3⟩:=okD_all xs h
 exact⟨a1,by rw[td,PyData.canLay0];exact a2,by rw[td,PyData.depth];omega⟩
theorem OkD.mono {d d':Nat} {x:T} (h:OkD d x) (l:d<=d'):OkD d' x:=⟨h.tr,h.lay,lJs h.dep l⟩
def Kp (S:List Addr) (G G':Gp):Prop:=∀x o,x∉S->G x=some o->G' x=some o
theorem Kp.refl (S:List Addr) (G:Gp):Kp S G G:=fun _ _ _ h=>h
theorem Kp.trans {S:List Addr} {G G1 G2:Gp} (h:Kp S G G1) (h':Kp S G1 G2):Kp S G G2:=fun x o hx e=>h' x o hx (h x o hx e)
theorem Kp.keep {S:List Addr} {d:Addr} {G G':Gp} (h:Keep d G G') (hd:d∈S):Kp S G G':=fun x o hx e=>h x o (by rintro rfl;exact hx hd) e
theorem Kp.gup {S:List Addr} {a:Addr} {G:Gp} {o:GO} (h:a∈S):Kp S G (gup G a o):=fun x u hx e=>by rw[jJi (by rintro rfl;exact hx h)];exact e
theorem okD_oks {xs:List T} (h:∀x,x∈xs->OkD 40 x):jZp xs=true:=by
 obtain⟨a1,a2,a3⟩:=okD_all xs h
 unfold jZp
 rw[a1,a2,decide_eq_true (show (PyData.list (tds xs)).depth<=50 by rw[PyData.depth];omega)];rfl
mutual
theorem eqT_refl:∀x:T,tree x=true->eqT x x=true
 | .non,_=>rfl
 | .bl b,_=>by simp[eqT]
 | .int i,_=>by simp[eqT]
 | .str _,_=>by simp[eqT]
 | .tup xs,h=>eqTs_refl xs h
 | .scr _,h=>nomatch h
 | .ref _,h=>nomatch h
 | .ty _,h=>nomatch h
theorem eqTs_refl:∀xs:List T,jUg xs=true->eqTs xs xs=true
 | [],_=>rfl
 | x::xs,h=>by
  have h':(tree x&&jUg xs)=true:=h
  rw[lJ8] at h'
  show (eqT x x&&eqTs xs xs)=true
  rw[eqT_refl x h'.1,eqTs_refl xs h'.2];rfl
end
noncomputable def pth (W:Web):Nat->List Nat->Option (List (Nat×Nat))
 | _,[]=>some []
 | r,d::ds=>match en W r d with
  | some e=>(pth W e.1 ds).map (e:: ·)
  | none=>none
noncomputable def lst (r:Nat):List (Nat×Nat)->Nat
 | []=>r
 | e::es=>lst e.1 es
theorem lst_app {r:Nat}:∀ {es fs:List (Nat×Nat)},lst r (es++fs)=lst (lst r es) fs
 | [],_=>rfl
 | e::es,fs=>lst_app (r:=e.1) (es:=es)
theorem kVv {W:Web}:∀ {ds ds':List Nat} {r:Nat} {es:List (Nat×Nat)},pth W r ds=some es->pth W r (ds++ds')=(pth W (lst r es) ds').map (es++ ·)
 | [],ds',r,es,h=>by
  cases h
  show pth W r ds'=(pth W r ds').map ([]++ ·)
  cases pth W r ds'<;>rfl
 | d::ds,ds',r,es,h=>by
  unfold pth at h
  cases e1:en W r d with
  | none=>rw[e1] at h;cases h
  | some e=>
   rw[e1] at h
   simp only at h
   cases e2:pth W e.1 ds with
   | none=>rw[e2] at h;cases h
   | some fs=>
    rw[e2] at h
    cases h
    rw[List.cons_append,pth,e1]
    simp only
    rw[kVv e2]
    show ((pth W (lst e.1 fs) ds').map (fs++ ·)).map (e:: ·)=(pth W (lst e.1 fs) ds').map ((e::fs)++ ·)
    cases pth W (lst e.1 fs) ds'<;>rfl
theorem jV1 {W:Web}:∀ {ds:List Nat} {r:Nat} {es:List (Nat×Nat)},pth W r ds=some es->es.length=ds.length
 | [],_,_,h=>(by cases h;rfl)
 | d::ds,r,es,h=>by
  unfold pth at h
  cases e1:en W r d with
  | none=>rw[e1] at h;cases h
  | some e=>
   rw[e1] at h
   simp only at h
   cases e2:pth W e.1 ds with
   | none=>rw[e2] at h;cases h
   | some fs=>rw[e2] at h;cases h;rw[lJ4,lJ4,jV1 e2]
theorem pth_one {W:Web} {r d:Nat} {e:Nat×Nat} (h:en W r d=some e):pth W r [d]=some [e]:=by
 unfold pth;rw[h];rfl
theorem kJ8 {W:Web} (sy:Sym W):∀ {ds:List Nat} {r:Nat} {es:List (Nat×Nat)},pth W r ds=some es->∃bs,pth W (lst r es) (es.map (·.2)).reverse=some bs/\lst (lst r es) bs=r/\bs.map (·.2)=ds.reverse
 | [],r,es,h=>by cases h;exact⟨[],rfl,rfl,rfl⟩
 | d::ds,r,es,h=>by
  unfold pth at h
  cases e1:en W r d with
  | none=>rw[e1] at h;cases h
  | some e=>
   rw[e1] at h
   simp only at h
   cases e2:pth W e.1 ds with
   | none=>rw[e2] at h;cases h
   | some fs=>
    rw[e2] at h
    cases h
    obtain⟨bs,b1,b2,b3⟩:=kJ8 sy e2
    refine⟨bs++[(r,d)],?_,?_,?_⟩
    ·show pth W (lst e.1 fs) ((e::fs).map (·.2)).reverse=_
     rw[lJm,lK2,kVv b1,b2,pth_one (sy _ _ _ _ e1)];rfl
    ·show lst (lst e.1 fs) (bs++[(r,d)])=r
     rw[lst_app];rfl
    ·rw[lJu,b3,lK2];rfl
theorem pth_lt {W:Web} (f:Fine W) {r:Nat} {ds:List Nat} {es:List (Nat×Nat)} (h:pth W r ds=some es) (hr:r<W.length):lst r es<W.length:=by
 induction ds generalizing r es with
 | nil=>cases h;exact hr
 | cons d ds ih=>
  unfold pth at h
  cases e1:en W r d with
  | none=>rw[e1] at h;cases h
  | some e=>
   rw[e1] at h
   simp only at h
   cases e2:pth W e.1 ds with
   | none=>rw[e2] at h;cases h
   | some fs=>rw[e2] at h;cases h;exact (show lst e.1 fs<W.length from ih e2 (f.rng _ _ _ _ e1))
noncomputable def wlkS (s:WS) (es:List (Nat×Nat)):WS:=es.foldl goS s
theorem kU5 {s:WS} {es fs:List (Nat×Nat)}:wlkS s (es++fs)=wlkS (wlkS s es) fs:=List.foldl_append ..
theorem wlk_rm:∀ {es:List (Nat×Nat)} {s:WS},(wlkS s es).rm=lst s.rm es/\(wlkS s es).hd=s.hd/\(wlkS s es).ly=s.ly/\(wlkS s es).wk=s.wk+es.length
 | [],s=>⟨rfl,rfl,rfl,rfl⟩
 | e::es,s=>by
  obtain⟨a,b,c,d⟩:=wlk_rm (es:=es) (s:=goS s e)
  refine⟨a,b,c,?_⟩
  show (wlkS (goS s e) es).wk=_
  rw[d];show s.wk+1+es.length=s.wk+(es.length+1);omega
theorem kJ7 {W:Web} {r:Nat} {ds:List Nat} {es:List (Nat×Nat)} {i d:Nat} (hd:ds[i]? =some d) (h:pth W r (ds.take i)=some es):pth W r (ds.take (i+1))=(en W (lst r es) d).map fun e=>es++[e]:=by
 rw[show ds.take (i+1)=ds.take i++[d] by rw[lKa,hd];rfl,kVv h]
 unfold pth
 cases en W (lst r es) d<;>rfl
theorem jZg {W:Web} {r:Nat} {ds:List Nat} {es:List (Nat×Nat)} (h:pth W r ds=some es) (i:Nat):pth W r (ds.take i)=some (es.take i):=by
 induction ds generalizing r es i with
 | nil=>cases h;cases i<;>rfl
 | cons d ds ih=>
  unfold pth at h
  cases e1:en W r d with
  | none=>rw[e1] at h;cases h
  | some e=>
   rw[e1] at h
   simp only at h
   cases e2:pth W e.1 ds with
   | none=>rw[e2] at h;cases h
   | some fs=>
    rw[e2] at h;cases h
    cases i with
    | zero=>rfl
    | succ i=>rw[List.take_succ_cons,pth,e1];simp only;rw[ih e2 i];rfl
theorem here_c {W:Web} {s:WS} {e:Nat×Nat} {G:Gp}:ixR G (kXp W (goS s e)) (.int 1)=some (.int (e.2:Nat)):=rfl
theorem here_at {W:Web} {s:WS} {G:Gp}:ixR G (kXp W s) (.int 0)=some (.int (dg W s.rm:Nat))/\ixR G (kXp W s) (.int 2)=some (.int (s.ly.count (s.rm:Int):Nat)):=⟨rfl,rfl⟩
theorem WkAt.mv {G G':Gp} {a l:Addr} {W:Web} {s:WS} (h:WkAt G a l W s) (h1:G' a=G a) (h2:G' l=G l):WkAt G' a l W s:=⟨h1.trans h.1,h2.trans h.2⟩
theorem WkAt.go {G:Gp} {a l:Addr} {W:Web} {s:WS} {e:Nat×Nat} (h:WkAt G a l W s):WkAt (L3.gup G a (wkG W l (goS s e))) a l W (goS s e):=h.gup rfl
theorem kXn {F:List Nat} {i:Nat} {x:T} (h:(jJl F)[i]? =some x):∃d,F[i]? =some d/\x= .int (d:Nat):=by
 unfold jJl at h
 rw[lJj] at h
 cases e:F[i]? with
 | none=>rw[e] at h;cases h
 | some d=>rw[e] at h;cases h;exact⟨d,rfl,rfl⟩
noncomputable def jX4:Sp3:=fun xs G Q=>∃(a l:Addr) (W:Web) (s:WS) (ds:List Nat) (es:List (Nat×Nat)),xs=[.ref a,.tup (jJl ds)]/\WkAt G a l W s/\Fine W/\pth W s.rm ds=some es/\ds.length<=1000/\∀p G',G p=none->G' p=some (.lst (jJl (es.map (·.2))))->WkAt G' a l W (wlkS s es)->Keep a G G'->Q (.ref p) G'
noncomputable def N_led:List Str:=["walker","way","door"]
noncomputable def rd_led:TS3:=
 (tRet (jU3 [false,false,true] (iSeq (tVar 1)) (jJj 2) jU8 (tOp rIxF (jUb "Walker" "go" jJu (tVar 0) (jJb (tVar 2) tNil)) (tC (.int 1)))))
theorem rdok_led:∀xs G Q,jX4 xs G Q->rd_led {nx:=fun _ G'=>Q .non G',rt:=Q} (jJk N_led xs) G:=by
 intro xs G Q h_;apply xe6 h_;clear h_;intro a l W s ds es h_;apply ae5 h_;clear h_;intro h fine hp hl kk
 rw[show jJk N_led [.ref a,.tup (jJl ds)]=[some (.ref a),some (.tup (jJl ds)),none] from rfl]
 have hs:=sz
 wp_walk using 1,rd_led,iSeq
 intro q hq
 have qa:=jJd h.1 hq
 have ql:=jJd h.2 hq
 let J2:Nat->List T->Gp->Prop:=fun i acc G'=>acc=jJl ((es.take i).map (·.2))/\WkAt G' a l W (wlkS s (es.take i))/\G' q=some (.lst acc)/\Keep a G G'
 refine⟨J2,?_,?_,?_,?_⟩
 ·exact⟨rfl,⟨by rw[jJi qa];exact h.1,by rw[jJi ql];exact h.2⟩,jJg,.new hq⟩
 ·rintro i acc G' hi ⟨e1,e2,e3,e4⟩
  exact⟨trivial,e3⟩
 ·rintro i y acc G3 hy ⟨e1,e2,e3,e4⟩
  obtain⟨d,hd,rfl⟩:=kXn hy
  have hi:i<ds.length:=(lJa.mp hd).1
  have hp1:=jZg hp i
  have hp2:=jZg hp (i+1)
  rw[kJ7 hd hp1] at hp2
  have hel:=jV1 hp
  have hie:i<es.length:=by omega
  have hte:es.take (i+1)=es.take i++[es[i]]:=by rw[lKa,lJc hie];rfl
  rw[hte] at hp2
  obtain⟨e,he⟩:∃e,en W (lst s.rm (es.take i)) d=some e:=by
   cases q:en W (lst s.rm (es.take i)) d with
   | none=>rw[q] at hp2;cases hp2
   | some e=>exact⟨e,rfl⟩
  have hee:e=es[i]:=by
   rw[he] at hp2
   have:=List.append_cancel_left (lJx hp2)
   exact (List.cons.inj this).1
  wp_walk using 1,jUb
  refine⟨jZ4 e2.1,a,l,W,_,d,e,rfl,e2,fine,by rw[wlk_rm.1];exact he,_,here_c,?_⟩
  refine⟨by rw[jJi qa.symm];exact e3,by rw[e1];simp[jJl];omega,?_,?_,jJg,?_⟩
  ·rw[hte,lJu,e1,<-hee];simp[jJl]
  ·rw[hte,kU5,<-hee]
   exact (e2.go (e:=e)).mv (jJi qa) (jJi ql)
  ·intro x o hx ho
   rw[jJi (jJd ho hq),jJi hx];exact e4 x o hx ho
 ·rintro acc G3 ⟨e1,e2,e3,e4⟩
  have hel:=jV1 hp
  rw[show (jJl ds).length=es.length by rw[jJl,lJb];omega,lKf] at e1 e2
  subst e1
  exact kk q G3 hq e3 e2 e4
theorem kK5 {F:List Nat}:(jJl F).reverse=jJl F.reverse:=by unfold jJl;rw[List.map_reverse]
noncomputable def jKe:Sp3:=fun xs G Q=>∃(a l:Addr) (W:Web) (s:WS) (q:Addr) (bs:List Nat) (es:List (Nat×Nat)),xs=[.ref a,.ref q]/\WkAt G a l W s/\Fine W/\G q=some (.lst (jJl bs))/\pth W s.rm bs.reverse=some es/\∀G',WkAt G' a l W (wlkS s es)->Keep a G G'->Q .non G'
noncomputable def kU0:List Str:=["walker","doors","door"]
noncomputable def jXn:TS3:=
 (tFor (iRev (jJb (tVar 1) tNil)) (jJj 2) (jQl (jUb "Walker" "go" jJu (tVar 0) (jJb (tVar 2) tNil))))
theorem kVo:∀xs G Q,jKe xs G Q->jXn {nx:=fun _ G'=>Q .non G',rt:=Q} (jJk kU0 xs) G:=by
 intro xs G Q h_;apply xe7 h_;clear h_;intro a l W s q bs es h_;apply ae5 h_;clear h_;intro h fine hq hp kk
 rw[show jJk kU0 [.ref a,.ref q]=[some (.ref a),some (.ref q),none] from rfl]
 have hs:=sz
 have qa:q≠a:=by rintro rfl;rw[h.1] at hq;cases hq
 wp_walk using 1,jXn,jJ6,iRev
 refine⟨_,by simp only[jU4,hq,asL];rfl,?_⟩
 rw[kK5]
 let J1:Nat->St3->Gp->Prop:=fun i τ G'=>∃(v2:Option T),τ=[some (.ref a),some (.ref q),v2]/\WkAt G' a l W (wlkS s (es.take i))/\Keep a G G'
 refine⟨J1,?_,?_,?_,?_⟩
 ·exact⟨_,rfl,h,.refl _ _⟩
 ·intro i τ G' hi h_;apply xe1 h_;clear h_;intro v2 h_;apply ae2 h_;clear h_;intro e2 e4
  simp only[jU4,e4 _ _ qa hq,asL]
 ·intro i y τ G3 hy h_;apply xe1 h_;clear h_;intro v2 h_;apply ae2 h_;clear h_;intro e2 e4
  obtain⟨d,hd,rfl⟩:=kXn hy
  have hi:i<bs.reverse.length:=(lJa.mp hd).1
  have hp1:=jZg hp i
  have hp2:=jZg hp (i+1)
  rw[kJ7 hd hp1] at hp2
  have hel:=jV1 hp
  have hie:i<es.length:=by omega
  have hte:es.take (i+1)=es.take i++[es[i]]:=by rw[lKa,lJc hie];rfl
  rw[hte] at hp2
  obtain⟨e,he⟩:∃e,en W (lst s.rm (es.take i)) d=some e:=by
   cases q:en W (lst s.rm (es.take i)) d with
   | none=>rw[q] at hp2;cases hp2
   | some e=>exact⟨e,rfl⟩
  have hee:e=es[i]:=by
   rw[he] at hp2
   have:=List.append_cancel_left (lJx hp2)
   exact (List.cons.inj this).1
  wp_walk using 1,jUb
  refine⟨jZ4 e2.1,a,l,W,_,d,e,rfl,e2,fine,by rw[wlk_rm.1];exact he,_,rfl,?_,e4.trans .gup⟩
  rw[hte,kU5,<-hee]
  exact e2.go (e:=e)
 ·intro τ G3 h_;apply xe1 h_;clear h_;intro v2 h_;apply ae2 h_;clear h_;intro e2 e4
  have hel:=jV1 hp
  rw[show (jJl bs.reverse).length=es.length by rw[jJl,lJb];omega,lKf] at e2
  exact kk G3 e2 e4
structure Like (s s':WS):Prop where
 rm:s'.rm=s.rm
 hd:s'.hd=s.hd
 ly:s'.ly=s.ly
 wk:s.wk<=s'.wk
theorem Like.refl (s:WS):Like s s:=⟨rfl,rfl,rfl,lJd _⟩
theorem Like.trans {s t u:WS} (h:Like s t) (h':Like t u):Like s u:=⟨h'.rm.trans h.rm,h'.hd.trans h.hd,h'.ly.trans h.ly,lJs h.wk h'.wk⟩
def Only1 (s:WS) (r:Nat):Prop:=∀x:Nat,(x:Int)∈s.ly↔x=r
noncomputable def jKw:Sp3:=fun xs G Q=>∃(a l:Addr) (W:Web) (s:WS) (r:Nat) (ds:List Nat) (es:List (Nat×Nat)),xs=[.ref a,.tup (jJl ds),.tup (jJl (es.map (·.2)))]/\WkAt G a l W s/\Fine W/\Sym W/\s.rm<W.length/\Only1 s r/\pth W r ds=some es/\ds.length<=1000/\∀b G' s',(b=true↔s.rm=lst r es)->Like s s'->WkAt G' a l W s'->Keep a G G'->Q (.bl b) G'
noncomputable def kQm:List Str:=["walker","way","doors","here","came","door"]
noncomputable def jVx:TS3:=
 (tSeq (tAsg (jUb "Walker" "here" jJr (tVar 0) tNil) (jJj 3))
 (tSeq (tAsg (tLst tNil) (jJj 4))
 (tSeq (tFor (iRevT (jJb (tVar 2) tNil)) (jJj 5) (tSeq (tIfS (jJ7 (tOp rGe (tVar 5) (tOp rIxF (tVar 3) (tC (.int 0))))) tBreak jQc)
 (tSeq (tAsg (jUb "Walker" "go" jJu (tVar 0) (jJb (tVar 5) tNil)) (jJj 3))
 (jQl (tBM "list" jK3 (tVar 4) (jJb (tOp rIxF (tVar 3) (tC (.int 1))) tNil))))))
 (tSeq (jQl (jJw jKe (jJb (tVar 0) (jJb (tVar 4) tNil))))
 (tRet (tAndV (tOp rEqA (tVar 4) (tLRevT (jJb (tVar 1) tNil))) (tOp rGt (tOp rIxF (tVar 3) (tC (.int 2))) (tC (.int 0)))))))))
noncomputable def rd_ieo3:TS3:=(tSeq (jQl (jJw jKe (jJb (tVar 0) (jJb (tVar 4) tNil))))
 (tRet (tAndV (tOp rEqA (tVar 4) (tLRevT (jJb (tVar 1) tNil))) (tOp rGt (tOp rIxF (tVar 3) (tC (.int 2))) (tC (.int 0))))))
theorem rd_ieo_eq:jVx=tSeq (tAsg (jUb "Walker" "here" jJr (tVar 0) tNil) (jJj 3)) (tSeq (tAsg (tLst tNil) (jJj 4)) (tSeq (tFor (iRevT (jJb (tVar 2) tNil)) (jJj 5) (tSeq (tIfS (jJ7 (tOp rGe (tVar 5) (tOp rIxF (tVar 3) (tC (.int 0))))) tBreak jQc)
 (tSeq (tAsg (jUb "Walker" "go" jJu (tVar 0) (jJb (tVar 5) tNil)) (jJj 3))
 (jQl (tBM "list" jK3 (tVar 4) (jJb (tOp rIxF (tVar 3) (tC (.int 1))) tNil)))))) rd_ieo3)):=rfl
theorem eqG_intsN {G:Gp} {p q:Addr} {A B:List Nat} (h1:G p=some (.lst (jJl A))) (h2:G q=some (.lst (jJl B))):eqG G (.ref p) (.ref q)=some (decide (A=B)):=by
 have ok:∀F:List Nat,jZp (jJl F)=true:=fun F=>okD_oks fun x hx=>by obtain⟨r,_,rfl⟩:=lJp.mp hx;exact okD_int.mono (by decide)
 have:eqG G (.ref p) (.ref q)=if jZp (jJl A)=true/\jZp (jJl B)=true then some (eqTs (jJl A) (jJl B)) else none:=by simp only[eqG,h1,h2]
 rw[this,if_pos ⟨ok A,ok B⟩]
 congr 1
 clear h1 h2 this
 induction A generalizing B with
 | nil=>cases B<;>rfl
 | cons x A ih=>
  cases B with
  | nil=>rfl
  | cons y B=>
   show (eqT (.int (x:Nat)) (.int (y:Nat))&&eqTs (jJl A) (jJl B))=_
   rw[ih]
   by_cases h:x=y
   ·subst h;simp[eqT]
   ·have h2:¬ (x:Int)=y:=by omega
    simp[eqT,h,h2]
theorem ieo3_ok {G0 G:Gp} {Q:VK3} {a l q:Addr} {W:Web} {s:WS} {r m:Nat} {ds:List Nat} {es fs:List (Nat×Nat)} {v5:Option T} {D':Ends3} (hD:D'.rt=Q) (fine:Fine W) (sy:Sym W) (o1:Only1 s r) (hp:pth W r ds=some es) (hl:ds.length<=1000)
  (hm:pth W s.rm ((es.map (·.2)).reverse.take m)=some fs) (hmm:m<=ds.length) (hcut:m<ds.length->pth W s.rm ((es.map (·.2)).reverse.take (m+1))=none) (h:WkAt G a l W (wlkS s fs)) (hq:G q=some (.lst (jJl (fs.map (·.2))))) (kp:Keep a G0 G) (qa:q≠a)
  (kk:∀b G' s',(b=true↔s.rm=lst r es)->Like s s'->WkAt G' a l W s'->Keep a G0 G'->Q (.bl b) G'):
  rd_ieo3 D' [some (.ref a),some (.tup (jJl ds)),some (.tup (jJl (es.map (·.2)))),some (kXp W (wlkS s fs)),some (.ref q),v5] G:=by
 have hs:=sz
 wp_walk using 1,rd_ieo3,rEqA,tLRevT
 obtain⟨b1,c1,c2,c3⟩:=kJ8 sy hm
 have hel:=jV1 hp
 have hfl:=jV1 hm
 have key:(fs.map (·.2)=ds.reverse/\lst s.rm fs=r)↔s.rm=lst r es:=by
  constructor
  ·rintro⟨k1,k2⟩
   have k3:(fs.map (·.2)).reverse=ds:=by rw[k1,List.reverse_reverse]
   rw[k2,k3,hp] at c1
   cases c1
   rw[k2] at c2
   exact c2.symm
  ·intro k1
   obtain⟨b2,d1,d2,d3⟩:=kJ8 sy hp
   rw[<-k1] at d1 d2
   have hmd:m=ds.length:=by
    rcases lJw m ds.length with z | z
    ·have:=jZg d1 (m+1)
     rw[hcut z] at this;cases this
    ·omega
   rw[List.take_of_length_le (by simp;omega),d1] at hm
   cases hm
   exact⟨d3,d2⟩
 refine⟨a,l,W,wlkS s fs,q,fs.map (·.2),b1,rfl,h,fine,hq,by rw[wlk_rm.1];exact c1,fun G1 w1 kp1=> ?_⟩
 have lk:Like s (wlkS (wlkS s fs) b1):=by
  obtain⟨x1,x2,x3,x4⟩:=wlk_rm (es:=b1) (s:=wlkS s fs)
  obtain⟨y1,y2,y3,y4⟩:=wlk_rm (es:=fs) (s:=s)
  exact⟨by rw[x1,y1,c2],by rw[x2,y2],by rw[x3,y3],by rw[x4,y4];omega⟩
 intro u hu
 have hq1:=kp1 _ _ qa hq
 have hqu:=jJd hq1 hu
 have w2:WkAt (gup G1 u (.lst (jJl ds).reverse)) a l W (wlkS (wlkS s fs) b1):=w1.mv (jJi (jJd w1.1 hu)) (jJi (jJd w1.2 hu))
 have kp2:Keep a G0 (gup G1 u (.lst (jJl ds).reverse)):=(kp.trans kp1).trans (.new hu)
 refine⟨_,eqG_intsN (A:=fs.map (·.2)) (B:=ds.reverse) (by rw[jJi hqu];exact hq1) (by rw[jJg,kK5]),?_⟩
 rw[hD]
 by_cases k1:fs.map (·.2)=ds.reverse
 ·rw[if_pos (by simpa using k1)]
  refine⟨_,here_at.2,_,rfl,kk _ _ _ ?_ lk w2 kp2⟩
  rw[decide_eq_true_iff,<-key]
  obtain⟨y1,y2,y3,y4⟩:=wlk_rm (es:=fs) (s:=s)
  rw[y1,y3]
  constructor
  ·intro z
   refine⟨k1,(o1 _).mp (List.count_pos_iff.mp ?_)⟩
   omega
  ·rintro⟨_,z⟩
   have:0<s.ly.count ((lst s.rm fs:Nat):Int):=List.count_pos_iff.mpr ((o1 _).mpr z)
   omega
 ·rw[if_neg (by simpa using k1)]
  refine kk false _ _ ?_ lk w2 kp2
  rw[<-key]
  exact⟨fun z=>(nomatch z),fun z=>absurd z.1 k1⟩
theorem kQu:∀xs G Q,jKw xs G Q->jVx {nx:=fun _ G'=>Q .non G',rt:=Q} (jJk kQm xs) G:=by
 intro xs G Q h_;apply xe7 h_;clear h_;intro a l W s r ds es h_;apply ae8 h_;clear h_;intro h fine sy hr o1 hp hl kk
 rw[show jJk kQm [.ref a,.tup (jJl ds),.tup (jJl (es.map (·.2)))]=[some (.ref a),some (.tup (jJl ds)),some (.tup (jJl (es.map (·.2)))),none,none,none] from rfl,rd_ieo_eq]
 have hs:=sz
 have hel:=jV1 hp
 wp_walk using 1,jUb,jJ6,iRevT
 refine⟨jZ4 h.1,a,l,W,s,rfl,h,hr,lJg _,fun q hq=> ?_⟩
 have qa:=jJd h.1 hq
 have ql:=jJd h.2 hq
 rw[kK5]
 let J1:Nat->St3->Gp->Prop:=fun i τ G'=>∃(v5:Option T) (fs:List (Nat×Nat)),τ=[some (.ref a),some (.tup (jJl ds)),some (.tup (jJl (es.map (·.2)))),some (kXp W (wlkS s fs)),some (.ref q),v5]/\pth W s.rm ((es.map (·.2)).reverse.take i)=some fs/\WkAt G' a l W (wlkS s fs)/\G' q=some (.lst (jJl (fs.map (·.2))))/\Keep a G G'
 refine⟨J1,?_,?_,?_,?_⟩
 ·exact⟨_,[],rfl,rfl,h.mv (jJi qa) (jJi ql),jJg,.new hq⟩
 ·intros;trivial
 ·intro i y τ G3 hy h_;apply xe2 h_;clear h_;intro v5 fs h_;apply ae4 h_;clear h_;intro e1 e2 e3 e4
  obtain⟨d,hd,rfl⟩:=kXn hy
  have hi:i<(es.map (·.2)).reverse.length:=(lJa.mp hd).1
  simp only[List.length_reverse,lJb] at hi
  have hcur:lst s.rm fs<W.length:=pth_lt fine e1 hr
  obtain⟨row,hrow⟩:∃row,W[lst s.rm fs]? =some row:=⟨_,lJc hcur⟩
  have hdg:dg W (wlkS s fs).rm=row.length:=by rw[wlk_rm.1,dg,hrow];rfl
  wp_walk using 1,jUb,here_at.1
  by_cases hlt:d<row.length
  ·rw[if_neg (by rw[hdg];omega)]
   have he:en W (lst s.rm fs) d=some row[d]:=jVo hrow (lJc hlt)
   generalize row[d]=e at he
   have e1':=kJ7 hd e1
   rw[he] at e1'
   have e3':(gup G3 a (wkG W l (goS (wlkS s fs) e))) q=some (.lst (jJl (fs.map (·.2)))):=by rw[jJi qa.symm];exact e3
   have hfl:=jV1 e1
   rw[lKk] at hfl
   refine⟨jZ4 e2.1,a,l,W,_,d,e,rfl,e2,fine,by rw[wlk_rm.1];exact he,by rw[jK2 e3'];trivial,_,here_c,_,e3',by rw[jJl,lJb,lJb];omega,?_⟩
   refine⟨_,fs++[e],by rw[kU5];rfl,e1',?_,by rw[jJg,lJu];simp[jJl],?_⟩
   ·rw[kU5];exact (e2.go (e:=e)).mv (jJi qa) (jJi ql)
   ·intro x o hx ho
    rw[jJi (jJd ho hq),jJi hx];exact e4 x o hx ho
  ·rw[if_pos (by rw[hdg];omega)]
   wp_walk using 1,tBreak
   refine ieo3_ok (G0:=G) rfl fine sy o1 hp hl e1 (by omega) (fun _=> ?_) e2 e3 e4 qa.symm kk
   rw[kJ7 hd e1]
   have:en W (lst s.rm fs) d=none:=by unfold en;rw[hrow];exact lJh (by omega)
   rw[this];rfl
 ·intro τ G3 h_;apply xe2 h_;clear h_;intro v5 fs h_;apply ae4 h_;clear h_;intro e1 e2 e3 e4
  rw[show (jJl (es.map (·.2)).reverse).length=ds.length by simp[jJl];omega] at e1
  exact ieo3_ok (G0:=G) rfl fine sy o1 hp hl e1 (lJd _) (fun z=>absurd z (lKv _)) e2 e3 e4 qa.symm kk
noncomputable def ix:List Nat->Nat->Nat
 | [],_=>0
 | a::l,x=>if a=x then 0 else ix l x+1
theorem ix_app {x:Nat}:∀ {F G:List Nat},x∈F->ix (F++G) x=ix F x
 | a::l,G,h=>by
  rw[List.cons_append,ix,ix]
  by_cases e:a=x
  ·rw[if_pos e,if_pos e]
  ·rw[if_neg e,if_neg e]
   rcases (lJn.mp h) with z | z
   ·exact absurd z.symm e
   ·rw[ix_app z]
theorem ix_new {x:Nat}:∀ {F:List Nat},x∉F->ix (F++[x]) x=F.length
 | [],_=>by rw[List.nil_append,ix,if_pos rfl];rfl
 | a::l,h=>by
  rw[List.cons_append,ix,if_neg fun z=>h (by rw[z];exact lKe ..),ix_new fun z=>h (lJ1 _ z)];rfl
theorem ix_of {x:Nat}:∀ {F:List Nat} {j:Nat},F[j]? =some x->(∀k,k<j->F[k]? ≠some x)->ix F x=j
 | [],j,h,_=>by simp at h
 | a::l,0,h,_=>by rw[ix,if_pos (by simpa using h)]
 | a::l,j+1,h,h2=>by
  rw[ix,if_neg fun z=>h2 0 (Nat.zero_lt_succ _) (by rw[z];rfl),ix_of (by simpa using h) fun k hk=>by simpa using h2 (k+1) (by omega)]
structure NumAt (F:List Nat) (x j:Nat):Prop where
 ls:∀k,k<j->F[k]? ≠some x
 at_:F[j]? =some x\/j=F.length
theorem NumAt.mem {F:List Nat} {x j:Nat} (h:NumAt F x j):(j=F.length↔x∉F)/\(x∈F->j=ix F x)/\j<=F.length:=by
 have hin:x∈F->j<F.length/\F[j]? =some x:=fun hx=>by
  rcases h.at_ with e | e
  ·exact⟨(lJa.mp e).1,e⟩
  ·obtain⟨k,hk⟩:=lJq hx
   exact absurd hk (h.ls k (by have:=(lJa.mp hk).1;omega))
 refine⟨⟨fun z hx=>by have:=(hin hx).1;omega,fun hx=> ?_⟩,fun hx=>(ix_of (hin hx).2 h.ls).symm,?_⟩
 ·rcases h.at_ with e | e
  ·exact absurd (lJe e) hx
  ·exact e
 ·rcases h.at_ with e | e
  ·exact Nat.le_of_lt (lJa.mp e).1
  ·omega
noncomputable abbrev Trk:=List Nat×List (Nat×Nat)
noncomputable def trkT (t:Trk):T:= .tup [.tup (jJl t.1),.tup (jJl (t.2.map (·.2)))]
def TrOk (W:Web) (r B:Nat) (ts:List Trk):Prop:=∀t,t∈ts->pth W r t.1=some t.2/\t.1.length<=B
noncomputable def rooms (r:Nat) (ts:List Trk):List Nat:=ts.map fun t=>lst r t.2
theorem iff_ne {a b:Nat} {F:List Nat} {i:Nat} (h:F[i]? =some b) (ne:¬ a=b):F[i]? ≠some a:=by rw[h];intro z;exact ne (lJx z).symm
noncomputable def jJ8:Sp3:=fun xs G Q=>∃(a l t:Addr) (W:Web) (s:WS) (r B:Nat) (ts:List Trk),xs=[.ref a,.ref t]/\WkAt G a l W s/\Fine W/\Sym W/\s.rm<W.length/\Only1 s r/\G t=some (.lst (ts.map trkT))/\B<=900/\TrOk W r B ts/\∀(j:Nat) G' s',NumAt (rooms r ts) s.rm j->Like s s'->WkAt G' a l W s'->Keep a G G'->Q (.int (j:Nat)) G'
noncomputable def jZs:List Str:=["walker","tracks","number","track"]
noncomputable def jUy:TS3:=
 (tSeq (tFor (kJc (jJb (tVar 1) tNil)) (gTup 2 (jKg (jJj 2) (jKg (jJj 3) gNil))) (tIfS (jJ7 (jJw jKw (jJb (tVar 0) (jJb (tOp rIxF (tVar 3) (tC (.int 0))) (jJb (tOp rIxF (tVar 3) (tC (.int 1))) tNil))))) (tRet (tVar 2)) jQc))
 (tRet (tCB rLen (jJb (tVar 1) tNil))))
theorem kJm:∀xs G Q,jJ8 xs G Q->jUy {nx:=fun _ G'=>Q .non G',rt:=Q} (jJk jZs xs) G:=by
 intro xs G Q h_;apply xe8 h_;clear h_;intro a l t W s r B ts h_;apply ae9 h_;clear h_;intro h fine sy hr o1 ht hB ok kk
 rw[show jJk jZs [.ref a,.ref t]=[some (.ref a),some (.ref t),none,none] from rfl]
 have hs:=sz
 have ta:t≠a:=by rintro rfl;rw[h.1] at ht;cases ht
 wp_walk using 1,jUy,jJ6,kJc
 refine⟨_,by simp only[jU4,ht,asL];rfl,?_⟩
 let J1:Nat->St3->Gp->Prop:=fun i τ G'=>∃(v2 v3:Option T) (s':WS),τ=[some (.ref a),some (.ref t),v2,v3]/\(∀k,k<i->(rooms r ts)[k]? ≠some s.rm)/\Like s s'/\WkAt G' a l W s'/\Keep a G G'
 refine⟨J1,?_,?_,?_,?_⟩
 ·exact⟨_,_,s,rfl,fun k hk=>absurd hk (lKr _),.refl s,h,.refl _ _⟩
 ·intro i τ G' hi h_;apply xe3 h_;clear h_;intro v2 v3 s' h_;apply ae4 h_;clear h_;intro e1 e2 e3 e4
  simp only[jU4,e4 _ _ ta ht,asL]
 ·intro i y τ G1 hy h_;apply xe3 h_;clear h_;intro v2 v3 s' h_;apply ae4 h_;clear h_;intro e1 e2 e3 e4
  have hi:i<ts.length:=by have:=(lJa.mp hy).1;simpa[jJ9] using this
  rw[jVc (show (ts.map trkT)[i]? =some (trkT ts[i]) by simp[hi])] at hy
  cases hy
  obtain⟨k1,k2⟩:=ok ts[i] (List.getElem_mem hi)
  have hrm:(rooms r ts)[i]? =some (lst r ts[i].2):=by simp[rooms,hi]
  wp_walk using 1,trkT
  refine⟨a,l,W,s',r,ts[i].1,ts[i].2,rfl,e3,fine,sy,by rw[e2.rm];exact hr,fun x=>by rw[e2.ly];exact o1 x,k1,by omega,fun b G2 s2 hb lk w2 kp2=> ?_⟩
  rw[e2.rm] at hb
  cases b with
  | true=>
   wp_walk using 1,tSeq
   exact kk i G2 s2 ⟨e1,.inl (by rw[hrm,<-hb.mp rfl])⟩ (e2.trans lk) w2 (e4.trans kp2)
  | false=>
   wp_walk using 1,tSeq
   refine⟨_,_,s2,rfl,fun k hk=> ?_,e2.trans lk,w2,e4.trans kp2⟩
   rcases lJw k i with z | z
   ·exact e1 k z
   ·have:k=i:=by omega
    subst this
    exact iff_ne hrm fun z=>by cases hb.mpr z
 ·intro τ G1 h_;apply xe3 h_;clear h_;intro v2 v3 s' h_;apply ae4 h_;clear h_;intro e1 e2 e3 e4
  wp_walk using 1,jJp (e4 _ _ ta ht)
  rw[jJ9,lJb] at e1
  rw[lJb]
  exact kk _ G1 s' ⟨e1,.inr (by simp[rooms])⟩ e2 e3 e4
theorem rooms_app {r:Nat} {ts:List Trk} {t:Trk}:rooms r (ts++[t])=rooms r ts++[lst r t.2]:=by simp[rooms]
theorem intsN_app {F G:List Nat}:jJl F++jJl G=jJl (F++G):=by simp[jJl]
noncomputable def endT (F:List Nat) (es:List (Nat×Nat)):List (Nat×Nat):=es.map fun e=>(ix F e.1,e.2)
theorem endT_app {F X:List Nat} {es:List (Nat×Nat)} (h:∀e,e∈es->e.1∈F):endT (F++X) es=endT F es:=by
 unfold endT
 refine lKb fun e he=> ?_
 rw[ix_app (h e he)]
theorem addG_ok {xs ys:List T} {G:Gp} {Q:VK3} (hz:xs.length+ys.length<=sizeLine) (q:Q (.tup (xs++ys)) G):jZ2 (.tup xs) (.tup ys) G Q:=by
 cases xs with
 | nil=>exact .inr ⟨ys,rfl,rfl,q⟩
 | cons x xs=>exact .inl ⟨.val (.tup (x::xs++ys)),by simp only[addR];rw[if_pos ⟨by simp,hz⟩],q⟩
noncomputable def kU3:List Str:=["walker","tracks","told","track","back","ends","door","came","number"]
noncomputable def jXq:TS3:=
 (tSeq (tAsg (tLst (jJb (tTup (jJb (tTup tNil) (jJb (tTup tNil) tNil))) tNil)) (jJj 1))
 (tSeq (tAsg (tLst tNil) (jJj 2))
 (tSeq (jVq (jJ7 (tOp rLt (tCB rLen (jJb (tVar 2) tNil)) (tCB rLen (jJb (tVar 1) tNil)))) (tSeq (tAsg (tOp rIxF (tVar 1) (tCB rLen (jJb (tVar 2) tNil))) (jJj 3))
 (tSeq (tAsg (jJw jX4 (jJb (tVar 0) (jJb (tOp rIxF (tVar 3) (tC (.int 0))) tNil))) (jJj 4))
 (tSeq (tAsg (tLst tNil) (jJj 5))
 (tSeq (tFor (jQo (jJb (tOp rIxF (jUb "Walker" "here" jJr (tVar 0) tNil) (tC (.int 0))) tNil)) (jJj 6) (tSeq (tAsg (tOp rIxF (jUb "Walker" "go" jJu (tVar 0) (jJb (tVar 6) tNil)) (tC (.int 1))) (jJj 7))
 (tSeq (tAsg (jJw jJ8 (jJb (tVar 0) (jJb (tVar 1) tNil))) (jJj 8))
 (tSeq (tIfS (jJ7 (tOp rEqA (tVar 8) (tCB rLen (jJb (tVar 1) tNil)))) (jQl (tBM "list" jK3 (tVar 1) (jJb (tTup (jJb (tOp jZ2 (tOp rIxF (tVar 3) (tC (.int 0))) (tTup (jJb (tVar 6) tNil))) (jJb (tOp jZ2 (tOp rIxF (tVar 3) (tC (.int 1))) (tTup (jJb (tVar 7) tNil))) tNil))) tNil))) jQc)
 (tSeq (jQl (tBM "list" jK3 (tVar 5) (jJb (tTup (jJb (tVar 8) (jJb (tVar 7) tNil))) tNil)))
 (jQl (jUb "Walker" "go" jJu (tVar 0) (jJb (tVar 7) tNil))))))))
 (tSeq (jQl (jJw jKe (jJb (tVar 0) (jJb (tVar 4) tNil))))
 (jQl (tBM "list" jK3 (tVar 2) (jJb (tCB jK0 (jJb (tVar 5) tNil)) tNil)))))))))
 (tRet (tCB jK0 (jJb (tVar 2) tNil))))))
noncomputable def rd_bsI:TS3:=tFor (jQo (jJb (tOp rIxF (jUb "Walker" "here" jJr (tVar 0) tNil) (tC (.int 0))) tNil)) (jJj 6) (tSeq (tAsg (tOp rIxF (jUb "Walker" "go" jJu (tVar 0) (jJb (tVar 6) tNil)) (tC (.int 1))) (jJj 7))
 (tSeq (tAsg (jJw jJ8 (jJb (tVar 0) (jJb (tVar 1) tNil))) (jJj 8))
 (tSeq (tIfS (jJ7 (tOp rEqA (tVar 8) (tCB rLen (jJb (tVar 1) tNil)))) (jQl (tBM "list" jK3 (tVar 1) (jJb (tTup (jJb (tOp jZ2 (tOp rIxF (tVar 3) (tC (.int 0))) (tTup (jJb (tVar 6) tNil))) (jJb (tOp jZ2 (tOp rIxF (tVar 3) (tC (.int 1))) (tTup (jJb (tVar 7) tNil))) tNil))) tNil))) jQc)
 (tSeq (jQl (tBM "list" jK3 (tVar 5) (jJb (tTup (jJb (tVar 8) (jJb (tVar 7) tNil))) tNil)))
 (jQl (jUb "Walker" "go" jJu (tVar 0) (jJb (tVar 7) tNil)))))))
theorem bsI_ok {D':Ends3} {G1:Gp} {a l t tl en':Addr} {W:Web} {s1:WS} {r qr k0:Nat} {ds:List Nat} {es:List (Nat×Nat)} {rw_:List (Nat×Nat)} {ts:List Trk} {F:List Nat} {v4 v6 v7 v8:Option T} (fine:Fine W) (sy:Sym W) (hq:W[qr]? =some rw_) (hrl:rw_.length<=6) (hW:W.length<=24)
  (h:WkAt G1 a l W s1) (hrm:s1.rm=qr) (o1:Only1 s1 r) (hp:pth W r ds=some es) (hle:lst r es=qr) (hdl:ds.length<=k0) (hk0:k0<=500) (ht:G1 t=some (.lst (ts.map trkT))) (ok:TrOk W r k0 ts) (hF:rooms r ts=F) (fd:Found W r F) (hqF:qr∈F) (he:G1 en'=some (.lst [])) (hta:t≠a) (hea:en'≠a) (het:en'≠t) (hll:l≠t/\l≠en')
  (kk:∀v6 v7 v8 G' s' ts' X,rooms r ts'=F++X->F++X=vis F rw_->Found W r (F++X)->TrOk W r (k0+1) ts'->(∀e,e∈rw_->e.1∈F++X)->G' t=some (.lst (ts'.map trkT))->G' en'=some (.lst ((endT (F++X) rw_).map encE))->Like s1 s'->s1.wk+rw_.length<=s'.wk->WkAt G' a l W s'->Kp [a,t,en'] G1 G'->
   D'.nx [some (.ref a),some (.ref t),some (.ref tl),some (trkT (ds,es)),v4,some (.ref en'),v6,v7,v8] G'):
  rd_bsI D' [some (.ref a),some (.ref t),some (.ref tl),some (trkT (ds,es)),v4,some (.ref en'),v6,v7,v8] G1:=by
 have hs:=sz
 have hqW:qr<W.length:=(lJa.mp hq).1
 have hdg:dg W s1.rm=rw_.length:=by rw[hrm,dg,hq];rfl
 wp_walk using 1,rd_bsI,jJ6,jQo,jUb
 refine⟨jZ4 h.1,a,l,W,s1,rfl,h,by rw[hrm];exact hqW,_,here_at.1,_,rfl,by omega,by omega,?_⟩
 rw[show ((dg W s1.rm:Nat):Int).toNat=dg W s1.rm from rfl,hdg]
 let J1:Nat->St3->Gp->Prop:=fun j τ G'=>∃(v6 v7 v8:Option T) (s':WS) (ts':List Trk) (X:List Nat),τ=[some (.ref a),some (.ref t),some (.ref tl),some (trkT (ds,es)),v4,some (.ref en'),v6,v7,v8]/\rooms r ts'=F++X/\F++X=vis F (rw_.take j)/\Found W r (F++X)/\TrOk W r (k0+1) ts'/\(∀e,e∈rw_.take j->e.1∈F++X)/\G' t=some (.lst (ts'.map trkT))/\G' en'=some (.lst ((endT (F++X) (rw_.take j)).map encE))/\Like s1 s'/\s1.wk+j<=s'.wk/\WkAt G' a l W s'/\Kp [a,t,en'] G1 G'
 refine⟨J1,?_,?_,?_,?_⟩
 ·exact⟨_,_,_,s1,ts,[],rfl,by rw[lKh];exact hF,by rw[lKh];rfl,by rw[lKh];exact fd,fun y hy=>⟨(ok y hy).1,Nat.le_succ_of_le (ok y hy).2⟩,fun e z=>by simp at z,ht,he,.refl _,lJd _,h,.refl _ _⟩
 ·intros;trivial
 ·intro j x τ G2 hx h_;apply xe6 h_;clear h_;intro v6 v7 v8 s' ts' X h_;apply ae11 h_;clear h_;intro i1 i2 i3 i4 i5 i6 i7 i8 i9 i10 i11
  obtain⟨hj,rfl⟩:=jVl hx
  have hej:rw_[j]? =some rw_[j]:=lJc hj
  generalize rw_[j]=e at hej
  have hen:en W qr j=some e:=jVo hq hej
  have he1:e.1<W.length:=fine.rng _ _ _ _ hen
  wp_walk using 1,jUb,rEqA
  have i8r:s'.rm=qr:=i8.rm.trans hrm
  have hback:en W e.1 e.2=some (qr,j):=sy _ _ _ _ hen
  have hte:rw_.take (j+1)=rw_.take j++[e]:=by rw[lKa,hej];rfl
  have hgo:WkAt (gup G2 a (wkG W l (goS s' e))) a l W (goS s' e):=i10.go
  have fin:∀(G5:Gp) (s2:WS) (ts5:List Trk) (X5:List Nat) (n:Nat),rooms r ts5=F++X5->F++X5=vis F (rw_.take (j+1))->Found W r (F++X5)->TrOk W r (k0+1) ts5->(∀e',e'∈rw_.take (j+1)->e'.1∈F++X5)->n=ix (F++X5) e.1->(∃Y,F++X5=(F++X)++Y)->G5 t=some (.lst (ts5.map trkT))->G5 en'=some (.lst ((endT (F++X) (rw_.take j)).map encE))->Like (goS s' e) s2->WkAt G5 a l W s2->Kp [a,t,en'] G1 G5->
    tyT G5 "list" (T.ref en')/\2<=sizeLine/\∃x_2,G5 en'=some (GO.lst x_2)/\x_2.length<sizeLine/\obR (Str.ofString "Walker") (Str.ofString "go") (gup G5 en' (GO.lst (x_2++[T.tup [.int (n:Nat),.int (e.2:Nat)]]))) (T.ref a)=true/\
     jJu [T.ref a,.int (e.2:Nat)] (gup G5 en' (GO.lst (x_2++[T.tup [.int (n:Nat),.int (e.2:Nat)]]))) fun x_3 G6=>J1 (j+1) [some (T.ref a),some (T.ref t),some (T.ref tl),some (trkT (ds,es)),v4,some (T.ref en'),some (T.int (j:Nat)),some (.int (e.2:Nat)),some (.int (n:Nat))] G6:=by
   rintro G5 s2 ts5 X5 n a1 a2 a3 a4 a5 a6 ⟨Y,a7⟩ a8 a9 a10 a11 a12
   have w5:WkAt (gup G5 en' (GO.lst ((endT (F++X) (rw_.take j)).map encE++[T.tup [.int (n:Nat),.int (e.2:Nat)]]))) a l W s2:=a11.mv (jJi hea.symm) (jJi hll.2)
   refine⟨by rw[jK2 a9];trivial,by omega,_,a9,by rw[lJb,endT,lJb,lKk];omega,jZ4 w5.1,a,l,W,s2,e.2,(qr,j),rfl,w5,fine,?_,?_⟩
   ·rw[a10.rm];exact hback
   ·have e5:(endT (F++X) (rw_.take j)).map encE++[T.tup [.int (n:Nat),.int (e.2:Nat)]]=(endT (F++X5) (rw_.take (j+1))).map encE:=by
     have q1:endT (F++X5) (rw_.take j++[e])=endT (F++X) (rw_.take j)++[(n,e.2)]:=by
      have z:endT (F++X5) (rw_.take j++[e])=endT (F++X5) (rw_.take j)++[(ix (F++X5) e.1,e.2)]:=lJu
      rw[z,<-a6,a7,endT_app i5]
     rw[hte,q1,lJu];rfl
    refine⟨_,_,_,goS s2 (qr,j),ts5,X5,rfl,a1,a2,a3,a4,a5,?_,?_,⟨hrm.symm,?_,?_,?_⟩,?_,?_,?_⟩
    ·rw[jJi hta,jJi het.symm];exact a8
    ·rw[jJi hea,jJg,e5]
    ·show s2.hd=_;rw[a10.hd];exact i8.hd
    ·show s2.ly=_;rw[a10.ly];exact i8.ly
    ·have:=a10.wk;have:=i8.wk;show s1.wk<=s2.wk+1;simp only[goS] at *; omega
    ·have:=a10.wk;show s1.wk+(j+1)<=s2.wk+1;simp only[goS] at *; omega
    ·exact w5.go
    ·exact (a12.trans (.gup (by simp))).trans (.gup (by simp))
  refine⟨jZ4 i10.1,a,l,W,s',j,e,rfl,i10,fine,by rw[i8r];exact hen,_,here_c,?_⟩
  have ht3:(gup G2 a (wkG W l (goS s' e))) t=some (.lst (ts'.map trkT)):=by rw[jJi hta];exact i6
  refine⟨a,l,t,W,goS s' e,r,k0+1,ts',rfl,hgo,fine,sy,he1,fun x=>by show (x:Int)∈s'.ly↔_;rw[i8.ly];exact o1 x,ht3,by omega,i4,fun n G4 s2 hn lk w4 kp4=> ?_⟩
  have ht4:=kp4 _ _ hta ht3
  have he4:G4 en'=some (.lst ((endT (F++X) (rw_.take j)).map encE)):=kp4 _ _ hea (by rw[jJi hea];exact i7)
  have kp5:Kp [a,t,en'] G1 G4:=(i11.trans (.gup (by simp))).trans (.keep kp4 (by simp))
  have hn':NumAt (F++X) e.1 n:=by rw[<-i1];exact hn
  obtain⟨n1,n2,n3⟩:=hn'.mem
  have hlr:ts'.length=(F++X).length:=by rw[<-i1,rooms,lJb]
  have hFl:=jQs i3.nd i3.lt
  refine⟨_,jJp ht4,_,kJf,?_⟩
  rw[lJb,hlr]
  have hv:=jY6 (F:=F) hej
  rw[<-i2] at hv
  by_cases hm:e.1∈F++X
  ·rw[if_neg (by rw[decide_eq_true_iff];exact fun z=>n1.mp z hm)]
   rw[if_pos (by simpa using hm)] at hv
   exact fin G4 s2 ts' X n i1 hv.symm i3 i4 (fun e' z=>by
    rw[hte,lJt,lJk] at z
    rcases z with z | rfl
    ·exact i5 e' z
    ·exact hm) (n2 hm) ⟨[],by rw[lKh]⟩ ht4 he4 lk w4 kp5
  ·have hnl:=n1.mpr hm
   rw[if_pos (by rw[decide_eq_true_iff];exact hnl)]
   rw[if_neg (by simpa using hm)] at hv
   have hnew:rooms r (ts'++[(ds++[j],es++[e])])=F++(X++[e.1]):=by rw[rooms_app,i1,lst_app,hle,lKl];rfl
   have hpn:pth W r (ds++[j])=some (es++[e]):=by rw[kVv hp,hle,pth_one hen];rfl
   refine⟨by rw[jK2 ht4];trivial,_,rfl,by omega,addG_ok (by simp[jJl];omega) ⟨_,rfl,by omega,addG_ok (by have:=jV1 hp;simp[jJl];omega) ?_⟩⟩
   have et:ts'.map trkT++[T.tup [T.tup (jJl ds++[T.int (j:Nat)]),T.tup (jJl (es.map (·.2))++[T.int (e.2:Nat)])]]=(ts'++[(ds++[j],es++[e])]).map trkT:=by
    rw[lJu];simp[trkT,jJl]
   refine⟨by omega,_,ht4,by rw[lJb,hlr];omega,?_⟩
   rw[et]
   refine fin _ s2 (ts'++[(ds++[j],es++[e])]) (X++[e.1]) n hnew (by rw[<-lKl];exact hv.symm) ?_ ?_ ?_ ?_ ⟨[e.1],by rw[lKl]⟩ jJg (by rw[jJi het];exact he4) lk (w4.mv (jJi hta.symm) (jJi hll.1)) (kp5.trans (.gup (by simp)))
   ·rw[<-lKl]
    refine⟨?_,?_,?_⟩
    ·rw[lKy];exact⟨i3.nd,by simp,fun a ha b hb=>by rw[lJk] at hb;subst hb;rintro rfl;exact hm ha⟩
    ·intro x hx
     rw[lJt,lJk] at hx
     rcases hx with hx | rfl
     ·exact i3.lt x hx
     ·exact he1
    ·intro S h0 hc x hx
     rw[lJt,lJk] at hx
     rcases hx with hx | rfl
     ·exact i3.got S h0 hc x hx
     ·exact hc _ _ _ _ (fd.got S h0 hc qr hqF) hen
   ·intro y hy
    rw[lJt,lJk] at hy
    rcases hy with hy | rfl
    ·exact i4 y hy
    ·exact⟨hpn,by simp;omega⟩
   ·intro e' z
    rw[hte,lJt,lJk] at z
    rw[<-lKl]
    rcases z with z | rfl
    ·exact lKi _ (i5 e' z)
    ·exact lJ3 _ (by simp)
   ·rw[<-lKl,ix_new hm];exact hnl
 ·intro τ G2 h_;apply xe6 h_;clear h_;intro v6 v7 v8 s' ts' X h_;apply ae11 h_;clear h_;intro i1 i2 i3 i4 i5 i6 i7 i8 i9 i10 i11
  rw[jQ8] at i2 i5 i7 i9
  rw[lKf] at i2 i5 i7
  exact kk _ _ _ _ s' ts' X i1 i2 i3 i4 i5 i6 i7 i8 i9 i10 i11
theorem rd_bs_eq:jXq=(tSeq (tAsg (tLst (jJb (tTup (jJb (tTup tNil) (jJb (tTup tNil) tNil))) tNil)) (jJj 1))
 (tSeq (tAsg (tLst tNil) (jJj 2))
 (tSeq (jVq (jJ7 (tOp rLt (tCB rLen (jJb (tVar 2) tNil)) (tCB rLen (jJb (tVar 1) tNil)))) (tSeq (tAsg (tOp rIxF (tVar 1) (tCB rLen (jJb (tVar 2) tNil))) (jJj 3))
 (tSeq (tAsg (jJw jX4 (jJb (tVar 0) (jJb (tOp rIxF (tVar 3) (tC (.int 0))) tNil))) (jJj 4))
 (tSeq (tAsg (tLst tNil) (jJj 5))
 (tSeq rd_bsI
 (tSeq (jQl (jJw jKe (jJb (tVar 0) (jJb (tVar 4) tNil))))
 (jQl (tBM "list" jK3 (tVar 2) (jJb (tCB jK0 (jJb (tVar 5) tNil)) tNil)))))))))
 (tRet (tCB jK0 (jJb (tVar 2) tNil)))))):=rfl
noncomputable def toldW (W:Web) (r:Nat):Web:=(bfs W r).map fun q=>endT (bfs W r) (row W q)
noncomputable def jQa:Sp3:=fun xs G Q=>∃(a l:Addr) (W:Web) (s:WS),xs=[.ref a]/\WkAt G a l W s/\AnyWeb W/\s.rm<W.length/\Only1 s s.rm/\∀G' s',Like s s'->s.wk+((bfs W s.rm).map (dg W)).sum<=s'.wk->WkAt G' a l W s'->Keep a G G'->Q (encW (toldW W s.rm)) G'
theorem kVr:∀xs G Q,jQa xs G Q->jXq {nx:=fun _ G'=>Q .non G',rt:=Q} (jJk kU3 xs) G:=by
 intro xs G Q h_;apply xe4 h_;clear h_;intro a l W s h_;apply ae5 h_;clear h_;intro h aw hr o1 kk
 rw[show jJk kU3 [.ref a]=[some (.ref a),none,none,none,none,none,none,none,none] from rfl,rd_bs_eq]
 have hs:=sz
 have fine:=aw.fine
 have hW:=aw.len
 wp_walk using 1,jVq
 refine⟨lJg _,lJg _,by omega,by omega,fun t ht=>⟨lJg _,fun tl htl=> ?_⟩⟩
 have hat:a≠t:=jJd h.1 ht
 have hlt:l≠t:=jJd h.2 ht
 obtain⟨htlt,htl0⟩:=jK1 htl
 have hatl:a≠tl:=jJd h.1 htl0
 have hltl:l≠tl:=jJd h.2 htl0
 let P:Nat->St3->Gp->Prop:=fun m τ G'=>∃(k:Nat) (v3 v4 v5 v6 v7 v8:Option T) (ts:List Trk) (F:List Nat) (s':WS),τ=[some (.ref a),some (.ref t),some (.ref tl),v3,v4,v5,v6,v7,v8]/\m=W.length-k/\k<=F.length/\rooms s.rm ts=F/\Found W s.rm F/\TrOk W s.rm k ts/\(∀q,q∈F.take k->∀e,e∈row W q->e.1∈F)/\bfs W s.rm=bfsN W (W.length-k) k F/\G' t=some (.lst (ts.map trkT))/\G' tl=some (.lst ((F.take k).map fun q=>encR (endT F (row W q))))/\Like s s'/\s.wk+((F.take k).map (dg W)).sum<=s'.wk/\WkAt G' a l W s'/\Keep a G G'
 refine⟨P,⟨W.length,0,none,none,none,none,none,none,[([],[])],[s.rm],s,rfl,rfl,lJg _,rfl,⟨by simp,by simpa using hr,fun S h0 _ x hx=>by rw[lJk] at hx;rw[hx];exact h0⟩,fun y hy=> ?_,fun q hq=>by simp at hq,rfl,?_,jJg,.refl _,lJd _,h.mv ?_ ?_,?_⟩,?_⟩
 ·rw[lJk.mp hy];exact⟨rfl,lJd _⟩
 ·rw[jJi htlt.symm,jJg];rfl
 ·rw[jJi hatl,jJi hat]
 ·rw[jJi hltl,jJi hlt]
 ·exact (Keep.new ht).trans (.new htl)
 intro m τ G1 h_;apply xe10 h_;clear h_;intro k v3 v4 v5 v6 v7 v8 ts F s' h_;apply ae13 h_;clear h_;intro e0_ h0 h1 h2 h3 h4 h5 h6 h7 h8 h9 h10 h11
 subst e0_
 have hFl:=jQs h2.nd h2.lt
 have htsl:ts.length=F.length:=by rw[<-h1,rooms,lJb]
 refine⟨_,rfl,_,jJp h7,_,rfl,_,jJp h6,?_⟩
 have hl7:((F.take k).map fun q=>encR (endT F (row W q))).length=k:=by rw[lJb,lKk];omega
 rw[hl7,lJb,htsl]
 by_cases hk:k<F.length
 ·rw[if_pos (by omega)]
  let N:St3->Gp->Prop:=P (W.length-(k+1))
  refine⟨N,fun τ' G' hN=>⟨_,by omega,hN⟩,_,rfl,_,rfl,_,jJp h7,?_⟩
  rw[hl7]
  have hkt:k<ts.length:=by omega
  obtain⟨p1,p2⟩:=h3 ts[k] (List.getElem_mem hkt)
  have hFk:F[k]? =some (lst s.rm ts[k].2):=by rw[<-h1,rooms,lJj,lJc hkt];rfl
  have htk:L2.atI (ts.map trkT) (k:Nat)=some (trkT ts[k]):=by rw[atN];simp[hkt]
  generalize ts[k]=tk at p1 p2 hFk htk
  obtain⟨ds,es⟩:=tk
  have hqF:lst s.rm es∈F:=lJe hFk
  have hqW:=h2.lt _ hqF
  obtain⟨rw_,hrow⟩:∃rw_,W[lst s.rm es]? =some rw_:=⟨_,lJc hqW⟩
  refine⟨_,(jQu h6).trans htk,_,rfl,_,rfl,_,rfl,?_⟩
  refine⟨a,l,W,s',ds,es,rfl,h10,fine,by rw[h8.rm];exact p1,by omega,fun p G2 hp0 hp2 w2 kp2=>⟨lJg _,fun en' hen=> ?_⟩⟩
  obtain⟨y1,y2,y3,y4⟩:=wlk_rm (es:=es) (s:=s')
  have e1:=jJd w2.1 hen
  have e2:=jJd w2.2 hen
  have ht2:=kp2 _ _ hat.symm h6
  have htl2:=kp2 _ _ hatl.symm h7
  have e3:=jJd ht2 hen
  have e4:=jJd htl2 hen
  have e5:=jJd hp2 hen
  have pa:p≠a:=fun z=>by rw[z,h10.1] at hp0;cases hp0
  have pt:p≠t:=fun z=>by rw[z,h6] at hp0;cases hp0
  have ptl:p≠tl:=fun z=>by rw[z,h7] at hp0;cases hp0
  refine bsI_ok (r:=s.rm) (qr:=lst s.rm es) (k0:=k) (ts:=ts) (F:=F) (s1:=wlkS s' es) fine aw.sym hrow (aw.deg _ _ hrow) hW (w2.mv (jJi e1) (jJi e2)) (by rw[y1,h8.rm]) (fun x=>by rw[y3,h8.ly];exact o1 x) p1 rfl p2 (by omega) (by rw[jJi e3];exact ht2) h3 h1 h2 hqF jJg hat.symm e1.symm e3.symm ⟨hlt,e2⟩ ?_
  intro v6 v7 v8 G4 s4 ts' X q1 q2 q3 q4 q5 q6 q7 q8 q9 q10 q11
  have hp4:=q11 p _ (by simp[pa,pt,e5]) ((jJi e5).trans hp2)
  have htl4:=q11 tl _ (by simp[hatl.symm,htlt,e4]) ((jJi e4).trans htl2)
  obtain⟨bs,b1,b2,b3⟩:=kJ8 aw.sym p1
  wp_walk using 1,tSeq
  refine⟨a,l,W,s4,p,es.map (·.2),bs,rfl,q10,fine,hp4,by rw[q8.rm,y1,h8.rm];exact b1,fun G5 w5 kp5=> ?_⟩
  obtain⟨z1,z2,z3,z4⟩:=wlk_rm (es:=bs) (s:=s4)
  have htl5:=kp5 _ _ hatl.symm htl4
  have hen5:=kp5 _ _ e1.symm q7
  refine⟨by rw[jK2 htl5];trivial,_,jJp hen5,_,htl5,by rw[hl7];omega,?_⟩
  have hF'k:(F++X)[k]? =some (lst s.rm es):=by rw[lJ0 hk];exact hFk
  have htk1:(F++X).take (k+1)=F.take k++[lst s.rm es]:=by
   rw[lKa,hF'k,List.take_append_of_le_length (by omega)];rfl
  have hFX:=jQs q3.nd q3.lt
  refine⟨k+1,_,_,_,_,_,_,ts',F++X,wlkS s4 bs,rfl,rfl,by rw[lJo];omega,q1,q3,q4,?_,?_,?_,?_,⟨?_,?_,?_,?_⟩,?_,?_,?_⟩
  ·intro q hq e he
   rw[htk1,lJt,lJk] at hq
   rcases hq with hq | rfl
   ·exact lKi _ (h4 q hq e he)
   ·rw[jUe hrow] at he;exact q5 e he
  ·rw[h5,show W.length-k=W.length-(k+1)+1 by omega,jXf hFk,jUe hrow,q2]
  ·rw[jJi htlt.symm];exact kp5 _ _ hat.symm q6
  ·rw[jJg,htk1,lJu]
   have:(F.take k).map (fun q=>encR (endT (F++X) (row W q)))=(F.take k).map fun q=>encR (endT F (row W q)):=lKb fun q hq=>by rw[endT_app (h4 q hq)]
   rw[this]
   show _=some (GO.lst (_++[encR (endT (F++X) (row W (lst s.rm es)))]))
   rw[jUe hrow];rfl
  ·rw[z1,q8.rm,y1,h8.rm,b2]
  ·rw[z2,q8.hd,y2];exact h8.hd
  ·rw[z3,q8.ly,y3];exact h8.ly
  ·have:=h8.wk;have:=q8.wk;rw[z4];omega
  ·have hdg:dg W (lst s.rm es)=rw_.length:=by rw[dg,hrow];rfl
   rw[htk1,lJu,List.sum_append,z4]
   show s.wk+(((F.take k).map (dg W)).sum+(dg W (lst s.rm es)+0))<=_
   rw[hdg];omega
  ·exact w5.mv (jJi hatl) (jJi hltl)
  ·intro x o hx ho
   have g1:=h11 x o hx ho
   have g2:=kp2 x o hx g1
   have g3:(gup G2 en' (.lst [])) x=some o:=by rw[jJi (jJd g2 hen)];exact g2
   have g4:=q11 x o (by simp[hx,jJd ho ht,jJd g2 hen]) g3
   rw[jJi (jJd ho htl0)]
   exact kp5 x o hx g4
 ·rw[if_neg (by omega)]
  have hkF:k=F.length:=by omega
  have hb:bfs W s.rm=F:=by rw[h5,jXg (by omega)]
  rw[hkF,lKf] at h7 h9
  refine⟨_,rfl,_,jJp h7,?_⟩
  have:=kk G1 s' h8 (by rw[hb];exact h9) h10 h11
  unfold encW toldW at this
  rw[hb,lJr] at this
  exact this
noncomputable def jKs:Sp3:=fun xs G Q=>∃(a l:Addr) (W:Web) (s:WS),xs=[.ref a]/\WkAt G a l W s/\AnyWeb W/\s.rm<W.length/\s.ly=[]/\0<s.hd/\∀G' s',Like s s'->s.wk+((bfs W s.rm).map (dg W)).sum<=s'.wk->WkAt G' a l W s'->Kp [a,l] G G'->Q (encW (toldW W s.rm)) G'
noncomputable def N_mapped:List Str:=["walker","told"]
noncomputable def jZb:TS3:=
 (tSeq (tIfS (jJ7 (tOp rEqA (jUb "Walker" "in_hand" jJ3 (tVar 0) tNil) (tC (.int 0)))) jY7 jQc)
 (tSeq (jQl (jUb "Walker" "lay" jKk (tVar 0) tNil))
 (tSeq (tAsg (jJw jQa (jJb (tVar 0) tNil)) (jJj 1))
 (tSeq (jQl (jUb "Walker" "take" jKd (tVar 0) tNil))
 (tRet (tVar 1))))))
theorem rdok_mapped:∀xs G Q,jKs xs G Q->jZb {nx:=fun _ G'=>Q .non G',rt:=Q} (jJk N_mapped xs) G:=by
 intro xs G Q h_;apply xe4 h_;clear h_;intro a l W s h_;apply ae6 h_;clear h_;intro h aw hr hly hh kk
 rw[show jJk N_mapped [.ref a]=[some (.ref a),none] from rfl]
 have hs:=sz
 wp_walk using 1,jZb,jUb,rEqA,jY7
 refine⟨jZ4 h.1,a,l,W,s,rfl,h,_,eqG_is,?_⟩
 rw[if_neg (by simp;omega)]
 refine⟨jZ4 h.1,a,l,W,s,rfl,h,hr,hh,by rw[hly];decide,?_⟩
 have w1:WkAt (gup (gup G a (wkG W l (layS s))) l (.lst (jKr (layS s).ly))) a l W (layS s):=⟨by rw[jJi h.ne,jJg],jJg⟩
 have ly1:(layS s).ly=[(s.rm:Int)]:=by simp[layS,hly]
 have o1:Only1 (layS s) s.rm:=fun x=>by rw[ly1,lJk];omega
 refine⟨a,l,W,layS s,rfl,w1,aw,hr,o1,fun G2 s2 lk hw w2 kp2=> ?_⟩
 have ly2:s2.ly=[(s.rm:Int)]:=lk.ly.trans ly1
 have rm2:s2.rm=s.rm:=lk.rm
 refine⟨jZ4 w2.1,a,l,W,s2,rfl,w2,by rw[rm2];exact hr,by rw[ly2,rm2];simp,?_⟩
 have hi:[(s.rm:Int)].idxOf? (s.rm:Int)=some 0:=by simp[List.idxOf?]
 have ly3:(kQo s2).ly=[]:=by simp only[kQo,ly2,rm2,hi];rfl
 have hd2:s2.hd=s.hd-1:=lk.hd
 have wk2:s.wk<=s2.wk:=lk.wk
 have hw2:s.wk+((bfs W s.rm).map (dg W)).sum<=s2.wk:=hw
 refine kk _ (kQo s2) ⟨rm2,?_,ly3.trans hly.symm,wk2⟩ hw2 ⟨jJg,by rw[jJi h.ne.symm,jJg]⟩ ?_
 ·show s2.hd+1=_;omega
 ·intro x o hx ho
  simp only[lJn,lKz,or_false,not_or] at hx
  rw[jJi hx.1,jJi hx.2]
  exact kp2 x o hx.1 (by rw[jJi hx.2,jJi hx.1];exact ho)
theorem okI:∀w:List Nat,jUg (jJl w)=true/\PyData.canLayAll0 (tds (jJl w))=true/\PyData.depthAll (tds (jJl w))<=1
 | []=>⟨rfl,by simp[jJl,tds,PyData.canLayAll0],by simp[jJl,tds,PyData.depthAll]⟩
 | a::w=>by
  obtain⟨a1,a2,a3⟩:=okI w
  refine⟨?_,?_,?_⟩
  ·show (tree (.int a)&&jUg (jJl w))=true;rw[a1];rfl
  ·show PyData.canLayAll0 (td (.int a)::tds (jJl w))=true;rw[PyData.canLayAll0,a2];rfl
  ·show PyData.depthAll (td (.int a)::tds (jJl w))<=1;rw[PyData.depthAll];simp[td,PyData.depth];exact a3
theorem jXx {α:Type} [DecidableEq α] {f:α->T} (h:∀x y,eqT (f x) (f y)=decide (x=y)):∀xs ys:List α,eqTs (xs.map f) (ys.map f)=decide (xs=ys)
 | [],[]=>by simp[eqTs]
 | [],_::_=>by simp[eqTs]
 | _::_,[]=>by simp[eqTs]
 | x::xs,y::ys=>by
  show (eqT (f x) (f y)&&eqTs (xs.map f) (ys.map f))=_
  rw[h,jXx h xs ys]
  by_cases e:x=y
  ·subst e;by_cases e2:xs=ys<;>simp[e2]
  ·simp[e]
theorem kJe (x y:Nat):eqT (.int x) (.int y)=decide (x=y):=by
 by_cases h:x=y
 ·subst h;simp[eqT]
 ·have:¬ (x:Int)=y:=by omega
  simp[eqT,h,this]
theorem eqT_E (x y:Nat×Nat):eqT (encE x) (encE y)=decide (x=y):=by
 obtain⟨a,b⟩:=x
 obtain⟨c,d⟩:=y
 show (eqT (.int a) (.int c)&&(eqT (.int b) (.int d)&&true))=_
 rw[kJe,kJe]
 by_cases h:a=c<;>by_cases h2:b=d<;>simp[h,h2]
theorem eqT_R (x y:List (Nat×Nat)):eqT (encR x) (encR y)=decide (x=y):=jXx eqT_E x y
theorem eqT_W (x y:Web):eqT (encW x) (encW y)=decide (x=y):=jXx eqT_R x y
theorem eqG_lists {G:Gp} {p q:Addr} {a b:List Nat} (h1:G p=some (.lst (jJl a))) (h2:G q=some (.lst (jJl b))):eqG G (.ref p) (.ref q)=some (decide (a=b)):=by
 have ok:∀F:List Nat,jZp (jJl F)=true:=by
  intro F
  obtain⟨a1,a2,a3⟩:=okI F
  unfold jZp
  rw[a1,a2,decide_eq_true (show (PyData.list (tds (jJl F))).depth<=50 by rw[PyData.depth];omega)];rfl
 have:eqG G (.ref p) (.ref q)=if jZp (jJl a)=true/\jZp (jJl b)=true then some (eqTs (jJl a) (jJl b)) else none:=by simp only[eqG,h1,h2]
 rw[this,if_pos ⟨ok a,ok b⟩,show jJl a=a.map (fun x=>T.int (x:Nat)) from rfl,show jJl b=b.map (fun x=>T.int (x:Nat)) from rfl,jXx kJe]
theorem okD_web {W:Web}:OkD 3 (encW W):=by
 refine kKp fun x hx=> ?_
 obtain⟨es,_,rfl⟩:=lJp.mp hx
 refine kKp fun x hx=> ?_
 obtain⟨e,_,rfl⟩:=lJp.mp hx
 refine kKp fun x hx=> ?_
 simp only[lKz,lJn,or_false] at hx
 rcases hx with rfl | rfl<;>exact okD_int
theorem kXr {G:Gp} {A B:Web}:eqG G (encW A) (encW B)=some (decide (A=B)):=by
 have e:∀W:Web,eqOk (encW W)=true:=by
  intro W
  have h:=okD_web (W:=W)
  unfold eqOk
  rw[h.tr,h.lay,decide_eq_true (show (td (encW W)).depth<=50 by have:=h.dep;omega)];rfl
 show (if eqOk (encW A)=true/\eqOk (encW B)=true then some (eqT (encW A) (encW B)) else none)=_
 rw[if_pos ⟨e A,e B⟩,eqT_W]
noncomputable def prt (W:Web) (a:Nat) (V:Web) (b:Nat):List Nat:=(List.range W.length).map fun x=>(bfs V b).getD ((bfs W a).idxOf x) 0
noncomputable def Tw (W:Web) (a:Nat) (V:Web) (b:Nat):Option (List Nat):=if tf W a=tf V b then some (prt W a V b) else none
structure Iso (W:Web) (a:Nat) (V:Web) (b:Nat) (m:List Nat):Prop where
 turn:Turn W.length m
 ren:Ren W m V
 fst:nuF m a=b
theorem Order.idx0 {W:Web} {r:Nat} {F:List Nat} (o:Order W r F):F.idxOf r=0:=by
 have:=o.first
 cases F with
 | nil=>cases this
 | cons x F=>cases this;simp
theorem kUf {W:Web} (w:AnyWeb W) {a:Nat} (ha:a<W.length):(tf W a).length=W.length:=by unfold tf;rw[lJb,(w.order ha).len]
theorem prt_at {W:Web} {a:Nat} {V:Web} {b x:Nat} (hx:x<W.length):(prt W a V b)[x]? =some ((bfs V b).getD ((bfs W a).idxOf x) 0):=by simp[prt,hx]
theorem iso_of {W V:Web} {a b:Nat} (w:AnyWeb W) (v:AnyWeb V) (ha:a<W.length) (hb:b<V.length) (h:tf W a=tf V b):Iso W a V b (prt W a V b):=by
 have oF:=w.order ha
 have oE:=v.order hb
 have ln:W.length=V.length:=by rw[<-kUf w ha,<-kUf v hb,h]
 have lE:=oE.len
 have lF:=oF.len
 have at_:∀x,x<W.length->(bfs V b)[(bfs W a).idxOf x]? =some ((bfs V b).getD ((bfs W a).idxOf x) 0):=by
  intro x hx
  have:=(oF.idx hx).2
  rw[List.getD_eq_getElem?_getD,lJc (by omega)];rfl
 have tn:Turn W.length (prt W a V b):=by
  refine⟨by simp[prt],?_,fun x hx=> ?_⟩
  ·unfold prt
   rw[lQe,List.pairwise_map]
   refine (List.nodup_range (n:=W.length)).imp_of_mem fun {x y} hx hy hne he=>hne ?_
   have hx:=lJv.mp hx
   have hy:=lJv.mp hy
   have h1:=at_ x hx
   have h2:=at_ y hy
   rw[he] at h1
   have l1:=(oF.idx hx).2
   have l2:=(oF.idx hy).2
   have e:(bfs W a).idxOf x=(bfs W a).idxOf y:=(lK0 (by omega) oE.nd).mp (h1.trans h2.symm)
   have i1:=(oF.idx hx).1
   have i2:=(oF.idx hy).1
   rw[e,i2] at i1
   exact (lJx i1).symm
  ·unfold prt at hx
   (obtain⟨y,hy,rfl⟩:=lJp.mp hx)
   rw[ln]
   exact oE.lt _ (lJe (at_ y (lJv.mp hy)))
 refine⟨tn,⟨ln.symm,fun r es hr=> ?_⟩,?_⟩
 ·have hrl:r<W.length:=(lJa.mp hr).1
  have hm:nuF (prt W a V b) r=(bfs V b).getD ((bfs W a).idxOf r) 0:=jV9 (prt_at hrl)
  have i1:=oF.idx hrl
  have t1:(tf W a)[(bfs W a).idxOf r]? =some ((row W r).map fun e=>((bfs W a).idxOf e.1,e.2)):=by unfold tf;rw[lJj,i1.1];rfl
  have t2:(tf V b)[(bfs W a).idxOf r]? =some ((row V ((bfs V b).getD ((bfs W a).idxOf r) 0)).map fun e=>((bfs V b).idxOf e.1,e.2)):=by unfold tf;rw[lJj,at_ r hrl];rfl
  rw[h,t2] at t1
  have t3:=congrArg (List.map fun e:Nat×Nat=>((bfs V b).getD e.1 0,e.2)) (lJx t1)
  rw[lJr,lJr] at t3
  have hml:(bfs V b).getD ((bfs W a).idxOf r) 0<V.length:=oE.lt _ (lJe (at_ r hrl))
  have e1:(row V ((bfs V b).getD ((bfs W a).idxOf r) 0)).map ((fun e:Nat×Nat=>((bfs V b).getD e.1 0,e.2))∘fun e=>((bfs V b).idxOf e.1,e.2))=row V ((bfs V b).getD ((bfs W a).idxOf r) 0):=by
   conv=>rhs;rw[<-List.map_id (row V ((bfs V b).getD ((bfs W a).idxOf r) 0))]
   refine lKb fun e he=> ?_
   obtain⟨i,hi⟩:=row_mem he
   have hl:=v.fine.rng _ _ e.1 e.2 hi
   show ((bfs V b).getD ((bfs V b).idxOf e.1) 0,e.2)=e
   rw[List.getD_eq_getElem?_getD,(oE.idx hl).1];rfl
  have e2:(row W r).map ((fun e:Nat×Nat=>((bfs V b).getD e.1 0,e.2))∘fun e=>((bfs W a).idxOf e.1,e.2))=renE (prt W a V b) (row W r):=by
   unfold renE
   refine lKb fun e he=> ?_
   obtain⟨i,hi⟩:=row_mem he
   have hl:=w.fine.rng _ _ e.1 e.2 hi
   show ((bfs V b).getD ((bfs W a).idxOf e.1) 0,e.2)=(nuF (prt W a V b) e.1,e.2)
   rw[jV9 (prt_at hl)]
  rw[e1,e2,jUe hr] at t3
  rw[hm,lJc hml,<-jUe (lJc hml),t3]
 ·rw[jV9 (prt_at ha),oF.idx0]
  have:=oE.first
  rw[List.getD_eq_getElem?_getD,this];rfl
theorem Iso.tf_eq {W V:Web} {a b:Nat} {m:List Nat} (i:Iso W a V b m):tf W a=tf V b:=by
 rw[<-i.fst];exact (tf_ren i.ren i.turn a).symm
noncomputable def encO:Option (List Nat)->T
 | none=> .non
 | some m=> .tup (jJl m)
theorem key_kT (kvs:List (L2.Key×T)) {F:List Nat} (h:kvs.map Prod.fst=F.map keyN):(kvs.map fun kv=>kT kv.1)=(F.map fun x=>((x:Nat):Int)).map T.int:=by
 rw[kK3 h,jJl,lJr];rfl
theorem listT_at {G:Gp} {p:Addr} {xs:List T} (h:G p=some (.lst xs)):jU4 G (.ref p)=some xs:=by
 show asL (G p)=_
 rw[h];rfl
theorem ixR_dckN {G:Gp} {d:Addr} {kvs:List (L2.Key×T)} {x:Nat} (h:G d=some (.dck kvs)):ixR G (.ref d) (.int (x:Nat))=valT kvs (keyN x):=by
 simp only[ixR,seqT,dAt,h,kJz];rfl
noncomputable def kvR (F M:List Nat):List (L2.Key×T):=(F.map keyN).zip (jJl M)
theorem keyN_inj {x y:Nat} (h:keyN x=keyN y):x=y:=by
 have:(x:Int)=y:=Sum.inl.inj h
 omega
theorem val_kvR:∀ {F M:List Nat} {x:Nat},x∈F->F.length=M.length->valT (kvR F M) (keyN x)=some (.int (M.getD (F.idxOf x) 0:Nat))
 | f::F,[],x,hx,hl=>by simp at hl
 | f::F,m::M,x,hx,hl=>by
  show Option.map (fun x=>x.snd) (List.find? (fun kv=>decide (kv.fst=keyN x)) ((keyN f,T.int (m:Nat))::kvR F M))=_
  rw[lKm]
  by_cases e:f=x
  ·subst e
   simp
  ·rw[decide_eq_false (fun q=>e (keyN_inj q))]
   have hx':x∈F:=by
    rcases (lJn.mp hx) with q | q
    ·exact absurd q.symm e
    ·exact q
   have ih:=val_kvR hx' (by simpa using hl)
   rw[List.idxOf_cons,show (f == x)=false by simpa using e]
   exact ih
noncomputable def jKq:Sp3:=fun xs G Q=>∃(W:Web) (a:Nat) (V:Web) (b:Nat),xs=[encW W,.int a,encW V,.int b]/\AnyWeb W/\AnyWeb V/\a<W.length/\b<V.length/\∀G',Sub G G'->Q (encO (Tw W a V b)) G'
noncomputable def kUz:List Str:=["one","a","other","b","partners","room"]
noncomputable def jXm:TS3:=
 (tSeq (tIfS (jJ7 (tOp rNeA (jJw jKm (jJb (tVar 0) (jJb (tVar 1) tNil))) (jJw jKm (jJb (tVar 2) (jJb (tVar 3) tNil))))) (tRet (tC .non)) jQc)
 (tSeq (tAsg (tDZip (jJb (tCB kUk (jJb (jJw jJ1 (jJb (tVar 0) (jJb (tVar 1) tNil))) tNil)) (jJb (tCB kUk (jJb (jJw jJ1 (jJb (tVar 2) (jJb (tVar 3) tNil))) tNil)) tNil))) (jJj 4))
 (tRet (tCB jK0 (jJb (jU3 [false,false,false,false,false,true] (jQo (jJb (tCB rLen (jJb (tVar 0) tNil)) tNil)) (jJj 5) jU8 (tOp rIxF (tVar 4) (tVar 5))) tNil)))))
theorem kVn:∀xs G Q,jKq xs G Q->jXm {nx:=fun _ G'=>Q .non G',rt:=Q} (jJk kUz xs) G:=by
 intro xs G Q h_;apply xe4 h_;clear h_;intro W a V b h_;apply ae5 h_;clear h_;intro w v ha hb kk
 rw[show jJk kUz [encW W,.int a,encW V,.int b]=[some (.tup (W.map encR)),some (.int a),some (.tup (V.map encR)),some (.int b),none,none] from rfl]
 have hs:=sz
 wp_walk using 1,jXm,rNeA,tDZip,kUk
 refine⟨W,a,rfl,w,ha,fun G1 s1=> ?_⟩
 refine⟨V,b,rfl,v,hb,fun G2 s2=> ?_⟩
 refine⟨_,kXr,?_⟩
 by_cases h:tf W a=tf V b
 ·rw[decide_eq_true h,if_neg (by decide)]
  refine⟨W,a,rfl,w.fine,ha,fun d1 G3 kvs1 hd1 hG3 hk1 s3=> ?_⟩
  refine⟨d1,rfl,kvs1,hG3,fun q1 hq1=> ?_⟩
  refine⟨V,b,rfl,v.fine,hb,fun d2 G4 kvs2 hd2 hG4 hk2 s4=> ?_⟩
  refine⟨d2,rfl,kvs2,hG4,fun q2 hq2=> ?_⟩
  have oF:=w.order ha
  have oE:=v.order hb
  have lF:=oF.len
  have lE:=oE.len
  have lW:=w.len
  have ln:W.length=V.length:=by rw[<-kUf w ha,<-kUf v hb,h]
  have g1:G4 q1=some (.lst (((bfs W a).map fun x=>((x:Nat):Int)).map T.int)):=by
   rw[<-key_kT kvs1 hk1];exact s4 _ _ jJg
  have ne:q2≠q1:=by rintro rfl;rw[g1] at hq2;cases hq2
  refine⟨(bfs W a).map fun x=>((x:Nat):Int),listT_at (by rw[jJi ne.symm];exact g1),_,listT_at jJg,by simp[<-lJb (f:=Prod.fst) (as:=kvs2),hk2];omega,?_,by rw[lJb];omega,by rw[lJb];omega,fun p hp=> ?_⟩
  ·rw[lQe,List.pairwise_map];exact oF.nd.imp fun {x y} hne he=>hne (by omega)
  have ek:(List.map (fun i=>(Sum.inl i:L2.Key)) (List.map (fun x=>((x:Nat):Int)) (bfs W a))).zip (List.map (fun kv=>kT kv.fst) kvs2)=kvR (bfs W a) (bfs V b):=by
   rw[kK3 hk2,lJr];rfl
  rw[ek]
  have hp2:gup (gup G4 q2 (GO.lst (List.map (fun kv=>kT kv.fst) kvs2))) p (GO.dck (kvR (bfs W a) (bfs V b))) p=some (.dck (kvR (bfs W a) (bfs V b))):=jJg
  have sf:Sub G (gup (gup G4 q2 (GO.lst (List.map (fun kv=>kT kv.fst) kvs2))) p (GO.dck (kvR (bfs W a) (bfs V b)))):=(((((s1.trans s2).trans s3).trans (.new hq1)).trans s4).trans (.new hq2)).trans (.new hp)
  generalize gup (gup G4 q2 (GO.lst (List.map (fun kv=>kT kv.fst) kvs2))) p (GO.dck (kvR (bfs W a) (bfs V b)))=G5 at hp2 sf ⊢
  wp_walk using 1,jQo,lJb
  refine⟨by omega,by omega,?_⟩
  have er:rngT 0 ((W.length:Nat):Int).toNat=(List.range W.length).map fun x=>T.int (x:Nat):=by rw[show ((W.length:Nat):Int).toNat=W.length by omega,rng_ints];rfl
  rw[er]
  refine jUa (es:=List.range W.length) (fun x=>T.int ((bfs V b).getD ((bfs W a).idxOf x) 0:Nat)) (by rw[lK1];omega) (fun _ _=>trivial) ?_ ?_
  ·intro i x hx G6 K K0 s6 hk
   have hxl:x<W.length:=lJv.mp (lJe hx)
   have hv:=(ixR_dckN (x:=x) (s6 _ _ hp2)).trans (val_kvR (oF.all x hxl) (show (bfs W a).length=(bfs V b).length by omega))
   wp_walk using 1,hv
   exact hk G6 (.refl _)
  ·intro D G6 hD hG6 s6
   wp_walk using 1,jJp hG6
   have e:Tw W a V b=some (prt W a V b):=by unfold Tw;rw[if_pos h]
   have:=kk G6 (sf.trans s6)
   rw[e,show encO (some (prt W a V b))= .tup ((List.range W.length).map fun x=>T.int ((bfs V b).getD ((bfs W a).idxOf x) 0:Nat)) by show T.tup (List.map _ (prt W a V b))=_;unfold prt;rw[lJr];rfl] at this
   exact this
 ·rw[decide_eq_false h,if_pos rfl]
  have e:Tw W a V b=none:=by unfold Tw;rw[if_neg h]
  have:=kk G2 (s1.trans s2)
  rw[e] at this
  exact this
theorem ix_idx {x:Nat}:∀F:List Nat,ix F x=F.idxOf x
 | []=>rfl
 | f::F=>by
  rw[ix,List.idxOf_cons,ix_idx F]
  by_cases e:f=x
  ·subst e;simp
  ·rw[if_neg (by first | exact e | exact fun z=>e z.symm),show (f == x)=false by simpa using e];rfl
theorem told_tf {W:Web} {r:Nat}:toldW W r=tf W r:=by
 unfold toldW tf endT
 refine lKb fun q _=>lKb fun e _=> ?_
 rw[ix_idx]
noncomputable def lx:List Nat->List Nat->Prop
 | [],_=>False
 | _::_,[]=>False
 | a::u,b::v=>a<b\/(a=b/\lx u v)
def slt (u v:List Nat):Prop:=u.length<v.length\/(u.length=v.length/\lx u v)
theorem lx_irr:∀u:List Nat,¬ lx u u
 | []=>fun h=>h
 | a::u=>fun h=>by
  rcases h with h | ⟨_,h⟩
  ·exact lKv _ h
  ·exact lx_irr u h
theorem lx_trans:∀ {u v w:List Nat},lx u v->lx v w->lx u w
 | [],_,_,h,_=>(show False from h).elim
 | _::_,[],_,h,_=>(show False from h).elim
 | _::_,_::_,[],_,h=>(show False from h).elim
 | a::u,b::v,c::w,h,k=>by
  rcases h with h | ⟨rfl,h⟩<;>rcases k with k | ⟨rfl,k⟩
  ·exact .inl (Nat.lt_trans h k)
  ·exact .inl h
  ·exact .inl k
  ·exact .inr ⟨rfl,lx_trans h k⟩
theorem lx_app {x y:List Nat}:∀ {u v:List Nat},u.length=v.length->lx u v->lx (u++x) (v++y)
 | [],_,_,h=>(show False from h).elim
 | _::_,[],_,h=>(show False from h).elim
 | a::u,b::v,e,h=>by
  rcases h with h | ⟨rfl,h⟩
  ·exact .inl h
  ·exact .inr ⟨rfl,lx_app (by simpa using e) h⟩
theorem lx_last {a b:Nat} (h:a<b):∀u:List Nat,lx (u++[a]) (u++[b])
 | []=> .inl h
 | _::u=> .inr ⟨rfl,lx_last h u⟩
theorem slt_irr {u:List Nat} (h:slt u u):False:=by
 rcases h with h | h
 ·exact lKv _ h
 ·exact lx_irr u h.2
theorem jX5 {u v w:List Nat} (h:slt u v) (k:slt v w):slt u w:=by
 rcases h with h | ⟨h,h'⟩<;>rcases k with k | ⟨k,k'⟩
 ·exact .inl (Nat.lt_trans h k)
 ·exact .inl (by omega)
 ·exact .inl (by omega)
 ·exact .inr ⟨h.trans k,lx_trans h' k'⟩
theorem kVf {u v:List Nat} {a b:Nat} (h:slt u v):slt (u++[a]) (v++[b]):=by
 rcases h with h | ⟨h,h'⟩
 ·exact .inl (by simp;exact h)
 ·exact .inr ⟨by simp;exact h,lx_app h h'⟩
theorem slt_last {u:List Nat} {a b:Nat} (h:a<b):slt (u++[a]) (u++[b]):= .inr ⟨by simp,lx_last h u⟩
def sle (u v:List Nat):Prop:=u=v\/slt u v
theorem sle_trans {u v w:List Nat} (h:sle u v) (k:sle v w):sle u w:=by
 rcases h with rfl | h
 ·exact k
 ·rcases k with rfl | k
  ·exact .inr h
  ·exact .inr (jX5 h k)
theorem kVh {u v:List Nat} {d:Nat} (h:sle u v):sle (u++[d]) (v++[d]):=by
 rcases h with rfl | h
 ·exact .inl rfl
 ·exact .inr (kVf h)
noncomputable def kX0 (W:Web):Nat->List Nat->Nat->Prop
 | r,[],x=>r=x
 | r,d::u,x=>∃s j,en W r d=some (s,j)/\kX0 W s u x
theorem kUn {W:Web} {x d y j:Nat} (h:en W x d=some (y,j)):∀ {u:List Nat} {r:Nat},kX0 W r u x->kX0 W r (u++[d]) y
 | [],r,e=>by cases (show r=x from e);exact⟨y,j,h,rfl⟩
 | c::u,r,⟨s,k,e,l⟩=>⟨s,k,e,kUn h l⟩
theorem jZ9 {W:Web} {d y:Nat}:∀ {u:List Nat} {r:Nat},kX0 W r (u++[d]) y->∃x j,kX0 W r u x/\en W x d=some (y,j)
 | [],r,⟨s,j,e,l⟩=>by cases (show s=y from l);exact⟨r,j,rfl,e⟩
 | c::u,r,⟨s,k,e,l⟩=>by
  obtain⟨x,j,h1,h2⟩:=jZ9 l
  exact⟨x,j,⟨s,k,e,h1⟩,h2⟩
noncomputable abbrev PE:=Nat×Option (Nat×Nat)×List Nat
structure Tr (W:Web) (r0 a j:Nat) (P:List PE):Prop where
 nd:(P.map Prod.fst).Nodup
 zero:P[0]? =some (r0,none,[])
 to:∀p,p∈P->kX0 W r0 p.2.2 p.1
 par:∀p,p∈P->p=(r0,none,[])\/∃(i:Nat) (q:PE) (d:Nat),(i<a\/(i=a/\d<j))/\P[i]? =some q/\p.2.1=some (q.1,d)/\p.2.2=q.2.2++[d]
 inc:∀(i k:Nat) (p q:PE),i<k->P[i]? =some p->P[k]? =some q->slt p.2.2 q.2.2
 cl:∀(i:Nat) (p:PE) (d y k:Nat),(i<a\/(i=a/\d<j))->P[i]? =some p->en W p.1 d=some (y,k)->∃q,q∈P/\q.1=y/\sle q.2.2 (p.2.2++[d])
theorem tr_start {W:Web} {r0:Nat}:Tr W r0 0 0 [(r0,none,[])] where
 nd:=by simp
 zero:=rfl
 to:=fun p hp=>by rw[lJk.mp hp];rfl
 par:=fun p hp=> .inl (lJk.mp hp)
 inc:=fun i k p q h h1 h2=>by
  have:=(lJa.mp h2).1
  simp at this;omega
 cl:=fun i p d y k h=>by omega
theorem Tr.old {W:Web} {r0 a j:Nat} {P:List PE} {x:PE} (h:Tr W r0 a j P) (hx:P[a]? =some x):∀p,p∈P->slt p.2.2 (x.2.2++[j]):=by
 intro p hp
 rcases h.par p hp with rfl | ⟨i,q,d,hi,hq,_,e⟩
 ·exact .inl (by simp)
 ·rw[e]
  rcases hi with hi | ⟨rfl,hd⟩
  ·exact kVf (h.inc i a q x hi hq hx)
  ·rw[hx] at hq;cases hq
   exact slt_last hd
theorem Tr.skip {W:Web} {r0 a j y k:Nat} {P:List PE} {x:PE} (h:Tr W r0 a j P) (hx:P[a]? =some x) (he:en W x.1 j=some (y,k)) (hy:y∈P.map Prod.fst):Tr W r0 a (j+1) P where
 nd:=h.nd
 zero:=h.zero
 to:=h.to
 par:=fun p hp=>by
  rcases h.par p hp with e | ⟨i,q,d,hi,r⟩
  ·exact .inl e
  ·exact .inr ⟨i,q,d,by omega,r⟩
 inc:=h.inc
 cl:=fun i p d z k' hi hp hz=>by
  by_cases hh:i=a/\d=j
  ·obtain⟨rfl,rfl⟩:=hh
   rw[hx] at hp;cases hp
   rw[he] at hz;cases hz
   obtain⟨q,hq,rfl⟩:=lJp.mp hy
   exact⟨q,hq,rfl,.inr (h.old hx q hq)⟩
  ·exact h.cl i p d z k' (by omega) hp hz
theorem Tr.add {W:Web} {r0 a j y k:Nat} {P:List PE} {x:PE} (h:Tr W r0 a j P) (hx:P[a]? =some x) (he:en W x.1 j=some (y,k)) (hy:y∉P.map Prod.fst):Tr W r0 a (j+1) (P++[(y,some (x.1,j),x.2.2++[j])]):=by
 have hal:a<P.length:=(lJa.mp hx).1
 have lf:∀ {i:Nat} {q:PE},P[i]? =some q->(P++[(y,some (x.1,j),x.2.2++[j])])[i]? =some q:=fun {i q} hq=>by
  rw[lJ0 (lJa.mp hq).1];exact hq
 have rt:∀ {i:Nat} {q:PE},(P++[(y,some (x.1,j),x.2.2++[j])])[i]? =some q->P[i]? =some q\/(i=P.length/\q=(y,some (x.1,j),x.2.2++[j])):=fun {i q} hq=>by
  by_cases hi:i<P.length
  ·rw[lJ0 hi] at hq;exact .inl hq
  ·have:=(lJa.mp hq).1
   simp at this
   have e:i=P.length:=by omega
   subst e
   rw[lK7 (lJd _)] at hq
   simp at hq
   exact .inr ⟨rfl,hq.symm⟩
 refine⟨?_,lf h.zero,fun p hp=> ?_,fun p hp=> ?_,fun i m p q him hp hq=> ?_,fun i p d z k' hi hp hz=> ?_⟩
 ·rw[lJu,lKy]
  refine⟨h.nd,by simp,fun u hu v hv=> ?_⟩
  have:v=y:=by simpa using hv
  subst this
  rintro rfl;exact hy hu
 ·rcases (lJt.mp hp) with hp | hp
  ·exact h.to p hp
  ·rw[lJk.mp hp]
   exact kUn he (h.to x (lJe hx))
 ·rcases (lJt.mp hp) with hp | hp
  ·rcases h.par p hp with e | ⟨i,q,d,hi,hq,r⟩
   ·exact .inl e
   ·exact .inr ⟨i,q,d,by omega,lf hq,r⟩
  ·rw[lJk.mp hp]
   exact .inr ⟨a,x,j,by omega,lf hx,rfl,rfl⟩
 ·rcases rt hp with hp | ⟨rfl,rfl⟩<;>rcases rt hq with hq | ⟨rfl,rfl⟩
  ·exact h.inc i m p q him hp hq
  ·exact h.old hx p (lJe hp)
  ·have:=(lJa.mp hq).1
   omega
  ·omega
 ·rcases rt hp with hpo | ⟨rfl,rfl⟩
  ·by_cases hh:i=a/\d=j
   ·obtain⟨rfl,rfl⟩:=hh
    rw[hx] at hpo;cases hpo
    rw[he] at hz;cases hz
    exact⟨_,lJ3 _ (lKt _),rfl,.inl rfl⟩
   ·obtain⟨q,h1,h2⟩:=h.cl i p d z k' (by omega) hpo hz
    exact⟨q,lKi _ h1,h2⟩
  ·omega
theorem Tr.next {W:Web} {r0 a n:Nat} {P:List PE} {x:PE} (h:Tr W r0 a n P) (hx:P[a]? =some x) (hn:∀d e,en W x.1 d=some e->d<n):Tr W r0 (a+1) 0 P where
 nd:=h.nd
 zero:=h.zero
 to:=h.to
 par:=fun p hp=>by
  rcases h.par p hp with e | ⟨i,q,d,hi,r⟩
  ·exact .inl e
  ·exact .inr ⟨i,q,d,by omega,r⟩
 inc:=h.inc
 cl:=fun i p d z k' hi hp hz=>by
  refine h.cl i p d z k' ?_ hp hz
  by_cases hh:i=a
  ·subst hh
   rw[hx] at hp;cases hp
   exact .inr ⟨rfl,hn d _ hz⟩
  ·exact .inl (by omega)
theorem Tr.all {W:Web} {r0:Nat} {P:List PE} (h:Tr W r0 P.length 0 P):∀(n:Nat) (u:List Nat) (y:Nat),u.length=n->kX0 W r0 u y->∃q,q∈P/\q.1=y/\sle q.2.2 u
 | 0,u,y,hn,hl=>by
  have:u=[]:=lKq.mp hn
  subst this
  cases (show r0=y from hl)
  exact⟨_,lJe h.zero,rfl,.inl rfl⟩
 | n+1,u,y,hn,hl=>by
  rcases List.eq_nil_or_concat u with rfl | ⟨u',d,rfl⟩
  ·simp at hn
  ·rw[List.concat_eq_append] at hl hn ⊢
   obtain⟨x,j,h1,h2⟩:=jZ9 hl
   obtain⟨q,hq,rfl,hs⟩:=h.all n u' x (by simpa using hn) h1
   obtain⟨i,hi⟩:=lJq hq
   obtain⟨q',a1,a2,a3⟩:=h.cl i q d y j (.inl (lJa.mp hi).1) hi h2
   exact⟨q',a1,a2,sle_trans a3 (kVh hs)⟩
section
variable {κ:Type} [DecidableEq κ]
noncomputable def ix1 (F:List κ) (x:κ):Nat:=F.idxOf x
end
noncomputable def tups (W:Web) (m:List Nat):List (List (Nat×Nat)):=W.map fun es=>es.map fun e=>(e.2,m.getD e.1 0)
section
variable {κ K:Type} [DecidableEq κ] [DecidableEq K]
theorem putT_none {kvs:List (K×T)} {k:K} {v:T} (h:valT kvs k=none):putT kvs k v=kvs++[(k,v)]:=by
 unfold putT
 rw[if_neg]
 intro z
 rw[List.any_eq_true] at z
 obtain⟨p,hp,e⟩:=z
 unfold valT at h
 rw[Option.map_eq_none_iff,List.find?_eq_none] at h
 exact h p hp e
structure Dic (mk:List (K×T)->GO) (key:κ->K) (enc:κ->T):Prop where
 inj:∀x y,key x=key y->x=y
 has:∀(G:Gp) d kvs x,G d=some (mk kvs)->inR G (enc x) (.ref d)=some (valT kvs (key x)).isSome
 put:∀(G:Gp) d kvs x v,G d=some (mk kvs)->kvs.length<sizeLine->setR G (.ref d) (enc x) v=some (gup G d (mk (putT kvs (key x) v)))
 get:∀(G:Gp) d kvs x,G d=some (mk kvs)->ixR G (.ref d) (enc x)=valT kvs (key x)
 len:∀(G:Gp) d kvs,G d=some (mk kvs)->lenG G (.ref d)=some kvs.length
end
theorem dicT {κ:Type} [DecidableEq κ] {key:κ->L2.TKey} {enc:κ->List T} (hi:∀x y,key x=key y->x=y) (hk:∀x,jX9 (enc x)=some (key x)):Dic (fun kvs=> .dct kvs) key (fun x=>T.tup (enc x)) where
 inj:=hi
 has:=fun G d kvs x h=>by
  have h1:seqT G (.ref d)=none:=by simp only[seqT,h,asL]
  have h2:=dAt_dct h (hk x)
  unfold inR;rw[h1,h2]
 put:=fun G d kvs x v h hz=>setR_dct h (hk x) hz
 get:=fun G d kvs x h=>by
  have h1:seqT G (.ref d)=none:=by simp only[seqT,h,asL]
  have h2:=dAt_dct h (hk x)
  unfold ixR;rw[h1,h2]
 len:=fun G d kvs h=>by simp only[lenG,h]
theorem dm {e g n:Nat} (h:g<n):(e*n+g) / n=e/\(e*n+g)%n=g:=by
 rw[Nat.mul_comm]
 exact⟨by rw[Nat.mul_add_div (by omega),Nat.div_eq_of_lt h];omega,by rw[Nat.mul_add_mod,lKn h]⟩
theorem kK9 {W:Web} {r d:Nat}:en W r d=(row W r)[d]? :=by
 unfold en row
 cases W[r]? with
 | none=>rfl
 | some es=>rfl
theorem lx_tri:∀u v:List Nat,u.length=v.length->lx u v\/u=v\/lx v u
 | [],[],_=> .inr (.inl rfl)
 | [],_::_,h=>by simp at h
 | _::_,[],h=>by simp at h
 | a::u,b::v,h=>by
  rcases lQd a b with z | z | z
  ·exact .inl (.inl z)
  ·subst z
   rcases lx_tri u v (by simpa using h) with y | y | y
   ·exact .inl (.inr ⟨rfl,y⟩)
   ·exact .inr (.inl (by rw[y]))
   ·exact .inr (.inr (.inr ⟨rfl,y⟩))
  ·exact .inr (.inr (.inl z))
theorem slt_tri (u v:List Nat):slt u v\/u=v\/slt v u:=by
 rcases lQd u.length v.length with z | z | z
 ·exact .inl (.inl z)
 ·rcases lx_tri u v z with y | y | y
  ·exact .inl (.inr ⟨z,y⟩)
  ·exact .inr (.inl y)
  ·exact .inr (.inr (.inr ⟨z.symm,y⟩))
 ·exact .inr (.inr (.inl z))
noncomputable def prodW (U V:Web):Web:=(List.range (U.length*V.length)).map fun x=>((row U (x / V.length)).zip (row V (x%V.length))).map fun p=>(p.1.1*V.length+p.2.1,0)
theorem prod_at {U V:Web} {x:Nat} (h:x<U.length*V.length):(prodW U V)[x]? =some (((row U (x / V.length)).zip (row V (x%V.length))).map fun p=>(p.1.1*V.length+p.2.1,0)):=by simp[prodW,h]
theorem en_prod {U V:Web} {x d:Nat} {e g:Nat×Nat} (h:x<U.length*V.length) (he:en U (x / V.length) d=some e) (hg:en V (x%V.length) d=some g):en (prodW U V) x d=some (e.1*V.length+g.1,0):=by
 rw[kK9] at he hg
 refine jVo (prod_at h) ?_
 rw[lJj,List.getElem?_zip_eq_some (z:=(e,g)) |>.mpr ⟨he,hg⟩];rfl
theorem en_prod_inv {U V:Web} {x d y j:Nat} (h:en (prodW U V) x d=some (y,j)):∃e g,en U (x / V.length) d=some e/\en V (x%V.length) d=some g/\y=e.1*V.length+g.1/\x<U.length*V.length:=by
 obtain⟨es,h1,h2⟩:=jUv h
 have hx:x<U.length*V.length:=by have:=(lJa.mp h1).1;simpa[prodW] using this
 rw[prod_at hx] at h1
 cases h1
 rw[lJj] at h2
 obtain⟨p,hp,e⟩:=lQg.mp h2
 obtain⟨z1,z2⟩:=List.getElem?_zip_eq_some.mp hp
 exact⟨p.1,p.2,by rw[kK9];exact z1,by rw[kK9];exact z2,(congrArg Prod.fst e).symm,hx⟩
noncomputable def PX (X:Nat->Nat->Prop) (U V:Web):List Nat->Nat->Nat->Prop
 | [],r,s=>X r s
 | d::p,r,s=>¬ X r s/\∃e g,en U r d=some e/\en V s d=some g/\((e.2≠g.2/\p=[])\/(e.2=g.2/\PX X U V p e.1 g.1))
def XL (U V:Web) (r s:Nat):Prop:=(row U r).length≠(row V s).length
def Bad (X:Nat->Nat->Prop) (U V:Web) (r s d:Nat):Prop:=∃e g,en U r d=some e/\en V s d=some g/\(e.2≠g.2\/X e.1 g.1)
noncomputable def Go (X:Nat->Nat->Prop) (U V:Web):List Nat->Nat->Nat->Nat->Nat->Prop
 | [],a,b,r,s=>a=r/\b=s/\¬ X a b
 | d::u,a,b,r,s=>¬ X a b/\∃e g,en U a d=some e/\en V b d=some g/\e.2=g.2/\Go X U V u e.1 g.1 r s
theorem go_snoc {X:Nat->Nat->Prop} {U V:Web} {r s d:Nat} {e g:Nat×Nat} (he:en U r d=some e) (hg:en V s d=some g) (h2:e.2=g.2) (hX:¬ X e.1 g.1):∀ {u:List Nat} {a b:Nat},Go X U V u a b r s->Go X U V (u++[d]) a b e.1 g.1
 | [],a,b,h=>by
  obtain⟨rfl,rfl,h0⟩:=h
  exact⟨h0,e,g,he,hg,h2,rfl,rfl,hX⟩
 | c::u,a,b,h=>by
  obtain⟨h0,e',g',h1,h3,h4,h5⟩:=h
  exact⟨h0,e',g',h1,h3,h4,go_snoc he hg h2 hX h5⟩
theorem go_px {X:Nat->Nat->Prop} {U V:Web} {r s d:Nat} (hb:Bad X U V r s d):∀ {u:List Nat} {a b:Nat},Go X U V u a b r s->PX X U V (u++[d]) a b
 | [],a,b,h=>by
  obtain⟨rfl,rfl,h0⟩:=h
  obtain⟨e,g,he,hg,z⟩:=hb
  refine⟨h0,e,g,he,hg,?_⟩
  by_cases y:e.2=g.2
  ·exact .inr ⟨y,z.resolve_left fun q=>q y⟩
  ·exact .inl ⟨y,rfl⟩
 | c::u,a,b,h=>by
  obtain⟨h0,e',g',h1,h3,h4,h5⟩:=h
  exact⟨h0,e',g',h1,h3,.inr ⟨h4,go_px hb h5⟩⟩
theorem prod_lt {U V:Web} (fU:Fine U) (fV:Fine V) {x d:Nat} {e g:Nat×Nat} (he:en U (x / V.length) d=some e) (hg:en V (x%V.length) d=some g):e.1*V.length+g.1<U.length*V.length/\(e.1*V.length+g.1) / V.length=e.1/\(e.1*V.length+g.1)%V.length=g.1:=by
 have h1:=fU.rng _ _ e.1 e.2 he
 have h2:=fV.rng _ _ g.1 g.2 hg
 refine⟨?_,dm h2⟩
 calc e.1*V.length+g.1<e.1*V.length+V.length:=by omega
  _=(e.1+1)*V.length:=by rw[Nat.add_mul,Nat.one_mul]
  _<=U.length*V.length:=lK5 _ h1
theorem kVt {X:Nat->Nat->Prop} {U V:Web} (fU:Fine U) (fV:Fine V):∀(p:List Nat) (x:Nat),x<U.length*V.length->PX X U V p (x / V.length) (x%V.length)->¬ X (x / V.length) (x%V.length)->∃u d y,p=u++[d]/\kX0 (prodW U V) x u y/\Bad X U V (y / V.length) (y%V.length) d
 | [],x,hx,h,hn=>absurd h hn
 | d::q,x,hx,h,hn=>by
  obtain⟨_,e,g,he,hg,z⟩:=h
  rcases z with ⟨z1,rfl⟩ | ⟨z1,z2⟩
  ·exact⟨[],d,x,rfl,rfl,e,g,he,hg,.inl z1⟩
  ·by_cases hX:X e.1 g.1
   ·cases q with
    | nil=>exact⟨[],d,x,rfl,rfl,e,g,he,hg,.inr hX⟩
    | cons c q=>exact absurd hX z2.1
   ·obtain⟨l1,l2,l3⟩:=prod_lt fU fV he hg
    obtain⟨u,c,y,h1,h2,h3⟩:=kVt fU fV q (e.1*V.length+g.1) l1 (by rw[l2,l3];exact z2) (by rw[l2,l3];exact hX)
    exact⟨d::u,c,y,by rw[h1];rfl,⟨_,_,en_prod hx he hg,h2⟩,h3⟩
structure Wk (X:Nat->Nat->Prop) (U V:Web) (a b i j:Nat) (P:List PE):Prop where
 tr:Tr (prodW U V) (a*V.length+b) i j P
 go:∀q,q∈P->q.1<U.length*V.length/\Go X U V q.2.2 a b (q.1 / V.length) (q.1%V.length)
 ok:∀(k:Nat) (q:PE) (d:Nat),(k<i\/(k=i/\d<j))->P[k]? =some q->¬ Bad X U V (q.1 / V.length) (q.1%V.length) d
theorem wk_start {X:Nat->Nat->Prop} {U V:Web} {a b:Nat} (ha:a<U.length) (hb:b<V.length) (h:¬ X a b):Wk X U V a b 0 0 [(a*V.length+b,none,[])] where
 tr:=tr_start
 go:=fun q hq=>by
  rw[(lJk.mp hq)]
  obtain⟨d1,d2⟩:=dm (e:=a) hb
  refine⟨?_,by rw[d1,d2];exact⟨rfl,rfl,h⟩⟩
  calc a*V.length+b<a*V.length+V.length:=by omega
   _=(a+1)*V.length:=by rw[Nat.add_mul,Nat.one_mul]
   _<=U.length*V.length:=lK5 _ ha
 ok:=fun k q d h=>by omega
theorem Wk.ok_step {X:Nat->Nat->Prop} {U V:Web} {a b i j:Nat} {P:List PE} {x:PE} (w:Wk X U V a b i j P) (hx:P[i]? =some x) (hb:¬ Bad X U V (x.1 / V.length) (x.1%V.length) j):∀(k:Nat) (q:PE) (d:Nat),(k<i\/(k=i/\d<j+1))->P[k]? =some q->¬ Bad X U V (q.1 / V.length) (q.1%V.length) d:=by
 intro k q d h hq
 by_cases z:k=i/\d=j
 ·obtain⟨rfl,rfl⟩:=z
  rw[hx] at hq;cases hq;exact hb
 ·exact w.ok k q d (by omega) hq
theorem Wk.skip {X:Nat->Nat->Prop} {U V:Web} {a b i j:Nat} {P:List PE} {x:PE} {e g:Nat×Nat} (w:Wk X U V a b i j P) (hx:P[i]? =some x) (he:en U (x.1 / V.length) j=some e) (hg:en V (x.1%V.length) j=some g) (hb:¬ Bad X U V (x.1 / V.length) (x.1%V.length) j) (hy:e.1*V.length+g.1∈P.map Prod.fst):Wk X U V a b i (j+1) P where
 tr:=w.tr.skip hx (en_prod (w.go x (lJe hx)).1 he hg) hy
 go:=w.go
 ok:=w.ok_step hx hb
theorem Wk.add {X:Nat->Nat->Prop} {U V:Web} (fU:Fine U) (fV:Fine V) {a b i j:Nat} {P:List PE} {x:PE} {e g:Nat×Nat} (w:Wk X U V a b i j P) (hx:P[i]? =some x) (he:en U (x.1 / V.length) j=some e) (hg:en V (x.1%V.length) j=some g) (hb:¬ Bad X U V (x.1 / V.length) (x.1%V.length) j) (hy:e.1*V.length+g.1∉P.map Prod.fst):Wk X U V a b i (j+1) (P++[(e.1*V.length+g.1,some (x.1,j),x.2.2++[j])]) where
 tr:=w.tr.add hx (en_prod (w.go x (lJe hx)).1 he hg) hy
 go:=fun q hq=>by
  rcases (lJt.mp hq) with hq | hq
  ·exact w.go q hq
  ·rw[lJk.mp hq]
   obtain⟨l1,l2,l3⟩:=prod_lt fU fV he hg
   refine⟨l1,?_⟩
   show Go X U V (x.2.2++[j]) a b ((e.1*V.length+g.1) / V.length) ((e.1*V.length+g.1)%V.length)
   rw[l2,l3]
   refine go_snoc he hg (lKg fun z=>hb ⟨e,g,he,hg,.inl z⟩) (fun z=>hb ⟨e,g,he,hg,.inr z⟩) (w.go x (lJe hx)).2
 ok:=fun k q d h hq=>by
  have hi:i<P.length:=(lJa.mp hx).1
  rw[lJ0 (by omega)] at hq
  exact w.ok_step hx hb k q d h hq
theorem Wk.next {X:Nat->Nat->Prop} {U V:Web} {a b i n:Nat} {P:List PE} {x:PE} (w:Wk X U V a b i n P) (hx:P[i]? =some x) (hn:(row U (x.1 / V.length)).length<=n):Wk X U V a b (i+1) 0 P where
 tr:=w.tr.next hx fun d e h=>by
  obtain⟨e',g,h1,_⟩:=en_prod_inv (j:=e.2) (y:=e.1) h
  rw[kK9] at h1
  have:=(lJa.mp h1).1
  omega
 go:=w.go
 ok:=fun k q d h hq=>by
  by_cases z:k=i
  ·subst z
   rw[hx] at hq;cases hq
   by_cases y:d<n
   ·exact w.ok k x d (.inr ⟨rfl,y⟩) hx
   ·rintro⟨e,g,h1,_⟩
    rw[kK9] at h1
    have:=(lJa.mp h1).1
    omega
  ·exact w.ok k q d (by omega) hq
theorem Wk.seen {X:Nat->Nat->Prop} {U V:Web} {a b i j:Nat} {P:List PE} {x:PE} (w:Wk X U V a b i j P) (hx:P[i]? =some x):∀(n:Nat) (u:List Nat) (d y:Nat),u.length=n->kX0 (prodW U V) (a*V.length+b) u y->slt (u++[d]) (x.2.2++[j])->∃(k:Nat) (q:PE),(k<i\/(k=i/\d<j))/\P[k]? =some q/\q.1=y/\sle q.2.2 u:=by
 intro n
 have place:∀(u:List Nat) (d y:Nat) (q:PE),q∈P->q.1=y->sle q.2.2 u->slt (u++[d]) (x.2.2++[j])->∃(k:Nat) (q:PE),(k<i\/(k=i/\d<j))/\P[k]? =some q/\q.1=y/\sle q.2.2 u:=by
  intro u d y q hq h1 h2 h3
  obtain⟨k,hk⟩:=lJq hq
  refine⟨k,q,?_,hk,h1,h2⟩
  have h4:slt (q.2.2++[d]) (x.2.2++[j]):=by
   rcases kVh (d:=d) h2 with z | z
   ·rw[z];exact h3
   ·exact jX5 z h3
  rcases lQd k i with z | z | z
  ·exact .inl z
  ·subst z
   rw[hx] at hk;cases hk
   refine .inr ⟨rfl,?_⟩
   rcases lQd d j with y | y | y
   ·exact y
   ·subst y;exact (slt_irr h4).elim
   ·exact (slt_irr (jX5 h4 (slt_last y))).elim
  ·exact (slt_irr (jX5 h4 (kVf (w.tr.inc i k x q z hx hk)))).elim
 induction n with
 | zero=>
  intro u d y hn hl h
  have:u=[]:=lKq.mp hn
  subst this
  exact place [] d y _ (lJe w.tr.zero) (show a*V.length+b=y from hl) (.inl rfl) h
 | succ n ih=>
  intro u d y hn hl h
  rcases List.eq_nil_or_concat u with rfl | ⟨u',c,rfl⟩
  ·simp at hn
  ·rw[List.concat_eq_append] at hl hn h ⊢
   obtain⟨z,m,h1,h2⟩:=jZ9 hl
   have h3:slt (u'++[c]) (x.2.2++[j]):=jX5 (.inl (by simp)) h
   obtain⟨k,q,hk,hq,rfl,hs⟩:=ih u' c z (by simpa using hn) h1 h3
   obtain⟨q',a1,a2,a3⟩:=w.tr.cl k q c y m hk hq h2
   exact place _ d y q' a1 a2 (sle_trans a3 (kVh hs)) h
noncomputable def Lst (X:Nat->Nat->Prop) (U V:Web) (a b:Nat):Option (List Nat)->Prop
 | none=>∀p,¬ PX X U V p a b
 | some p=>PX X U V p a b/\∀q,PX X U V q a b->sle p q
theorem Wk.found {X:Nat->Nat->Prop} {U V:Web} (fU:Fine U) (fV:Fine V) {a b i j:Nat} {P:List PE} {x:PE} (ha:a<U.length) (hb:b<V.length) (w:Wk X U V a b i j P) (hx:P[i]? =some x) (hbad:Bad X U V (x.1 / V.length) (x.1%V.length) j):Lst X U V a b (some (x.2.2++[j])):=by
 refine⟨go_px hbad (w.go x (lJe hx)).2,fun p hp=> ?_⟩
 obtain⟨d1,d2⟩:=dm (e:=a) hb
 have h0:=(w.go _ (lJe w.tr.zero))
 rw[d1,d2] at h0
 obtain⟨u,d,y,rfl,hl,hB⟩:=kVt fU fV p (a*V.length+b) h0.1 (by rw[d1,d2];exact hp) (by rw[d1,d2];exact h0.2.2.2)
 by_cases z:slt (u++[d]) (x.2.2++[j])
 ·obtain⟨k,q,hk,hq,rfl,_⟩:=w.seen hx _ u d y rfl hl z
  exact absurd hB (w.ok k q d hk hq)
 ·rcases slt_tri (x.2.2++[j]) (u++[d]) with h | h | h
  ·exact .inr h
  ·exact .inl h
  ·exact absurd h z
theorem Wk.none {X:Nat->Nat->Prop} {U V:Web} (fU:Fine U) (fV:Fine V) {a b:Nat} {P:List PE} (ha:a<U.length) (hb:b<V.length) (w:Wk X U V a b P.length 0 P):Lst X U V a b none:=by
 intro p hp
 obtain⟨d1,d2⟩:=dm (e:=a) hb
 have h0:=(w.go _ (lJe w.tr.zero))
 rw[d1,d2] at h0
 obtain⟨u,d,y,rfl,hl,hB⟩:=kVt fU fV p (a*V.length+b) h0.1 (by rw[d1,d2];exact hp) (by rw[d1,d2];exact h0.2.2.2)
 obtain⟨q,hq,rfl,_⟩:=w.tr.all _ u y rfl hl
 obtain⟨k,hk⟩:=lJq hq
 exact w.ok k q d (.inl (lJa.mp hk).1) hk hB
theorem Wk.len {X:Nat->Nat->Prop} {U V:Web} {a b i j:Nat} {P:List PE} (w:Wk X U V a b i j P):P.length<=U.length*V.length:=by
 have:=jQs w.tr.nd (n:=U.length*V.length) fun y hy=>by
  obtain⟨q,hq,rfl⟩:=lJp.mp hy
  exact (w.go q hq).1
 simpa using this
theorem Wk.wlen {X:Nat->Nat->Prop} {U V:Web} {a b i' j':Nat} {P:List PE} (w:Wk X U V a b i' j' P):∀(i:Nat) (p:PE),P[i]? =some p->p.2.2.length<=i:=by
 intro i
 induction i using Nat.strongRecOn with
 | ind i ih=>
  intro p hp
  rcases w.tr.par p (lJe hp) with rfl | ⟨k,q,d,_,hq,_,e⟩
  ·simp
  ·rw[e,lJo]
   have hki:k<i:=by
    rcases lQd k i with z | z | z
    ·exact z
    ·subst z
     rw[hp] at hq;cases hq
     have:=congrArg List.length e
     simp at this
    ·have:=w.tr.inc i k p q z hp hq
     rw[e] at this
     rcases this with this | ⟨this,_⟩<;>simp at this
     omega
   have:=ih k hki q hq
   simp;omega
noncomputable def wayT (p:List Nat):T:= .tup (jJl p)
noncomputable def oWay:Option (List Nat)->T
 | none=> .non
 | some p=>wayT p
theorem eqG_tups {G:Gp} {a b:List Nat}:eqG G (.tup (jJl a)) (.tup (jJl b))=some (decide (a=b)):=by
 have ok:∀w:List Nat,eqOk (.tup (jJl w))=true:=fun w=>by
  obtain⟨a1,a2,a3⟩:=okI w
  unfold eqOk
  rw[show tree (.tup (jJl w))=true from a1,show (td (.tup (jJl w))).canLay0=true by rw[td,PyData.canLay0];exact a2,decide_eq_true (show (td (.tup (jJl w))).depth<=50 by rw[td,PyData.depth];omega)];rfl
 show (if eqOk (.tup (jJl a))=true/\eqOk (.tup (jJl b))=true then some (eqTs (jJl a) (jJl b)) else none)=_
 rw[if_pos ⟨ok a,ok b⟩,show jJl a=a.map (fun x=>T.int (x:Nat)) from rfl,show jJl b=b.map (fun x=>T.int (x:Nat)) from rfl,jXx kJe]
noncomputable def jX1 (st:Bool) (w:Web) (f:Nat) (e:Nat×Nat):List Nat:=if st=true then [e.2,(row w e.1).length,if e.1=f then 1 else 0] else [e.2,(row w e.1).length]
noncomputable def jUh:Sp3:=fun xs G Q=>∃(w:Web) (f:Nat) (e:Nat×Nat) (st:Bool),xs=[encW w,.int f,encE e,.bl st]/\e.1<w.length/\w.length<=1000/\(∀(r:Nat) (es:List (Nat×Nat)),w[r]? =some es->es.length<=1000)/\∀G',Sub G G'->Q (.tup (jJl (jX1 st w f e))) G'
noncomputable def N_look:List Str:=["web","first","end","stone"]
noncomputable def kKm:TS3:=
 (tSeq (tIfS (tTru rTru (tVar 3)) (tRet (tTup (jJb (tOp rIxF (tVar 2) (tC (.int 1))) (jJb (tCB rLen (jJb (tOp rIxF (tVar 0) (tOp rIxF (tVar 2) (tC (.int 0)))) tNil)) (jJb (tIf (jJ7 (tOp rEqA (tOp rIxF (tVar 2) (tC (.int 0))) (tVar 1))) (tC (.int 1)) (tC (.int 0))) tNil))))) jQc)
 (tRet (tTup (jJb (tOp rIxF (tVar 2) (tC (.int 1))) (jJb (tCB rLen (jJb (tOp rIxF (tVar 0) (tOp rIxF (tVar 2) (tC (.int 0)))) tNil)) tNil)))))
theorem rdok_look:∀xs G Q,jUh xs G Q->kKm {nx:=fun _ G'=>Q .non G',rt:=Q} (jJk N_look xs) G:=by
 intro xs G Q h_;apply xe4 h_;clear h_;intro w f e st h_;apply ae4 h_;clear h_;intro he hw hd kk
 rw[show jJk N_look [encW w,.int f,encE e,.bl st]=[some (encW w),some (.int f),some (encE e),some (.bl st)] from rfl]
 have hs:=sz
 obtain⟨es,h1⟩:∃es,w[e.1]? =some es:=⟨_,lJc he⟩
 have h2:=hd _ _ h1
 have hk:=kk G (.refl G)
 rw[jX1,row,h1] at hk
 cases st with
 | false=>
  wp_walk using 1,kKm,encE,encW
  refine⟨encR es,L2.atI_nat (by rw[lJj,h1];rfl),es.map encE,rfl,by omega,?_⟩
  simpa[jJl] using hk
 | true=>
  wp_walk using 1,kKm,encE,encW,rEqA
  refine⟨encR es,L2.atI_nat (by rw[lJj,h1];rfl),es.map encE,rfl,?_⟩
  refine⟨decide (e.1=f),kJf,?_⟩
  by_cases z:e.1=f
  ·rw[if_pos (decide_eq_true z)]
   rw[if_pos z] at hk
   exact⟨by omega,by simpa[jJl] using hk⟩
  ·rw[if_neg (by simpa using z)]
   rw[if_neg z] at hk
   exact⟨by omega,by simpa[jJl] using hk⟩
theorem go_end {X:Nat->Nat->Prop} {U V:Web} {r s:Nat}:∀ {u:List Nat} {a b:Nat},Go X U V u a b r s->¬ X r s
 | [],_,_,h=>by obtain⟨rfl,rfl,h⟩:=h;exact h
 | _::_,_,_,h=>by obtain⟨_,_,_,_,_,_,h⟩:=h;exact go_end h
theorem add_way {G:Gp} {u:List Nat} {j:Nat} {Q:VK3} (h:u.length+1<=sizeLine) (q:Q (wayT (u++[j])) G):jZ2 (.tup (jJl u)) (.tup [.int (j:Nat)]) G Q:=by
 cases u with
 | nil=>exact .inr ⟨[.int j],rfl,rfl,q⟩
 | cons c u=>
  refine .inl ⟨.val (wayT (c::u++[j])),?_,q⟩
  have:u.length+1+1<=sizeLine:=h
  simp[addR,jJl,wayT,this]
def XS (st:Bool) (U V:Web) (a b r s:Nat):Prop:=(row U r).length≠(row V s).length\/(st=true/\¬ (r=a↔s=b))
theorem XS_start {st:Bool} {U V:Web} {a b:Nat}:XS st U V a b a b↔(row U a).length≠(row V b).length:=by simp[XS]
theorem XS_false {U V:Web} {a b:Nat}:XS false U V a b=XL U V:=by
 funext r s;simp[XS,XL]
theorem look_eq {st:Bool} {U V:Web} {a b:Nat} {e g:Nat×Nat}:jX1 st U a e=jX1 st V b g↔¬ (e.2≠g.2\/XS st U V a b e.1 g.1):=by
 unfold jX1 XS
 cases st with
 | false=>simp
 | true=>
  by_cases z:e.1=a<;>by_cases y:g.1=b<;>simp[z,y]
noncomputable def prs (n:Nat) (p:PE):Nat×Nat:=(p.1 / n,p.1%n)
noncomputable def pkv (n:Nat) (P:List PE):List (L2.TKey×T):=P.map fun p=>(keyE (prs n p),T.bl true)
noncomputable def lvT (n:Nat) (p:PE):T:= .tup [encE (prs n p),wayT p.2.2]
theorem valT_someG {K:Type} [DecidableEq K] {kvs:List (K×T)} {k:K}:(valT kvs k).isSome=true↔k∈kvs.map Prod.fst:=by
 unfold valT
 rw[Option.isSome_map,List.find?_isSome,lJp]
 exact⟨fun ⟨a,h1,h2⟩=>⟨a,h1,by simpa using h2⟩,fun ⟨a,h1,h2⟩=>⟨a,h1,by simpa using h2⟩⟩
theorem pkv_mem {n r s:Nat} {P:List PE} (hs:s<n):keyE (r,s)∈(pkv n P).map Prod.fst↔r*n+s∈P.map Prod.fst:=by
 rw[pkv,lJr,lJp,lJp]
 constructor
 ·rintro⟨p,hp,e⟩
  have:=kXm e
  refine⟨p,hp,?_⟩
  have h1:p.1 / n=r:=congrArg Prod.fst this
  have h2:p.1%n=s:=congrArg Prod.snd this
  rw[<-h1,<-h2,Nat.mul_comm];exact (Nat.div_add_mod p.1 n).symm
 ·rintro⟨p,hp,e⟩
  refine⟨p,hp,?_⟩
  obtain⟨d1,d2⟩:=dm (e:=r) hs
  show keyE (p.1 / n,p.1%n)=_
  rw[e,d1,d2]
theorem dicE:Dic (fun kvs=> .dct kvs) keyE (fun e:Nat×Nat=>T.tup [.int e.1,.int e.2]):=dicT (fun _ _ h=>kXm h) (fun _=>jYo)
noncomputable def jJ4:Sp3:=fun xs G Q=>∃(U V:Web) (a b:Nat) (st:Bool),xs=[encW U,.int a,encW V,.int b,.bl st]/\Fine U/\Fine V/\a<U.length/\b<V.length/\U.length*V.length<=5000/\∀o d P G',Lst (XS st U V a b) U V a b o->G d=none->G' d=some (.dct (pkv V.length P))->(o=none->Wk (XS st U V a b) U V a b P.length 0 P)->(∀p,o=some p->p.length<=U.length*V.length)->Sub G G'->Q (.tup [oWay o,.ref d]) G'
noncomputable def jZr:List Str:=["one","a","other","b","stone","pairs","level","further","pair","way","door","left","right","come_to"]
noncomputable def jUx:TS3:=
 (tSeq (tAsg (tDisp1T (tTup (jJb (tVar 1) (jJb (tVar 3) tNil))) (tC (.bl true))) (jJj 5))
 (tSeq (tIfS (jJ7 (tOp rNeA (tCB rLen (jJb (tOp rIxF (tVar 0) (tVar 1)) tNil)) (tCB rLen (jJb (tOp rIxF (tVar 2) (tVar 3)) tNil)))) (tRet (tTup (jJb (tTup tNil) (jJb (tVar 5) tNil)))) jQc)
 (tSeq (tAsg (tLst (jJb (tTup (jJb (tTup (jJb (tVar 1) (jJb (tVar 3) tNil))) (jJb (tTup tNil) tNil))) tNil)) (jJj 6))
 (tSeq (jVq (tTru rTru (tVar 6)) (tSeq (tAsg (tLst tNil) (jJj 7))
 (tSeq (tFor (iSeq (tVar 6)) (gTup 2 (jKg (jJj 8) (jKg (jJj 9) gNil))) (tFor (iEnT (jJb (tOp rIxF (tVar 0) (tOp rIxF (tVar 8) (tC (.int 0)))) tNil)) (gTup 2 (jKg (jJj 10) (jKg (jJj 11) gNil))) (tSeq (tAsg (tOp rIxF (tOp rIxF (tVar 2) (tOp rIxF (tVar 8) (tC (.int 1)))) (tVar 10)) (jJj 12))
 (tSeq (tIfS (jJ7 (tOp rNeA (jJw jUh (jJb (tVar 0) (jJb (tVar 1) (jJb (tVar 11) (jJb (tVar 4) tNil))))) (jJw jUh (jJb (tVar 2) (jJb (tVar 3) (jJb (tVar 12) (jJb (tVar 4) tNil))))))) (tRet (tTup (jJb (tOp jZ2 (tVar 9) (tTup (jJb (tVar 10) tNil))) (jJb (tVar 5) tNil)))) jQc)
 (tSeq (tAsg (tTup (jJb (tOp rIxF (tVar 11) (tC (.int 0))) (jJb (tOp rIxF (tVar 12) (tC (.int 0))) tNil))) (jJj 13))
 (tIfS (jJ7 (tOp jVb (tVar 13) (tVar 5))) (tSeq (tAsg (tC (.bl true)) (gSub (tVar 5) (tVar 13) jXr))
 (jQl (tBM "list" jK3 (tVar 7) (jJb (tTup (jJb (tVar 13) (jJb (tOp jZ2 (tVar 9) (tTup (jJb (tVar 10) tNil))) tNil))) tNil)))) jQc))))))
 (tAsg (tVar 7) (jJj 6)))))
 (tRet (tTup (jJb (tC .non) (jJb (tVar 5) tNil))))))))
theorem kJl:∀xs G Q,jJ4 xs G Q->jUx {nx:=fun _ G'=>Q .non G',rt:=Q} (jJk jZr xs) G:=by
 intro xs G Q h_;apply xe5 h_;clear h_;intro U V a b st h_;apply ae6 h_;clear h_;intro fU fV ha hb huv kk
 rw[show jJk jZr [encW U,.int a,encW V,.int b,.bl st]=[some (encW U),some (.int a),some (encW V),some (.int b),some (.bl st),none,none,none,none,none,none,none,none,none] from rfl]
 have hs:=sz
 obtain⟨es,hU⟩:∃es,U[a]? =some es:=⟨_,lJc ha⟩
 obtain⟨fs,hV⟩:∃fs,V[b]? =some fs:=⟨_,lJc hb⟩
 have hul:=fU.row _ _ hU
 have hvl:=fV.row _ _ hV
 wp_walk using 1,jUx,jVq,jJ6,tDisp1T,iSeq,iEnT,encW,rNeA
 intro d hd
 refine⟨by omega,keyE (a,b),jYo,encR es,jUl hU,es.map encE,rfl,encR fs,jUl hV,fs.map encE,rfl,?_⟩
 simp only[lJb]
 refine⟨decide (es.length=fs.length),kJf,?_⟩
 have hX:XS st U V a b a b↔es.length≠fs.length:=by rw[XS_start,jUe hU,jUe hV]
 by_cases hX0:¬ es.length=fs.length
 ·rw[if_pos (by simpa using hX0)]
  refine⟨by omega,by omega,kk (some []) d [(a*V.length+b,none,[])] _ ⟨hX.mpr hX0,fun q hq=> ?_⟩ hd ?_ (fun z=>by cases z) (fun p z=>by cases z;exact lJg _) (.new hd)⟩
  ·cases q with
   | nil=>exact .inl rfl
   | cons c q=>exact .inr (.inl (by simp))
  ·rw[jJg];simp[pkv,prs,dm hb]
 replace hX0:=Decidable.not_not.mp hX0
 rw[if_neg (by simpa using hX0)]
 refine⟨by omega,by omega,by omega,by omega,fun l hl0=> ?_⟩
 have hdl:d≠l:=jJd jJg hl0
 have wk0:Wk (XS st U V a b) U V a b 0 0 [(a*V.length+b,none,[])]:=wk_start ha hb (fun z=>hX.mp z hX0)
 let J1:Nat->St3->Gp->Prop:=fun m τ G'=>∃(i:Nat) (l:Addr) (v7 v8 v9 v10 v11 v12 v13:Option T) (P:List PE),τ=[some (.tup (U.map encR)),some (.int a),some (.tup (V.map encR)),some (.int b),some (.bl st),some (.ref d),some (.ref l),v7,v8,v9,v10,v11,v12,v13]/\d≠l/\G l=none/\G' d=some (.dct (pkv V.length P))/\Wk (XS st U V a b) U V a b i 0 P/\G' l=some (.lst ((P.drop i).map (lvT V.length)))/\i<=P.length/\Sub G G'/\m=U.length*V.length-i
 refine⟨J1,?_,?_⟩
 ·refine⟨_,xi10 0 l none none none none none none none _ rfl ⟨hdl,?_,?_,wk0,?_,lJg _,(Sub.new hd).trans (.new hl0),rfl⟩⟩
  ·rw[jJi hdl.symm] at hl0;exact hl0
  ·rw[jJi hdl,jJg];simp[pkv,prs,dm hb]
  ·rw[jJg];simp[lvT,prs,dm hb,encE,wayT,jJl]
 intro m τ G1 h_;apply xe10 h_;clear h_;intro i l v7 v8 v9 v10 v11 v12 v13 P h_;apply ae8 h_;clear h_;intro hdl hl0 h1 hW h2 hiP hs1 e7_
 subst e7_
 have hPl:=hW.len
 wp_walk using 1,h2
 split
 ·rename_i hne
  have hiP':i<P.length:=by
   rcases lJw i P.length with z | z
   ·exact z
   ·rw[List.drop_of_length_le z] at hne;simp at hne
  let J2:St3->Gp->Prop:=fun τ' G'=>∃(l':Addr) (v7 v8 v9 v10 v11 v12 v13:Option T) (P':List PE),τ'=[some (.tup (U.map encR)),some (.int a),some (.tup (V.map encR)),some (.int b),some (.bl st),some (.ref d),some (.ref l'),v7,v8,v9,v10,v11,v12,v13]/\d≠l'/\G l'=none/\G' d=some (.dct (pkv V.length P'))/\Wk (XS st U V a b) U V a b P.length 0 P'/\G' l'=some (.lst ((P'.drop P.length).map (lvT V.length)))/\P.length<=P'.length/\Sub G G'
  refine⟨J2,?_,by omega,fun p hp=> ?_⟩
  ·intro τ' G' h_;apply xe9 h_;clear h_;intro l' v7 v8 v9 v10 v11 v12 v13 P' h_;apply ae7 h_;clear h_;intro i1 i2 i3 i4 i5 i6 i7
   exact⟨_,by omega,xi10 P.length l' v7 v8 v9 v10 v11 v12 v13 P' rfl ⟨i1,i2,i3,i4,i5,i6,i7,rfl⟩⟩
  ·have hpd:d≠p:=jJd h1 hp
   have hpl:l≠p:=jJd h2 hp
   have hp0:=sub_none hs1 hp
   refine⟨(P.drop i).map (lvT V.length),jJp (by rw[jJi hpl];exact h2),?_⟩
   let J3:Nat->St3->Gp->Prop:=fun k τ G'=>∃(v8 v9 v10 v11 v12 v13:Option T) (P':List PE),τ=[some (.tup (U.map encR)),some (.int a),some (.tup (V.map encR)),some (.int b),some (.bl st),some (.ref d),some (.ref l),some (.ref p),v8,v9,v10,v11,v12,v13]/\G' d=some (.dct (pkv V.length P'))/\Wk (XS st U V a b) U V a b (i+k) 0 P'/\G' l=some (.lst ((P.drop i).map (lvT V.length)))/\G' p=some (.lst ((P'.drop P.length).map (lvT V.length)))/\(∃E,P'=P++E)/\Sub G G'
   refine⟨J3,?_,?_,?_,?_⟩
   ·exact xi7 v8 v9 v10 v11 v12 v13 P rfl ⟨by rw[jJi hpd];exact h1,hW,by rw[jJi hpl];exact h2,by rw[List.drop_length];exact jJg,⟨[],by simp⟩,hs1.trans (.new hp)⟩
   ·intro k τ G' hi h_;apply xe7 h_;clear h_;intro v8 v9 v10 v11 v12 v13 P' h_;apply ae6 h_;clear h_;intro j1 jW j2 j3 jE js
    exact jJp j2
   ·intro k y τ G2 hy h_;apply xe7 h_;clear h_;intro v8 v9 v10 v11 v12 v13 P' h_;apply ae6 h_;clear h_;intro j1 jW j2 j3 q4_ js
    obtain⟨E,jE⟩:=q4_
    obtain⟨x,hx,rfl⟩:=jQ5 hy
    rw[List.getElem?_drop] at hx
    have hik:i+k<P.length:=(lJa.mp hx).1
    have hx':P'[i+k]? =some x:=by rw[jE,lJ0 hik];exact hx
    obtain⟨gx1,gx2⟩:=jW.go x (lJe hx')
    have hV0:0<V.length:=by omega
    have hrU:x.1 / V.length<U.length:=Nat.div_lt_of_lt_mul (by rw[Nat.mul_comm];exact gx1)
    have hrV:x.1%V.length<V.length:=Nat.mod_lt _ hV0
    obtain⟨es2,hU2⟩:∃es,U[x.1 / V.length]? =some es:=⟨_,lJc hrU⟩
    obtain⟨fs2,hV2⟩:∃fs,V[x.1%V.length]? =some fs:=⟨_,lJc hrV⟩
    have hlen2:es2.length=fs2.length:=by
     have:=go_end gx2
     rw[XS,jUe hU2,jUe hV2] at this
     exact lKg fun z=>this (.inl z)
    have hul2:=fU.row _ _ hU2
    wp_walk using 1,lvT,prs,encE,wayT,iEnT,jUl hU2,encR,jJ6
    let J4:Nat->St3->Gp->Prop:=fun j τ G'=>∃(v10 v11 v12 v13:Option T) (P2:List PE),τ=[some (.tup (U.map encR)),some (.int a),some (.tup (V.map encR)),some (.int b),some (.bl st),some (.ref d),some (.ref l),some (.ref p),some (.tup [.int (x.1 / V.length:Nat),.int (x.1%V.length:Nat)]),some (.tup (jJl x.2.2)),v10,v11,v12,v13]/\G' d=some (.dct (pkv V.length P2))/\Wk (XS st U V a b) U V a b (i+k) j P2/\G' l=some (.lst ((P.drop i).map (lvT V.length)))/\G' p=some (.lst ((P2.drop P.length).map (lvT V.length)))/\(∃E,P2=P++E)/\Sub G G'
    refine⟨J4,?_,?_,?_,?_⟩
    ·exact xi5 v10 v11 v12 v13 P' rfl ⟨j1,jW,j2,j3,⟨E,jE⟩,js⟩
    ·intros;trivial
    ·intro j y τ G3 hy h_;apply xe5 h_;clear h_;intro v10 v11 v12 v13 P2 h_;apply ae6 h_;clear h_;intro q1 qW q2 q3 q4_ q5
     obtain⟨E2,qE⟩:=q4_
     obtain⟨z,hz,rfl⟩:=kVy hy
     obtain⟨e,he,rfl⟩:=jQ5 hz
     have hj:j<fs2.length:=by have:=(lJa.mp he).1;omega
     obtain⟨g,hg⟩:∃g,fs2[j]? =some g:=⟨_,lJc hj⟩
     have hx2:P2[i+k]? =some x:=by rw[qE,lJ0 hik];exact hx
     have hee:en U (x.1 / V.length) j=some e:=jVo hU2 he
     have hge:en V (x.1%V.length) j=some g:=jVo hV2 hg
     have he1:=fU.rng _ _ e.1 e.2 hee
     have hg1:=fV.rng _ _ g.1 g.2 hge
     have hP2:=qW.len
     have hwl:=qW.wlen _ _ hx2
     have hkl:(pkv V.length P2).length=P2.length:=by simp[pkv]
     have hgat:L2.atI (fs2.map encE) (j:Int)=some (encE g):=L2.atI_nat (by rw[lJj,hg];rfl)
     have heE:encE e= .tup [.int e.1,.int e.2]:=rfl
     wp_walk using 1,rNeA,jUl hV2,encR,hgat,jUh
     refine⟨U,rfl,a,rfl,e,rfl,he1,fU.len,fU.row,fun G4 s4=>⟨V,rfl,b,rfl,g,rfl,hg1,fV.len,fV.row,fun G5 s5=>⟨_,eqG_tups,?_⟩⟩⟩
     have s35:=s4.trans s5
     have q1':=s35 _ _ q1
     have q2':=s35 _ _ q2
     have q3':=s35 _ _ q3
     have q5':=q5.trans s35
     have hbad:Bad (XS st U V a b) U V (x.1 / V.length) (x.1%V.length) j↔¬ jX1 st U a e=jX1 st V b g:=by
      rw[look_eq,Classical.not_not]
      constructor
      ·rintro⟨e',g',z1,z2,z⟩
       rw[hee] at z1;rw[hge] at z2
       cases z1;cases z2;exact z
      ·exact fun z=>⟨e,g,hee,hge,z⟩
     by_cases hlk:jX1 st U a e=jX1 st V b g
     ·rw[if_neg (by simp[hlk])]
      have hin:=dicE.has G5 d _ (e.1,g.1) q1'
      have hmem:=pkv_mem (r:=e.1) (P:=P2) hg1
      rw[<-valT_someG] at hmem
      refine⟨.int e.1,rfl,.int g.1,rfl,by omega,_,hin,_,rfl,?_⟩
      by_cases hm:e.1*V.length+g.1∈P2.map Prod.fst
      ·rw[if_neg (by simp[hmem.mpr hm])]
       exact xi5 _ _ _ _ P2 rfl ⟨q1',qW.skip hx2 hee hge (fun z=>hbad.mp z hlk) hm,q2',q3',⟨E2,qE⟩,q5'⟩
      ·have hnn:valT (pkv V.length P2) (keyE (e.1,g.1))=none:=by
        cases hv:valT (pkv V.length P2) (keyE (e.1,g.1)) with
        | none=>rfl
        | some t=>exact absurd (hmem.mp (by rw[hv];rfl)) hm
       rw[if_pos (by simp[hnn])]
       have hgp:gup G5 d (.dct (putT (pkv V.length P2) (keyE (e.1,g.1)) (.bl true))) p=some (.lst ((P2.drop P.length).map (lvT V.length))):=by rw[jJi hpd.symm];exact q3'
       refine⟨_,dicE.put G5 d _ (e.1,g.1) _ q1' (by omega),by rw[jK2 hgp];trivial,by omega,add_way (by omega) ?_⟩
       refine⟨by omega,_,hgp,by simp;omega,xi5 _ _ _ _ (P2++[(e.1*V.length+g.1,some (x.1,j),x.2.2++[j])]) rfl ⟨?_,?_,?_,?_,?_,?_⟩⟩
       ·rw[jJi hpd,jJg,putT_none hnn,pkv,pkv,lJu]
        simp[prs,dm hg1]
       ·exact qW.add fU fV hx2 hee hge (fun z=>hbad.mp z hlk) hm
       ·rw[jJi hpl,jJi hdl.symm];exact q2'
       ·rw[jJg,List.drop_append_of_le_length (by rw[qE,lJo];omega)]
        simp[lvT,prs,dm hg1,encE]
       ·exact⟨E2++[(e.1*V.length+g.1,some (x.1,j),x.2.2++[j])],by rw[qE,lKl]⟩
       ·exact (q5'.over hd).over hp0
     ·rw[if_pos (by simpa using hlk)]
      refine⟨by omega,add_way (by omega) ?_⟩
      exact⟨by omega,kk (some (x.2.2++[j])) d P2 G5 (qW.found fU fV ha hb hx2 (hbad.mpr hlk)) hd q1' (fun z=>by cases z) (fun p z=>by cases z;have z1:=qW.wlen _ _ hx2;have z2:=qW.len;have z3:=(lJa.mp hx2).1;rw[lJo];show x.2.2.length+1<=_;omega) q5'⟩
    ·intro τ G3 h_;apply xe5 h_;clear h_;intro v10 v11 v12 v13 P2 h_;apply ae6 h_;clear h_;intro q1 qW q2 q3 qE q5
     rw[jJ9,lJb] at qW
     obtain⟨E2,qE⟩:=qE
     have hx2:P2[i+k]? =some x:=by rw[qE,lJ0 hik];exact hx
     exact xi7 _ _ _ _ _ _ P2 rfl ⟨q1,qW.next hx2 (by rw[jUe hU2];exact lJd _),q2,q3,⟨E2,qE⟩,q5⟩
   ·intro τ G2 h_;apply xe7 h_;clear h_;intro v8 v9 v10 v11 v12 v13 P' h_;apply ae6 h_;clear h_;intro j1 jW j2 j3 q4_ js
    obtain⟨E,jE⟩:=q4_
    have hlen:((P.drop i).map (lvT V.length)).length=P.length-i:=by simp
    rw[hlen,show i+(P.length-i)=P.length by omega] at jW
    wp_walk using 1,tSeq
    exact xi9 p _ _ _ _ _ _ _ P' rfl ⟨hpd,hp0,j1,jW,j3,by rw[jE,lJo];omega,js⟩
 ·rename_i hne
  have he:P.length<=i:=by
   have:(P.drop i).map (lvT V.length)=[]:=by simpa using hne
   have:=congrArg List.length this
   simp at this;omega
  have e:i=P.length:=by omega
  subst e
  exact⟨by omega,kk none d P G1 (hW.none fU fV ha hb) hd h1 (fun _=>hW) (fun p z=>by cases z) hs1⟩
noncomputable def jK4:Sp3:=fun xs G Q=>∃(U V:Web) (a b:Nat),xs=[encW U,.int a,encW V,.int b]/\Fine U/\Fine V/\a<U.length/\b<V.length/\U.length*V.length<=5000/\∀o G',Lst (XL U V) U V a b o->Sub G G'->Q (oWay o) G'
noncomputable def N_parting:List Str:=["one","a","other","b"]
noncomputable def jYh:TS3:=
 (tRet (tOp rIxF (jJw jJ4 (jJb (tVar 0) (jJb (tVar 1) (jJb (tVar 2) (jJb (tVar 3) (jJb (tC (.bl false)) tNil)))))) (tC (.int 0))))
theorem rdok_parting:∀xs G Q,jK4 xs G Q->jYh {nx:=fun _ G'=>Q .non G',rt:=Q} (jJk N_parting xs) G:=by
 intro xs G Q h_;apply xe4 h_;clear h_;intro U V a b h_;apply ae6 h_;clear h_;intro fU fV ha hb huv kk
 rw[show jJk N_parting [encW U,.int a,encW V,.int b]=[some (encW U),some (.int a),some (encW V),some (.int b)] from rfl]
 wp_walk using 1,jYh
 refine xi5 U V a b false rfl ⟨fU,fV,ha,hb,huv,fun o d P G' h1 h2 h3 h4 h5 s=> ?_⟩
 rw[XS_false] at h1
 exact⟨_,rfl,kk o G' h1 s⟩
noncomputable def jJq:Sp3:=fun xs G Q=>∃(U V:Web) (a b:Nat),xs=[encW U,.int a,encW V,.int b]/\Fine U/\Fine V/\a<U.length/\b<V.length/\U.length*V.length<=5000/\∀o G',Lst (XS true U V a b) U V a b o->(∀p,o=some p->p.length<=U.length*V.length)->Sub G G'->Q (oWay o) G'
noncomputable def jU7:List Str:=["one","a","other","b"]
noncomputable def jK8:TS3:=
 (tRet (tOp rIxF (jJw jJ4 (jJb (tVar 0) (jJb (tVar 1) (jJb (tVar 2) (jJb (tVar 3) (jJb (tC (.bl true)) tNil)))))) (tC (.int 0))))
theorem jXl:∀xs G Q,jJq xs G Q->jK8 {nx:=fun _ G'=>Q .non G',rt:=Q} (jJk jU7 xs) G:=by
 intro xs G Q h_;apply xe4 h_;clear h_;intro U V a b h_;apply ae6 h_;clear h_;intro fU fV ha hb huv kk
 rw[show jJk jU7 [encW U,.int a,encW V,.int b]=[some (encW U),some (.int a),some (encW V),some (.int b)] from rfl]
 wp_walk using 1,jK8
 exact xi5 U V a b true rfl ⟨fU,fV,ha,hb,huv,fun o d P G' h1 h2 h3 h4 h5 s=>⟨_,rfl,kk o G' h1 h5 s⟩⟩
def Bis (X:Nat->Nat->Prop) (U V:Web) (R:Nat->Nat->Prop):Prop:=∀r s,R r s->¬ X r s/\r<U.length/\s<V.length/\∀d e g,en U r d=some e->en V s d=some g->e.2=g.2/\R e.1 g.1
theorem jZ0 {st:Bool} {U V:Web} {a b r s:Nat} (h:¬ XS st U V a b r s):(row U r).length=(row V s).length:=lKg fun z=>h (.inl z)
theorem en_in {U V:Web} {r s d:Nat} {e:Nat×Nat} (h:(row U r).length=(row V s).length) (he:en U r d=some e):∃g,en V s d=some g:=by
 rw[kK9] at he
 have:=(lJa.mp he).1
 exact⟨_,by rw[kK9];exact lJc (by omega)⟩
theorem Bis.flip {st:Bool} {U V:Web} {a b:Nat} {R:Nat->Nat->Prop} (h:Bis (XS st U V a b) U V R):Bis (XS st V U b a) V U (fun s r=>R r s):=by
 intro s r hr
 obtain⟨h1,h2,h3,h4⟩:=h r s hr
 refine⟨fun z=>h1 ?_,h3,h2,fun d g e hg he=> ?_⟩
 ·rcases z with z | ⟨z1,z2⟩
  ·exact .inl (fun y=>z y.symm)
  ·exact .inr ⟨z1,fun y=>z2 y.symm⟩
 ·obtain⟨z1,z2⟩:=h4 d e g he hg
  exact⟨z1.symm,z2⟩
theorem bis_uniq {U V:Web} (u:AnyWeb U) (v:AnyWeb V) {a b:Nat} (ha:a<U.length) {R:Nat->Nat->Prop} (h:Bis (XS true U V a b) U V R):∀r,r<U.length->∀s s',R r s->R r s'->s=s':=by
 refine conn_from u.sym u.conn ha (fun r=>∀s s',R r s->R r s'->s=s') ?_ ?_
 ·intro s s' h1 h2
  have e1:s=b:=lKg fun z=>(h a s h1).1 (.inr ⟨rfl,fun y=>z (y.mp rfl)⟩)
  have e2:s'=b:=lKg fun z=>(h a s' h2).1 (.inr ⟨rfl,fun y=>z (y.mp rfl)⟩)
  rw[e1,e2]
 ·intro r i r' j hS he t t' h1 h2
  have eb:=u.sym _ _ _ _ he
  obtain⟨x1,_,_,x4⟩:=h r' t h1
  obtain⟨y1,_,_,y4⟩:=h r' t' h2
  obtain⟨g,hg⟩:=en_in (jZ0 x1) eb
  obtain⟨g',hg'⟩:=en_in (jZ0 y1) eb
  obtain⟨z1,z2⟩:=x4 j _ g eb hg
  obtain⟨w1,w2⟩:=y4 j _ g' eb hg'
  have e:=hS _ _ z2 w2
  have b1:=v.sym t j g.1 g.2 hg
  have b2:=v.sym t' j g'.1 g'.2 hg'
  rw[<-z1] at b1;rw[<-w1,<-e,b1] at b2
  cases b2;rfl
theorem bis_all {st:Bool} {U V:Web} (u:AnyWeb U) {a b:Nat} (ha:a<U.length) {R:Nat->Nat->Prop} (r0:R a b) (h:Bis (XS st U V a b) U V R):∀r,r<U.length->∃s,R r s:=by
 refine conn_from u.sym u.conn ha (fun r=>∃s,R r s) ⟨b,r0⟩ ?_
 rintro r i r' j ⟨s,hs⟩ he
 obtain⟨x1,_,_,x4⟩:=h r s hs
 obtain⟨g,hg⟩:=en_in (jZ0 x1) he
 exact⟨g.1,(x4 i _ g he hg).2⟩
theorem bis_le {U V:Web} (u:AnyWeb U) (v:AnyWeb V) {a b:Nat} (ha:a<U.length) (hb:b<V.length) {R:Nat->Nat->Prop} (r0:R a b) (h:Bis (XS true U V a b) U V R):∃m:List Nat,m.length=U.length/\m.Nodup/\(∀x,x∈m->x<V.length)/\∀r,r<U.length->R r (nuF m r):=by
 have ex:=bis_all u ha r0 h
 have uq:=bis_uniq v u hb h.flip
 have hf:∃f:Nat->Nat,∀r,r<U.length->R r (f r):=⟨fun r=>if z:r<U.length then Classical.choose (ex r z) else 0,fun r z=>by dsimp only;rw[dif_pos z];exact Classical.choose_spec (ex r z)⟩
 obtain⟨f,hf⟩:=hf
 refine⟨(List.range U.length).map f,by simp,?_,?_,?_⟩
 ·rw[lQe,List.pairwise_map]
  refine (lQe.mp List.nodup_range).imp_of_mem fun {x y} hx hy hne he=>hne ?_
  have hx:=lJv.mp hx
  have hy:=lJv.mp hy
  exact uq (f y) ((h _ _ (hf y hy)).2.2.1) x y (by rw[<-he];exact hf x hx) (hf y hy)
 ·intro x hx
  obtain⟨r,hr,rfl⟩:=lJp.mp hx
  exact (h _ _ (hf r (lJv.mp hr))).2.2.1
 ·intro r hr
  rw[jV9 (y:=f r) (by simp[hr])]
  exact hf r hr
theorem bis_tf {U V:Web} (u:AnyWeb U) (v:AnyWeb V) {a b:Nat} (ha:a<U.length) (hb:b<V.length) {R:Nat->Nat->Prop} (r0:R a b) (h:Bis (XS true U V a b) U V R):tf U a=tf V b:=by
 obtain⟨m,m1,m2,m3,m4⟩:=bis_le u v ha hb r0 h
 obtain⟨m',n1,n2,n3,_⟩:=bis_le v u hb ha r0 h.flip
 have l1:=jQs m2 m3
 have l2:=jQs n2 n3
 have ln:V.length=U.length:=by omega
 have uq:=bis_uniq u v ha h
 have t:Turn U.length m:=⟨m1,m2,fun x hx=>by have:=m3 x hx;omega⟩
 have i:Iso U a V b m:=by
  refine⟨t,⟨ln,fun r es hr=> ?_⟩,uq a ha _ _ (m4 a ha) r0⟩
  have hrl:=(lJa.mp hr).1
  have rm:=m4 r hrl
  obtain⟨x1,_,x3,x4⟩:=h _ _ rm
  have rl:=jZ0 x1
  have hV:V[nuF m r]? =some V[nuF m r]:=lJc x3
  rw[jUe hr,jUe hV] at rl
  rw[hV]
  congr 1
  apply lKc
  intro d
  rw[renE,lJj]
  rcases lJw d es.length with hd | hd
  ·have he:es[d]? =some es[d]:=lJc hd
   have hg:V[nuF m r][d]? =some (V[nuF m r][d]'(by omega)):=lJc (by omega)
   obtain⟨z1,z2⟩:=x4 d _ _ (jVo hr he) (jVo hV hg)
   rw[he,hg]
   have:=uq es[d].1 ((h _ _ z2).2.1) _ _ z2 (m4 _ ((h _ _ z2).2.1))
   show some _=some _
   congr 1
   exact Prod.ext this z1.symm
  ·rw[lJh hd,lJh (by omega)];rfl
 exact i.tf_eq
theorem iso_bis {st:Bool} {U V:Web} {a b:Nat} {m:List Nat} (f:Fine U) (i:Iso U a V b m) (ha:a<U.length):(fun r s=>r<U.length/\s=nuF m r) a b/\Bis (XS st U V a b) U V (fun r s=>r<U.length/\s=nuF m r):=by
 refine⟨⟨ha,i.fst.symm⟩,?_⟩
 rintro r s ⟨hr,rfl⟩
 have ro:=ren_row i.ren i.turn r
 refine⟨?_,hr,by rw[i.ren.len];exact nuF_lt i.turn hr,fun d e g he hg=> ?_⟩
 ·rintro (z | ⟨_,z⟩)
  ·rw[ro,renE,lJb] at z;exact z rfl
  ·refine z ⟨fun e=>by rw[e];exact i.fst,fun e=>kVz i.turn (e.trans i.fst.symm)⟩
 ·rw[ren_en i.turn i.ren,he] at hg
  cases hg
  exact⟨rfl,f.rng _ _ e.1 e.2 he,rfl⟩
theorem px_bis {X:Nat->Nat->Prop} {U V:Web} {R:Nat->Nat->Prop} (h:Bis X U V R):∀(p:List Nat) (r s:Nat),R r s->¬ PX X U V p r s
 | [],r,s,hr=>(h r s hr).1
 | d::p,r,s,hr=>by
  rintro⟨_,e,g,he,hg,z⟩
  obtain⟨h1,h2⟩:=(h r s hr).2.2.2 d e g he hg
  rcases z with ⟨z,_⟩ | ⟨_,z⟩
  ·exact z h1
  ·exact px_bis h p _ _ h2 z
theorem bis_none {X:Nat->Nat->Prop} {U V:Web} (fU:Fine U) (fV:Fine V) {a b:Nat} (ha:a<U.length) (hb:b<V.length) (h:∀p,¬ PX X U V p a b):∃R:Nat->Nat->Prop,R a b/\Bis X U V R:=by
 refine⟨fun r s=>r<U.length/\s<V.length/\∃u,Go X U V u a b r s,⟨ha,hb,[],rfl,rfl,h []⟩,?_⟩
 rintro r s ⟨h1,h2,u,hu⟩
 refine⟨go_end hu,h1,h2,fun d e g he hg=> ?_⟩
 have nb:¬ Bad X U V r s d:=fun z=>h _ (go_px z hu)
 have e2:e.2=g.2:=lKg fun z=>nb ⟨e,g,he,hg,.inl z⟩
 have nx:¬ X e.1 g.1:=fun z=>nb ⟨e,g,he,hg,.inr z⟩
 exact⟨e2,fU.rng _ _ _ _ he,fV.rng _ _ _ _ hg,_,go_snoc he hg e2 nx hu⟩
theorem stone_tf {U V:Web} (u:AnyWeb U) (v:AnyWeb V) {a b:Nat} (ha:a<U.length) (hb:b<V.length) {o:Option (List Nat)} (h:Lst (XS true U V a b) U V a b o):o.isNone=decide (tf U a=tf V b):=by
 cases o with
 | none=>
  obtain⟨R,r0,bs⟩:=bis_none u.fine v.fine ha hb h
  rw[decide_eq_true (bis_tf u v ha hb r0 bs)];rfl
 | some p=>
  rw[decide_eq_false];rfl
  intro z
  obtain⟨r0,bs⟩:=iso_bis (st:=true) u.fine (iso_of u v ha hb z) ha
  exact px_bis bs p a b r0 h.1
theorem jYp {W:Web} {r d:Nat}:∀ds:List Nat,goW W r (d::ds)=(en W r d).bind fun e=>(goW W e.1 ds).map fun es=>e::es:=by
 intro ds
 refine snocRec (P:=fun ds=>goW W r (d::ds)=(en W r d).bind fun e=>(goW W e.1 ds).map fun es=>e::es) ?_ ?_ ds
 ·show (en W r d).map _=_
  cases en W r d<;>rfl
 ·intro ds x ih
  rw[show d::(ds++[x])=(d::ds)++[x] from rfl,jZo,ih]
  cases en W r d with
  | none=>rfl
  | some e=>
   simp only[Option.bind_some]
   rw[jZo]
   cases goW W e.1 ds with
   | none=>rfl
   | some es=>
    simp only[Option.bind_some,Option.map_some]
    have:jX3 r (e::es)=jX3 e.1 es:=by
     unfold jX3
     rw[List.getLast?_cons]
     cases es.getLast? <;>rfl
    rw[this]
    cases en W (jX3 e.1 es) x<;>rfl
section
variable {U V:Web} {a b:Nat}
theorem px_diff:∀(p:List Nat) (r s:Nat),PX (XS true U V a b) U V p r s->∃es gs,goW U r p=some es/\goW V s p=some gs/\(XS true U V a b r s\/es.map (jX1 true U a)≠gs.map (jX1 true V b))
 | [],r,s,h=>⟨[],[],rfl,rfl,.inl h⟩
 | d::p,r,s,h=>by
  obtain⟨_,e,g,he,hg,z⟩:=h
  rcases z with ⟨z,rfl⟩ | ⟨z,h'⟩
  ·refine⟨[e],[g],by rw[jYp,he];rfl,by rw[jYp,hg];rfl,.inr fun q=> ?_⟩
   have:jX1 true U a e=jX1 true V b g:=by simpa using q
   exact absurd (.inl z) (look_eq.mp this)
  ·obtain⟨es,gs,h1,h2,h3⟩:=px_diff p _ _ h'
   refine⟨e::es,g::gs,by rw[jYp,he];simp[h1],by rw[jYp,hg];simp[h2],.inr fun q=> ?_⟩
   rw[lJm,lJm,List.cons.injEq] at q
   rcases h3 with h3 | h3
   ·exact absurd (.inr h3) (look_eq.mp q.1)
   ·exact h3 q.2
theorem px_same:∀(ds:List Nat) (r s:Nat),(∀q,q.length<=ds.length->¬ PX (XS true U V a b) U V q r s)->∀es,goW U r ds=some es->∃gs,goW V s ds=some gs/\es.map (jX1 true U a)=gs.map (jX1 true V b)
 | [],r,s,_,es,h=>by cases h;exact⟨[],rfl,rfl⟩
 | d::ds,r,s,hq,es,h=>by
  rw[jYp] at h
  obtain⟨e,he,h⟩:=Option.bind_eq_some_iff.mp h
  obtain⟨es',h',rfl⟩:=lQg.mp h
  have hX:¬ XS true U V a b r s:=hq [] (lJg _)
  obtain⟨g,hg⟩:=en_in (jZ0 hX) he
  have e2:e.2=g.2:=lKg fun z=>hq [d] (by simp) ⟨hX,e,g,he,hg,.inl ⟨z,rfl⟩⟩
  have nx:¬ XS true U V a b e.1 g.1:=fun z=>hq [d] (by simp) ⟨hX,e,g,he,hg,.inr ⟨e2,z⟩⟩
  obtain⟨gs,h1,h2⟩:=px_same ds e.1 g.1 (fun q hl z=>hq (d::q) (by simpa using hl) ⟨hX,e,g,he,hg,.inr ⟨e2,z⟩⟩) es' h'
  refine⟨g::gs,by rw[jYp,hg];simp[h1],?_⟩
  rw[lJm,lJm,h2,look_eq.mpr (by rintro (z | z);exact z e2;exact nx z)]
theorem kVu:∀(p:List Nat) (r s:Nat),PX (XL U V) U V p r s->∃q,q.length<=p.length/\PX (XS true U V a b) U V q r s
 | [],r,s,h=>⟨[],lJd _,.inl h⟩
 | d::p,r,s,h=>by
  by_cases hX:XS true U V a b r s
  ·exact⟨[],lJg _,hX⟩
  ·obtain⟨_,e,g,he,hg,z⟩:=h
   rcases z with ⟨z,rfl⟩ | ⟨z,h'⟩
   ·exact⟨[d],lJd _,hX,e,g,he,hg,.inl ⟨z,rfl⟩⟩
   ·obtain⟨q,h1,h2⟩:=kVu p _ _ h'
    exact⟨d::q,by simpa using h1,hX,e,g,he,hg,.inr ⟨z,h2⟩⟩
theorem sle_len {p q:List Nat} (h:sle p q):p.length<=q.length:=by
 rcases h with rfl | h | h
 ·exact lJd _
 ·omega
 ·omega
end
noncomputable def lT (l:List Nat):T:= .tup (jJl l)
noncomputable def seeT (n:Nat) (ls:List (List Nat)):T:= .tup (.int (n:Nat)::ls.map lT)
theorem eqT_l (x y:List Nat):eqT (lT x) (lT y)=decide (x=y):=jXx kJe x y
theorem okD_see {n:Nat} {ls:List (List Nat)}:OkD 2 (seeT n ls):=kKp fun x hx=>by
 rcases (lJn.mp hx) with rfl | hx
 ·exact okD_int.mono (by decide)
 ·obtain⟨l,_,rfl⟩:=lJp.mp hx
  refine kKp fun x hx=> ?_
  obtain⟨i,_,rfl⟩:=lJp.mp hx
  exact okD_int
theorem eqG_see {G:Gp} {n m:Nat} {ls ks:List (List Nat)}:eqG G (seeT n ls) (seeT m ks)=some (decide (n=m)&&decide (ls=ks)):=by
 have ok:∀n ls,eqOk (seeT n ls)=true:=fun n ls=>by
  unfold eqOk
  rw[okD_see.tr,okD_see.lay,decide_eq_true (show (td (seeT n ls)).depth<=50 from lJs okD_see.dep (by decide))];rfl
 show (if eqOk (seeT n ls)=true/\eqOk (seeT m ks)=true then some (eqTs (.int (n:Nat)::ls.map lT) (.int (m:Nat)::ks.map lT)) else none)=_
 rw[if_pos ⟨ok _ _,ok _ _⟩]
 show some (eqT (.int (n:Nat)) (.int (m:Nat))&&eqTs (ls.map lT) (ks.map lT))=_
 rw[kJe,jXx eqT_l]
noncomputable def jJn:Sp3:=fun xs G Q=>∃(W:Web) (r:Nat) (ds:List Nat) (es:List (Nat×Nat)),xs=[encW W,.int r,lT ds]/\Fine W/\r<W.length/\ds.length<=1000/\goW W r ds=some es/\∀G',Sub G G'->Q (seeT (row W r).length (es.map (jX1 true W r))) G'
noncomputable def jXh:List Str:=["web","room","way","ends","end"]
noncomputable def jQr:TS3:=
 (tSeq (tAsg (jJw jQp (jJb (tVar 0) (jJb (tVar 1) (jJb (tVar 2) tNil)))) (jJj 3))
 (tSeq (tIfS (jJ7 (tOp rIsN (tVar 3) (tC .non))) (tRet (tC .non)) jQc)
 (tRet (tCB jK0 (jJb (tOp jQi (tLst (jJb (tCB rLen (jJb (tOp rIxF (tVar 0) (tVar 1)) tNil)) tNil)) (jU3 [false,false,false,false,true] (iSeq (tVar 3)) (jJj 4) jU8 (jJw jUh (jJb (tVar 0) (jJb (tVar 1) (jJb (tVar 4) (jJb (tC (.bl true)) tNil))))))) tNil)))))
theorem jYv:∀xs G Q,jJn xs G Q->jQr {nx:=fun _ G'=>Q .non G',rt:=Q} (jJk jXh xs) G:=by
 intro xs G Q h_;apply xe4 h_;clear h_;intro W r ds es0 h_;apply ae5 h_;clear h_;intro fine hr hdl hgo kk
 rw[show jJk jXh [encW W,.int r,lT ds]=[some (.tup (W.map encR)),some (.int r),some (lT ds),none,none] from rfl]
 have hs:=sz
 wp_walk using 1,jQr
 refine⟨W,r,lT ds,ds,rfl,fine,hr,rfl,hdl,fun G1 s1=>⟨fun hn=> ?_,fun es p he hp hp1=> ?_⟩⟩
 ·rw[hgo] at hn;cases hn
 ·rw[hgo] at he;cases he
  obtain⟨b1,b2,b3⟩:=goW_lt fine hr hgo
  obtain⟨row',hrow,hen⟩:=row_at hr
  wp_walk using 1,iSeq,hp1,jUl hrow,encR,lJb
  refine⟨by omega,fun q hq=> ?_⟩
  have hpq:=jJd hp1 hq
  refine⟨es0.map encE,jJp (by rw[jJi hpq];exact hp1),?_⟩
  refine jUa (fun e=>lT (jX1 true W r e)) (by omega) (fun G' s=>jJp (s _ _ (by rw[jJi hpq];exact hp1))) ?_ ?_
  ·intro i e hei G2 K K0 s hk
   wp_walk using 1,tSeq
   exact⟨W,r,e,true,rfl,b3 e (lJe hei),fine.len,fine.row,fun G3 s3=>hk G3 s3⟩
  ·intro D G2 hD h1 h2
   have hq2:=h2 _ _ (jJg (G:=G1) (a:=q) (o:= .lst [T.int (row'.length:Nat)]))
   refine⟨_,addR_lst hq2 h1 (by simp;omega),?_⟩
   rw[fin_new]
   intro u hu
   refine⟨_,seqT_gup,?_⟩
   have:=kk (gup G2 u (.lst ([T.int (row'.length:Nat)]++es0.map fun e=>lT (jX1 true W r e)))) (((s1.trans (.new hq)).trans h2).trans (.new hu))
   rw[jUe hrow,seeT,lJr] at this
   exact this
noncomputable def jUi:Sp3:=fun xs G Q=>∃(b:Addr) (n:Nat),xs=[.ref b]/\BoxAt G b n/\n+2000<2^40/\∀U V G',AnyWeb U->AnyWeb V->BoxAt G' b (n+2000)->Keep b G G'->Q (.tup [encW U,encW V]) G'
noncomputable def N_l_two:List Str:=["_law_box_here","_law_base","_law_made"]
noncomputable def kJ5:TS3:=
 (tSeq (tIfS (jJ7 (tOp rEqA (jJw jJt (jJb (tVar 0) (jJb (tC (.int 3)) tNil))) (tC (.int 0)))) (tRet (tTup (jJb (jJw jQt (jJb (tOp jQi (tC (.int 1)) (jJw jJt (jJb (tVar 0) (jJb (tC (.int 4)) tNil)))) tNil)) (jJb (jJw jQt (jJb (tOp jQi (tC (.int 1)) (jJw jJt (jJb (tVar 0) (jJb (tC (.int 9)) tNil)))) tNil)) tNil)))) jQc)
 (tSeq (tAsg (jJw jUw (jJb (tVar 0) (jJb (tOp jQi (tC (.int 1)) (jJw jJt (jJb (tVar 0) (jJb (tC (.int 4)) tNil)))) (jJb (tOp jQi (tC (.int 2)) (jJw jJt (jJb (tVar 0) (jJb (tC (.int 2)) tNil)))) tNil)))) (jJj 1))
 (tSeq (tAsg (jJw jKv (jJb (tVar 0) (jJb (tVar 1) (jJb (tOp jQi (tC (.int 2)) (jJw jJt (jJb (tVar 0) (jJb (tOp jQi (tC (.int 2)) (tOp jXs (tC (.int 2)) (tCB rIntOf (jJb (tOp rLt (tCB rLen (jJb (tVar 1) tNil)) (tC (.int 4))) tNil)))) tNil)))) tNil)))) (jJj 2))
 (tSeq (tIfS (jJ7 (tOp rEqA (jJw jJt (jJb (tVar 0) (jJb (tC (.int 2)) tNil))) (tC (.int 0)))) (tRet (tTup (jJb (tVar 2) (jJb (tVar 1) tNil)))) jQc)
 (tRet (tTup (jJb (tVar 2) (jJb (tVar 2) tNil))))))))
theorem rdok_l_two:∀xs G Q,jUi xs G Q->kJ5 {nx:=fun _ G'=>Q .non G',rt:=Q} (jJk N_l_two xs) G:=by
 intro xs G Q h_;apply xe2 h_;clear h_;intro b n h_;apply ae3 h_;clear h_;intro hb hn kk
 rw[show jJk N_l_two [.ref b]=[some (.ref b),none,none] from rfl]
 have hs:=sz
 wp_walk using 1,kJ5,rEqA
 refine⟨b,_,n,rfl,hb,by omega,by omega,by omega,fun w G1 w0 w1 b1 k1=> ?_⟩
 obtain⟨w,rfl⟩:=lJ7 w0
 refine⟨_,kJf (c:=0),?_⟩
 split
 ·refine⟨b,_,_,rfl,b1,by omega,by omega,by omega,fun r G2 r0 r1 b2 k2=> ?_⟩
  obtain⟨r,rfl⟩:=lJ7 r0
  refine⟨.val (.int ((1+r:Nat):Int)),by simp[addR],?_⟩
  refine⟨1+r,rfl,by omega,by omega,fun G3 s3=> ?_⟩
  refine⟨b,_,_,rfl,b2.sub s3,by omega,by omega,by omega,fun q G4 q0 q1 b4 k4=> ?_⟩
  obtain⟨q,rfl⟩:=lJ7 q0
  refine⟨.val (.int ((1+q:Nat):Int)),by simp[addR],?_⟩
  refine⟨1+q,rfl,by omega,by omega,fun G5 s5=>⟨by omega,?_⟩⟩
  exact kk _ _ G5 ((ring_ok (n:=1+r) (by omega)).any (by omega) (by omega) (by omega)) ((ring_ok (n:=1+q) (by omega)).any (by omega) (by omega) (by omega)) ((b4.sub s5).mono (by omega)) (((k1.trans k2).trans (.sub s3)).trans k4 |>.trans (.sub s5))
 ·refine⟨b,_,_,rfl,b1,by omega,by omega,by omega,fun r G2 r0 r1 b2 k2=> ?_⟩
  obtain⟨r,rfl⟩:=lJ7 r0
  refine⟨.val (.int ((1+r:Nat):Int)),by simp[addR],?_⟩
  refine⟨b,_,_,rfl,b2,by omega,by omega,by omega,fun q G3 q0 q1 b3 k3=> ?_⟩
  obtain⟨q,rfl⟩:=lJ7 q0
  refine⟨.val (.int ((2+q:Nat):Int)),by simp[addR],?_⟩
  refine⟨b,1+r,2+q,_,rfl,b3,by omega,by omega,by omega,by omega,by omega,fun W G4 ok b4 k4=> ?_⟩
  have hWl:=ok.len
  have hfine:=ok.fine (by omega) (by omega)
  have hends:=ends_len ok.deg
  wp_walk using 1,encW,lJb
  have hcm:L2.CMul 2 (if (W.length:Int)<4 then 1 else 0):= .inl ⟨by decide,by decide⟩
  obtain⟨c,hc,hc1,hc2⟩:∃c:Nat,(2+2*if (W.length:Int)<4 then (1:Int) else 0)=(c:Nat)/\1<=c/\(c+1)*W.length<=24/\c<=4:=by
   by_cases h:(W.length:Int)<4
   ·rw[if_pos h];exact⟨4,rfl,by decide,by omega,by decide⟩
   ·rw[if_neg h];exact⟨2,rfl,by decide,by omega,by decide⟩
  refine⟨hcm,?_⟩
  rw[hc]
  refine⟨b,_,_,rfl,b4,by omega,by omega,by omega,fun x G5 x0 x1 b5 k5=> ?_⟩
  obtain⟨x,rfl⟩:=lJ7 x0
  refine⟨.val (.int ((2+x:Nat):Int)),by simp[addR],?_⟩
  have hm:(2+x)*W.length<=24:=lJs (lK5 _ (by omega)) hc2.1
  have hcost:(jQ4 W).length*(2+x)<=12*6:=Nat.mul_le_mul (lJs hends (by rw[hWl];exact Nat.mul_le_mul (show 1+r<=4 by omega) (show 2+q<=3 by omega))) (by omega)
  refine⟨b,W,2+x,_,rfl,b5,by omega,hfine,ok.sym,by omega,by omega,by omega,fun V G6 cov b6 k6=> ?_⟩
  have aW:AnyWeb W:=ok.any (by omega) (by omega) (by omega)
  have aV:AnyWeb V:=by
   rcases cov with rfl | ⟨sh,cn⟩
   ·exact aW
   ·refine⟨by rw[sh.len];exact Nat.mul_pos (by omega) (by omega),by rw[sh.len];exact hm,sh.sym,fun y es hy=> ?_,cn⟩
    obtain⟨es',h1,h2⟩:=sh.row y es hy
    have:=ok.deg _ _ h1
    omega
  refine⟨b,_,_,rfl,b6,by omega,by omega,by omega,fun z G7 z0 z1 b7 k7=> ?_⟩
  obtain⟨z,rfl⟩:=lJ7 z0
  have kp:Keep b G G7:=(((((k1.trans k2).trans k3).trans k4).trans k5).trans k6).trans k7
  refine⟨_,kJf (c:=0),?_⟩
  split
  ·exact⟨by omega,kk V W G7 aV aW (b7.mono (by omega)) kp⟩
  ·exact⟨by omega,kk V V G7 aV aV (b7.mono (by omega)) kp⟩
noncomputable def jKn:Sp3:=fun xs G Q=>∃(m d:Nat),xs=[.int (m:Nat),.int (d:Nat)]/\m<=6/\d<=1000/\∀G',Sub G G'->Q (.int (m^d:Nat)) G'
noncomputable def kQi:List Str:=["_law_doors","_law_deep","_law_many","_law_turn_here"]
noncomputable def jVt:TS3:=
 (tSeq (tAsg (tC (.int 1)) (jJj 2))
 (tSeq (tFor (jQo (jJb (tVar 1) tNil)) (jJj 3) (tAsg (tOp jXs (tVar 2) (tVar 0)) (jJj 2)))
 (tRet (tVar 2))))
theorem kQq:∀xs G Q,jKn xs G Q->jVt {nx:=fun _ G'=>Q .non G',rt:=Q} (jJk kQi xs) G:=by
 intro xs G Q h_;apply xe2 h_;clear h_;intro m d h_;apply ae3 h_;clear h_;intro hm hd kk
 rw[show jJk kQi [.int (m:Nat),.int (d:Nat)]=[some (.int (m:Nat)),some (.int (d:Nat)),none,none] from rfl]
 have hs:=sz
 wp_walk using 1,jVt,jJ6,jQo
 refine⟨by omega,by omega,?_⟩
 rw[show ((d:Nat):Int).toNat=d from rfl]
 let J1:Nat->St3->Gp->Prop:=fun i τ G'=>∃(v3:Option T),τ=[some (.int (m:Nat)),some (.int (d:Nat)),some (.int (m^i:Nat)),v3]/\Sub G G'
 refine⟨J1,?_,?_,?_,?_⟩
 ·exact⟨none,rfl,.refl _⟩
 ·intros;trivial
 ·intro i x τ G2 hx h_;apply xe1 h_;clear h_;intro v3 h1
  wp_walk using 1,tSeq
  refine⟨.inr ⟨by omega,by omega⟩,some x,?_,h1⟩
  rw[Nat.pow_succ,Int.natCast_mul]
 ·intro τ G2 h_;apply xe1 h_;clear h_;intro v3 h1
  rw[jQ8]
  wp_walk using 1,tSeq
  exact kk G2 h1
def Wy (W:Web) (r t:Nat) (p:List Nat×Nat):Prop:=∃es,goW W r p.1=some es/\jX3 r es=p.2/\p.1.length=t
noncomputable def wT (p:List Nat×Nat):T:= .tup [lT p.1,.int (p.2:Nat)]
theorem num_enc {es:List (Nat×Nat)}:numT (es.map encE)=(List.range es.length).map fun j:Nat=>T.tup [.int (j:Nat),encE (es.getD j (0,0))]:=by
 apply lKc
 intro j
 by_cases hj:j<es.length
 ·rw[jVc (x:=encE es[j]) (by simp[hj]),lJj,lQa hj]
  show _=some (T.tup [T.int (j:Nat),encE (es.getD j (0,0))])
  rw[show es.getD j (0,0)=es[j] by simp[List.getD,hj]]
 ·rw[lJh (by rw[jZk];simp;omega),lJh (by simp;omega)]
noncomputable def jQe:Sp3:=fun xs G Q=>∃(W:Web) (r m D:Nat),xs=[encW W,.int (r:Nat),.int (m:Nat)]/\Fine W/\r<W.length/\(∀(x:Nat) (es:List (Nat×Nat)),W[x]? =some es->es.length<=D)/\D<=6/\m<=1000/\(∀t,t<=m->D^t<=300)/\∀p G' (L:List (List Nat)),G' p=some (.lst (L.map lT))->(∀ds,ds∈L->∃es,goW W r ds=some es/\ds.length<=m)->L.length<=1000000->Sub G G'->Q (.ref p) G'
noncomputable def N_l_walks:List Str:=["_law_web_here","_law_room","_law_many","_law_found","_law_last","_law_turn_here","_law_more","_law_way","_law_there","_law_door","_law_end"]
noncomputable def jYi:TS3:=
 (tSeq (tAsg (tLst tNil) (jJj 3))
 (tSeq (tAsg (tLst (jJb (tTup (jJb (tTup tNil) (jJb (tVar 1) tNil))) tNil)) (jJj 4))
 (tSeq (tFor (jQo (jJb (tOp jZ2 (tVar 2) (tC (.int 1))) tNil)) (jJj 5) (tSeq (jQl (tBM "list" jZ1 (tVar 3) (jJb (jU3 [false,false,false,false,false,false,false,true,true,false,false] (iSeq (tVar 4)) (gTup 2 (jKg (jJj 7) (jKg (jJj 8) gNil))) jU8 (tVar 7)) tNil)))
 (tSeq (tAsg (tLst tNil) (jJj 6))
 (tSeq (tFor (iSeq (tVar 4)) (gTup 2 (jKg (jJj 7) (jKg (jJj 8) gNil))) (jQl (tBM "list" jZ1 (tVar 6) (jJb (jU3 [false,false,false,false,false,false,false,false,false,true,true] (iEnT (jJb (tOp rIxF (tVar 0) (tVar 8)) tNil)) (gTup 2 (jKg (jJj 9) (jKg (jJj 10) gNil))) jU8 (tTup (jJb (tOp jZ2 (tVar 7) (tTup (jJb (tVar 9) tNil))) (jJb (tOp rIxF (tVar 10) (tC (.int 0))) tNil)))) tNil))))
 (tAsg (tVar 6) (jJj 4))))))
 (tRet (tVar 3)))))
noncomputable def rd_wkI:TS3:=(tSeq (tFor (iSeq (tVar 4)) (gTup 2 (jKg (jJj 7) (jKg (jJj 8) gNil))) (jQl (tBM "list" jZ1 (tVar 6) (jJb (jU3 [false,false,false,false,false,false,false,false,false,true,true] (iEnT (jJb (tOp rIxF (tVar 0) (tVar 8)) tNil)) (gTup 2 (jKg (jJj 9) (jKg (jJj 10) gNil))) jU8 (tTup (jJb (tOp jZ2 (tVar 7) (tTup (jJb (tVar 9) tNil))) (jJb (tOp rIxF (tVar 10) (tC (.int 0))) tNil)))) tNil))))
 (tAsg (tVar 6) (jJj 4)))
theorem rd_wk_eq:jYi=tSeq (tAsg (tLst tNil) (jJj 3)) (tSeq (tAsg (tLst (jJb (tTup (jJb (tTup tNil) (jJb (tVar 1) tNil))) tNil)) (jJj 4)) (tSeq (tFor (jQo (jJb (tOp jZ2 (tVar 2) (tC (.int 1))) tNil)) (jJj 5) (tSeq (jQl (tBM "list" jZ1 (tVar 3) (jJb (jU3 [false,false,false,false,false,false,false,true,true,false,false] (iSeq (tVar 4)) (gTup 2 (jKg (jJj 7) (jKg (jJj 8) gNil))) jU8 (tVar 7)) tNil))) (tSeq (tAsg (tLst tNil) (jJj 6)) rd_wkI))) (tRet (tVar 3)))):=rfl
theorem wkI_ok {D':Ends3} {G:Gp} {W:Web} {r m D i:Nat} {q pm pf:Addr} {P:List (List Nat×Nat)} {L:List (List Nat)} {v5 v7 v8:Option T} (fine:Fine W) (hr:r<W.length) (hD:∀(x:Nat) (es:List (Nat×Nat)),W[x]? =some es->es.length<=D) (hD6:D<=6) (hi:i<=1000)
  (hq:G q=some (.lst (P.map wT))) (hP:∀p,p∈P->Wy W r i p) (hPl:P.length<=300) (hm:G pm=some (.lst [])) (hpq:pm≠q) (hpf:pm≠pf) (hf:G pf=some (.lst (L.map lT)))
  (kk:∀(v7 v8:Option T) (M:List (List Nat×Nat)) G',G' pm=some (.lst (M.map wT))->(∀p,p∈M->Wy W r (i+1) p)->M.length<=P.length*D->G' pf=some (.lst (L.map lT))->(∀y o,y≠pm->G y=some o->G' y=some o)->D'.nx [some (encW W),some (.int (r:Nat)),some (.int (m:Nat)),some (.ref pf),some (.ref pm),v5,some (.ref pm),v7,v8,none,none] G'):
  rd_wkI D' [some (encW W),some (.int (r:Nat)),some (.int (m:Nat)),some (.ref pf),some (.ref q),v5,some (.ref pm),v7,v8,none,none] G:=by
 have hs:=sz
 wp_walk using 1,rd_wkI,jJ6,iSeq
 refine⟨_,jJp hq,?_⟩
 let J1:Nat->St3->Gp->Prop:=fun j τ G'=>∃(v7 v8:Option T) (M:List (List Nat×Nat)),τ=[some (encW W),some (.int (r:Nat)),some (.int (m:Nat)),some (.ref pf),some (.ref q),v5,some (.ref pm),v7,v8,none,none]/\G' pm=some (.lst (M.map wT))/\(∀p,p∈M->Wy W r (i+1) p)/\M.length<=j*D/\(∀y o,y≠pm->G y=some o->G' y=some o)
 refine⟨J1,?_,?_,?_,?_⟩
 ·exact⟨_,_,[],rfl,hm,fun p hp=>(nomatch hp),lJg _,fun y o _ h=>h⟩
 ·intro j τ G' hj h_;apply xe3 h_;clear h_;intro _ _ M h_;apply ae4 h_;clear h_;intro h1 h2 h3 h4
  exact jJp (h4 _ _ hpq.symm hq)
 ·intro j x τ G1 hx h_;apply xe3 h_;clear h_;intro v7 v8 M h_;apply ae4 h_;clear h_;intro h1 h2 h3 h4
  obtain⟨⟨ds,y⟩,hp,rfl⟩:=jQ5 hx
  obtain⟨es0,w1,w2,w3⟩:=hP _ (lJe hp)
  have hjl:j<P.length:=(lJa.mp hp).1
  have hy:y<W.length:=by rw[show y=jX3 r es0 from w2.symm];exact (goW_lt fine hr w1).1
  have hrow:W[y]? =some W[y]:=lJc hy
  generalize W[y]=es at hrow
  have hel:=hD _ _ hrow
  wp_walk using 1,wT,iEnT,encW
  refine⟨by rw[jK2 h1];trivial,_,jUl hrow,_,rfl,?_⟩
  rw[num_enc]
  have hdl:ds.length=i:=w3
  refine jUa (fun k:Nat=>wT (ds++[k],(es.getD k (0,0)).1)) (by simp;omega) (fun _ _=>trivial) ?_ ?_
  ·intro k d hk G3 K K0 s3 hK
   wp_walk using 1,encE
   have:=hK G3 (.refl _)
   rw[wT,lT,<-intsN_app] at this
   exact⟨by omega,addG_ok (by simp[jJl];omega) ⟨by omega,this⟩⟩
  ·intro Dm G3 hDm h5 s3
   have hpD:pm≠Dm:=jJd h1 hDm
   have hjD:j*D<=300*6:=Nat.mul_le_mul (by omega) hD6
   refine⟨pm,Dm,_,_,rfl,rfl,s3 _ _ h1,h5,by simp;omega,?_⟩
   refine⟨_,_,M++(List.range es.length).map fun k=>(ds++[k],(es.getD k (0,0)).1),rfl,by rw[jJg,lJu,lJr];rfl,?_,?_,?_⟩
   ·intro p hp
    rcases (lJt.mp hp) with hp | hp
    ·exact h2 p hp
    ·obtain⟨k,hk,rfl⟩:=lJp.mp hp
     have hk:=lJv.mp hk
     have hek:en W y k=some (es.getD k (0,0)):=by rw[jVo hrow (show es[k]? =some es[k] from lJc hk)];simp[List.getD,hk]
     refine⟨es0++[es.getD k (0,0)],?_,by rw[kJa],by simp[hdl]⟩
     rw[jZo,show goW W r ds=some es0 from w1]
     show (en W (jX3 r es0) k).map _=_
     rw[show jX3 r es0=y from w2,hek];rfl
   ·rw[lJo,lJb,lK1,Nat.add_mul];omega
   ·intro y' o hy' ho
    rw[jJi hy']
    exact s3 _ _ (h4 y' o hy' ho)
 ·intro τ G1 h_;apply xe3 h_;clear h_;intro v7 v8 M h_;apply ae4 h_;clear h_;intro h1 h2 h3 h4
  rw[lJb] at h3
  wp_walk using 1,tSeq
  exact kk v7 v8 M G1 h1 h2 h3 (h4 _ _ hpf.symm hf) h4
theorem pow_mid {D t m:Nat} (h:t<=m):D^t<=max 1 (D^m):=by
 rcases Nat.eq_zero_or_pos D with rfl | z
 ·cases t with
  | zero=>exact Nat.le_max_left _ _
  | succ t=>rw[Nat.zero_pow (by omega)];exact lJg _
 ·exact lJs (Nat.pow_le_pow_right z h) (Nat.le_max_right _ _)
theorem rdok_l_walks:∀xs G Q,jQe xs G Q->jYi {nx:=fun _ G'=>Q .non G',rt:=Q} (jJk N_l_walks xs) G:=by
 intro xs G Q h_;apply xe4 h_;clear h_;intro W r m D h_;apply ae7 h_;clear h_;intro fine hr hD hD6 hm hB kk
 rw[show jJk N_l_walks [encW W,.int (r:Nat),.int (m:Nat)]=[some (encW W),some (.int (r:Nat)),some (.int (m:Nat)),none,none,none,none,none,none,none,none] from rfl,rd_wk_eq]
 have hs:=sz
 wp_walk using 1,jJ6,jQo
 refine⟨lJg _,fun pf hpf=>⟨by omega,by omega,by omega,fun q hq=> ?_⟩⟩
 have hfq:pf≠q:=(jK1 hq).1.symm
 refine .inl ⟨.val (.int ((m+1:Nat):Int)),by simp[addR],?_⟩
 refine⟨_,rfl,by omega,by omega,?_⟩
 rw[show ((m+1:Nat):Int).toNat=m+1 from rfl]
 let J0:Nat->St3->Gp->Prop:=fun i τ G'=>∃(v5 v6 v7 v8:Option T) (q:Addr) (P:List (List Nat×Nat)) (L:List (List Nat)),τ=[some (encW W),some (.int (r:Nat)),some (.int (m:Nat)),some (.ref pf),some (.ref q),v5,v6,v7,v8,none,none]/\pf≠q/\G' q=some (.lst (P.map wT))/\(∀p,p∈P->Wy W r i p)/\P.length<=D^i/\G' pf=some (.lst (L.map lT))/\(∀ds,ds∈L->∃es,goW W r ds=some es/\ds.length<=m)/\L.length<=300*i/\Sub G G'
 refine⟨J0,?_,?_,?_,?_⟩
 ·refine⟨_,_,_,_,q,[([],r)],[],rfl,hfq,jJg,fun p hp=> ?_,lJd _,by rw[jJi hfq,jJg];rfl,fun ds h=>(nomatch h),lJg _,(Sub.new hpf).trans (.new hq)⟩
  rw[(lJk.mp hp)]
  exact⟨[],rfl,rfl,rfl⟩
 ·intros;trivial
 ·intro i x τ G1 hx h_;apply xe7 h_;clear h_;intro v5 v6 v7 v8 q1 P L h_;apply ae8 h_;clear h_;intro g0 g1 g2 g3 g4 g5 g6 g7
  obtain⟨hi,rfl⟩:=jVl hx
  have hPl:P.length<=300:=lJs g3 (hB i (by omega))
  wp_walk using 1,iSeq
  refine⟨by rw[jK2 g4];trivial,_,jJp g1,?_⟩
  refine jUa (fun p:List Nat×Nat=>lT p.1) (by omega) (fun G' s=>jJp (s _ _ g1)) ?_ ?_
  ·intro k p hk G3 K K0 s3 hK
   wp_walk using 1,wT
   exact hK G3 (.refl _)
  ·intro Dm G3 hDm h5 s3
   have h4:=s3 _ _ g4
   refine⟨pf,Dm,_,_,rfl,rfl,h4,h5,by simp;omega,by omega,fun pm hpm=> ?_⟩
   obtain⟨hpf',hpm3⟩:=jK1 hpm
   have hq3:=s3 _ _ g1
   have hpq:=(jJd hq3 hpm3).symm
   refine wkI_ok (L:=L++P.map fun p=>p.1) fine hr hD hD6 (by omega) (by rw[jJi hpq.symm,jJi g0.symm];exact hq3) g2 hPl jJg hpq hpf' (by rw[jJi hpf'.symm,jJg,lJu,lJr];rfl) fun v7 v8 M G4 m1 m2 m3 m4 m5=> ?_
   refine⟨_,_,_,_,pm,M,L++P.map fun p=>p.1,rfl,hpf'.symm,m1,m2,?_,m4,?_,?_,?_⟩
   ·rw[Nat.pow_succ];exact lJs m3 (lK5 _ g3)
   ·intro ds hds
    rcases (lJt.mp hds) with z | z
    ·exact g5 ds z
    ·obtain⟨p,hp,rfl⟩:=lJp.mp z
     obtain⟨es,w1,w2,w3⟩:=g2 p hp
     exact⟨es,w1,by omega⟩
   ·rw[lJo,lJb];omega
   ·intro y o hy
    have hy1:=g7 _ _ hy
    have ypf:y≠pf:=jJd hy hpf
    have hy3:=s3 _ _ hy1
    exact m5 y o (jJd hy3 hpm3) (by rw[jJi (jJd hy3 hpm3),jJi ypf];exact hy3)
 ·intro τ G1 h_;apply xe7 h_;clear h_;intro v5 v6 v7 v8 q1 P L h_;apply ae8 h_;clear h_;intro g0 g1 g2 g3 g4 g5 g6 g7
  rw[jQ8] at g6
  wp_walk using 1,tSeq
  exact kk pf G1 L g4 g5 (by omega) g7
noncomputable def jK5:Sp3:=fun xs G Q=>∃(U V:Web) (a b:Nat) (p:List Nat),xs=[encW U,.int (a:Nat),encW V,.int (b:Nat),lT p]/\AnyWeb U/\AnyWeb V/\a<U.length/\b<V.length/\p.length<=900/\PX (XS true U V a b) U V p a b/\(∀q,PX (XS true U V a b) U V q a b->p.length<=q.length)/\∀G',Sub G G'->Q (.bl true) G'
noncomputable def N_l_least:List Str:=["_law_one","_law_a","_law_other","_law_b","_law_way","_law_doors","_law_many","_law_ways","_law_room","_law_less"]
noncomputable def jYj:TS3:=
 (tSeq (tIfS (jJ7 (tOp rEqA (jJw jJn (jJb (tVar 0) (jJb (tVar 1) (jJb (tVar 4) tNil)))) (jJw jJn (jJb (tVar 2) (jJb (tVar 3) (jJb (tVar 4) tNil)))))) (tRet (tC (.bl false))) jQc)
 (tSeq (tAsg (tCB rMaxL (jJb (jU3 [false,false,false,false,false,false,false,false,true,false] (iSeq (tVar 0)) (jJj 8) jU8 (tCB rLen (jJb (tVar 8) tNil))) tNil)) (jJj 5))
 (tSeq (tAsg (tOp rSub (tCB rLen (jJb (tVar 4) tNil)) (tC (.int 1))) (jJj 6))
 (tSeq (jVq (tAnd (jJ7 (tOp rGt (tVar 6) (tC (.int 0)))) (jJ7 (tOp rGt (jJw jKn (jJb (tVar 5) (jJb (tVar 6) tNil))) (tC (.int 300))))) (tAsg (tOp rSub (tVar 6) (tC (.int 1))) (jJj 6)))
 (tSeq (tAsg (tIf (jJ7 (tOp rGt (tCB rLen (jJb (tVar 4) tNil)) (tC (.int 0)))) (jJw jQe (jJb (tVar 0) (jJb (tVar 1) (jJb (tVar 6) tNil)))) (tLst tNil)) (jJj 7))
 (tRet (tCB rAll (jJb (jU3 [false,false,false,false,false,false,false,false,false,true] (iSeq (tVar 7)) (jJj 9) jU8 (tOp rEqA (jJw jJn (jJb (tVar 0) (jJb (tVar 1) (jJb (tVar 9) tNil)))) (jJw jJn (jJb (tVar 2) (jJb (tVar 3) (jJb (tVar 9) tNil)))))) tNil))))))))
noncomputable def rd_lt4:TS3:=(tSeq (tAsg (tIf (jJ7 (tOp rGt (tCB rLen (jJb (tVar 4) tNil)) (tC (.int 0)))) (jJw jQe (jJb (tVar 0) (jJb (tVar 1) (jJb (tVar 6) tNil)))) (tLst tNil)) (jJj 7))
 (tRet (tCB rAll (jJb (jU3 [false,false,false,false,false,false,false,false,false,true] (iSeq (tVar 7)) (jJj 9) jU8 (tOp rEqA (jJw jJn (jJb (tVar 0) (jJb (tVar 1) (jJb (tVar 9) tNil)))) (jJw jJn (jJb (tVar 2) (jJb (tVar 3) (jJb (tVar 9) tNil)))))) tNil))))
theorem rd_lt_eq:jYj=tSeq (tIfS (jJ7 (tOp rEqA (jJw jJn (jJb (tVar 0) (jJb (tVar 1) (jJb (tVar 4) tNil)))) (jJw jJn (jJb (tVar 2) (jJb (tVar 3) (jJb (tVar 4) tNil)))))) (tRet (tC (.bl false))) jQc) (tSeq (tAsg (tCB rMaxL (jJb (jU3 [false,false,false,false,false,false,false,false,true,false] (iSeq (tVar 0)) (jJj 8) jU8 (tCB rLen (jJb (tVar 8) tNil))) tNil)) (jJj 5)) (tSeq (tAsg (tOp rSub (tCB rLen (jJb (tVar 4) tNil)) (tC (.int 1))) (jJj 6)) (tSeq (jVq (tAnd (jJ7 (tOp rGt (tVar 6) (tC (.int 0)))) (jJ7 (tOp rGt (jJw jKn (jJb (tVar 5) (jJb (tVar 6) tNil))) (tC (.int 300))))) (tAsg (tOp rSub (tVar 6) (tC (.int 1))) (jJj 6))) rd_lt4))):=rfl
theorem lt4_ok {D':Ends3} {Q:VK3} (hD:D'.rt=Q) {G:Gp} {U V:Web} {a b m D:Nat} {p:List Nat} {k:Int} {v5:Option T} (hk:0<p.length->k=(m:Nat)) (u:AnyWeb U) (v:AnyWeb V) (ha:a<U.length) (hb:b<V.length) (hp:p.length<=900) (least:∀q,PX (XS true U V a b) U V q a b->p.length<=q.length)
  (hDg:∀(x:Nat) (es:List (Nat×Nat)),U[x]? =some es->es.length<=D) (hD6:D<=6) (hm:0<p.length->m<p.length) (hB:∀t,t<=m->D^t<=300) (kk:∀G',Sub G G'->Q (.bl true) G'):
  rd_lt4 D' [some (encW U),some (.int (a:Nat)),some (encW V),some (.int (b:Nat)),some (lT p),v5,some (.int k),none,none,none] G:=by
 have hs:=sz
 have fin:∀G1 q (L:List (List Nat)),G1 q=some (.lst (L.map lT))->(∀ds,ds∈L->∃es,goW U a ds=some es/\ds.length<p.length)->L.length<=1000000->Sub G G1->CompAt [false,false,false,false,false,false,false,false,false,true] (jJj 9) jU8 (tOp rEqA (jJw jJn (jJb (tVar 0) (jJb (tVar 1) (jJb (tVar 9) tNil)))) (jJw jJn (jJb (tVar 2) (jJb (tVar 3) (jJb (tVar 9) tNil))))) [some (encW U),some (.int (a:Nat)),some (encW V),some (.int (b:Nat)),some (lT p),v5,some (.int k),some (.ref q),none,none] (L.map lT) (fun G'=>seqT G' (.ref q)=some (L.map lT)) G1 fun x G1=>rAll [x] G1 D'.rt:=by
  intro G1 q L h1 h2 h3 s1
  refine jUa (fun _=>T.bl true) (by omega) (fun G' s=>jJp (s _ _ h1)) ?_ ?_
  ·intro k ds hk G3 K K0 s3 hK
   obtain⟨es,g1,g2⟩:=h2 ds (lJe hk)
   obtain⟨gs,g3,g4⟩:=px_same ds a b (fun q hq z=>by have:=least q z;omega) es g1
   wp_walk using 1,rEqA
   refine⟨U,a,ds,es,rfl,u.fine,ha,by omega,g1,fun G4 s4=>⟨V,b,ds,gs,rfl,v.fine,hb,by omega,g3,fun G5 s5=>⟨_,eqG_see,?_⟩⟩⟩
   rw[g4,decide_eq_true rfl,decide_eq_true (jZ0 (U:=U) (V:=V) (r:=a) (s:=b) (fun z=>by have:=least [] z;rw[List.length_nil] at this;omega))]
   exact hK G5 (s4.trans s5)
  ·intro Dm G3 hDm h5 s3
   refine⟨Dm,_,_,rfl,h5,kQg (f:=fun _=>true),?_⟩
   rw[lK4.mpr (fun _ _=>rfl),hD]
   exact kk G3 (s1.trans s3)
 wp_walk using 1,rd_lt4,iSeq
 refine⟨jJl p,rfl,?_⟩
 split
 ·rename_i hlt
  have hp0:0<p.length:=by simp[jJl] at hlt;exact hlt
  rw[hk hp0]
  refine⟨U,a,m,D,rfl,u.fine,ha,hDg,hD6,by have:=hm hp0;omega,hB,fun q G1 L h1 h2 h3 s1=>⟨_,jJp h1,?_⟩⟩
  have:=fin G1 q L h1 (fun ds hds=>by obtain⟨es,z1,z2⟩:=h2 ds hds;have:=hm hp0;exact⟨es,z1,by omega⟩) h3 s1
  rw[hk hp0] at this
  exact this
 ·exact⟨lJg _,fun q hq=>fin _ q [] jJg (fun ds h=>(nomatch h)) (by simp) (.new hq)⟩
theorem rdok_l_least:∀xs G Q,jK5 xs G Q->jYj {nx:=fun _ G'=>Q .non G',rt:=Q} (jJk N_l_least xs) G:=by
 intro xs G Q h_;apply xe5 h_;clear h_;intro U V a b p h_;apply ae8 h_;clear h_;intro u v ha hb hp hpx least kk
 rw[show jJk N_l_least [encW U,.int (a:Nat),encW V,.int (b:Nat),lT p]=[some (encW U),some (.int (a:Nat)),some (encW V),some (.int (b:Nat)),some (lT p),none,none,none,none,none] from rfl,rd_lt_eq]
 have hs:=sz
 have hW:=u.pos
 have hW2:=u.len
 obtain⟨es,gs,g1,g2,g3⟩:=px_diff p a b hpx
 wp_walk using 1,rEqA,jVq,iSeq,rMaxL
 refine⟨U,a,p,es,rfl,u.fine,ha,by omega,g1,fun G1 s1=>⟨V,b,p,gs,rfl,v.fine,hb,by omega,g2,fun G2 s2=>⟨false,?_,?_⟩⟩⟩
 ·rw[eqG_see]
  rcases g3 with g3 | g3
  ·rw[XS_start] at g3
   rw[decide_eq_false g3];rfl
  ·rw[decide_eq_false g3,Bool.and_false]
 rw[if_neg (by decide)]
 simp only[encW]
 refine⟨_,rfl,?_⟩
 refine jUa (es:=U) (fun es=>T.int (es.length:Nat)) (by omega) (fun _ _=>rfl) ?_ ?_
 ·intro i es he G3 K K0 s3 hk
  wp_walk using 1,encR,lJb
  exact hk G3 (.refl _)
 ·intro D G3 hD hG3 s3
  obtain⟨e0,U',hU⟩:∃e0 U',U=e0::U':=by
   cases U with
   | nil=>simp at hW
   | cons a b=>exact⟨_,_,rfl⟩
  have hge:∀x∈(U'.map fun es=>((es.length:Nat):Int)),0<=x/\x<=6:=by
   intro x hx
   obtain⟨es,hes,rfl⟩:=lJp.mp hx
   obtain⟨k,hk⟩:=lJq hes
   have:=u.deg (k+1) es (by rw[hU];exact hk)
   omega
  have hm0:=u.deg 0 e0 (by rw[hU];rfl)
  obtain⟨M,hM,hM6⟩:∃M:Nat,jX8 ((e0.length:Nat):Int) (U'.map fun es=>((es.length:Nat):Int))=(M:Nat)/\M<=6:=by
   rcases mostB_mem (U'.map fun es=>((es.length:Nat):Int)) ((e0.length:Nat):Int) with h | h
   ·exact⟨e0.length,h,hm0⟩
   ·obtain⟨h1,h2⟩:=hge _ h
    obtain⟨M,hM⟩:=lJ7 h1
    exact⟨M,hM,by omega⟩
  have hDg:∀(x:Nat) (es:List (Nat×Nat)),U[x]? =some es->es.length<=M:=by
   intro x es hx
   obtain⟨l1,l2⟩:=mostB_le (U'.map fun es=>((es.length:Nat):Int)) ((e0.length:Nat):Int)
   rw[hM] at l1 l2
   rw[hU] at hx
   cases x with
   | zero=>cases hx;omega
   | succ x=>
    have:=l2 ((es.length:Nat):Int) (lJp.mpr ⟨es,lJe hx,rfl⟩)
    omega
  refine⟨D,rfl,((e0.length:Nat):Int),U'.map fun es=>((es.length:Nat):Int),by rw[hG3,hU,lJm,lJm,lJr];rfl,_,rfl,?_⟩
  rw[hM,show (jJl p).length=p.length by simp[jJl]]
  let J1:Nat->St3->Gp->Prop:=fun m τ G'=>∃(k:Int),τ=[some (encW U),some (.int (a:Nat)),some (encW V),some (.int (b:Nat)),some (lT p),some (.int (M:Nat)),some (.int k),none,none,none]/\(k=(m:Nat)\/(k= -1/\p.length=0/\m=0))/\(0<p.length->m<p.length)/\m<=900/\Sub G G'
  refine⟨J1,?_,?_⟩
  ·refine⟨p.length-1,(p.length:Int)-1,rfl,?_,fun h=>by omega,by omega,(s1.trans s2).trans s3⟩
   rcases Nat.eq_zero_or_pos p.length with h | h
   ·right;omega
   ·left;omega
  ·intro m τ G5 h_;apply xe1 h_;clear h_;intro k h_;apply ae4 h_;clear h_;intro h1 h2 h3 h4
   wp_walk using 1,tSeq
   have fin:∀G6,Sub G5 G6->(∀t,t<=m->M^t<=300)->rd_lt4 {nx:=fun _ G'=>Q .non G',rt:=Q} [some (encW U),some (.int (a:Nat)),some (encW V),some (.int (b:Nat)),some (lT p),some (.int (M:Nat)),some (.int k),none,none,none] G6:=fun G6 s6 hB=>
    lt4_ok rfl (fun h=>by rcases h1 with z | z;exact z;omega) u v ha hb hp least hDg hM6 h2 hB fun G' s=>kk G' ((h4.trans s6).trans s)
   split
   ·rename_i hk
    have hkm:k=(m:Nat):=by rcases h1 with z | z;exact z;omega
    subst hkm
    refine⟨M,m,rfl,hM6,by omega,fun G6 s6=>⟨_,rfl,?_⟩⟩
    split
    ·exact⟨fun τ' G'=>J1 (m-1) τ' G',fun τ' G' z=>⟨m-1,by omega,z⟩,(m:Int)-1,rfl,.inl (by omega),fun h=>by have:=h2 h;omega,by omega,h4.trans s6⟩
    ·rename_i hle
     have hle':M^m<=300:=by omega
     exact fin G6 s6 fun t ht=>lJs (pow_mid ht) (Nat.max_le.mpr ⟨by decide,hle'⟩)
   ·rename_i hk
    refine fin G5 (.refl _) fun t ht=> ?_
    have:m=0:=by rcases h1 with z | z<;>omega
    subst this
    rw[show t=0 by omega,Nat.pow_zero];decide
theorem map_new {G:Gp} {W:Web} {x:Nat} {K:VK3} (aw:AnyWeb W) (hx:x<W.length) (hk:∀G',Sub G G'->K (encW (toldW W x)) G'):∀a:Addr,G a=none->jJy [.ref a,encW W,.int (x:Nat),.int 1] (gup G a (GO.ins (Str.ofString "Walker") [])) fun v G2=>v=T.non/\jKs [T.ref a] G2 K:=by
 intro a ha
 refine⟨a,W,x,1,rfl,jJg,fun l G1 hla hl0 w1 fr1=>⟨rfl,?_⟩⟩
 obtain⟨_,hl⟩:=jK1 hl0
 refine⟨a,l,W,_,rfl,w1,aw,hx,rfl,(by decide:0<1),fun G2 s2 lk hw w2 kp=>hk G2 fun y o hy=> ?_⟩
 have ya:=jJd hy ha
 have yl:=jJd hy hl
 exact kp y o (by simp[ya,yl]) (by rw[fr1 y ya yl,jJi ya];exact hy)
theorem eqG_tt {G:Gp} {b b':Bool}:eqG G (.bl b) (.bl b')=some (decide (b=b')):=by
 cases b<;>cases b'<;>rfl
noncomputable def sp_law:Sp3:=fun xs G Q=>∃ns:List Int,xs=[.scr (jKr ns)]/\ns.length<=63/\∀G',Q (.bl true) G'
noncomputable def N_law:List Str:=["_law_script","_law_k","_law_box_here","_law_one","_law_other","_law_a","_law_b","_law_way","_law_pairs","_law_told","_law_plain","_law_web_here"]
noncomputable def rd_law:TS3:=
 (tSeq (tAsg (jJw jKy (jJb (tVar 0) (jJb (tC (.int 8)) tNil))) (jJj 0))
 (tSeq (tFor (jQo (jJb (tCB rMax (jJb (tC (.int 1)) (jJb (tCB rLen (jJb (tVar 0) tNil)) tNil))) tNil)) (jJj 1) (tSeq (tAsg (jJw jUj (jJb (tVar 0) (jJb (tVar 1) tNil))) (jJj 2))
 (tSeq (tAsg (jJw jUi (jJb (tVar 2) tNil)) (gTup 2 (jKg (jJj 3) (jKg (jJj 4) gNil))))
 (tSeq (tAsg (jJw jJt (jJb (tVar 2) (jJb (tCB rLen (jJb (tVar 3) tNil)) tNil))) (jJj 5))
 (tSeq (tAsg (tOp rIxF (tLst (jJb (tOp rMod (tVar 5) (tCB rLen (jJb (tVar 4) tNil))) (jJb (jJw jJt (jJb (tVar 2) (jJb (tCB rLen (jJb (tVar 4) tNil)) tNil))) tNil))) (jJw jJt (jJb (tVar 2) (jJb (tC (.int 2)) tNil)))) (jJj 6))
 (tSeq (tAsg (jJw jJq (jJb (tVar 3) (jJb (tVar 5) (jJb (tVar 4) (jJb (tVar 6) tNil))))) (jJj 7))
 (tSeq (tAsg (jJw jKq (jJb (tVar 3) (jJb (tVar 5) (jJb (tVar 4) (jJb (tVar 6) tNil))))) (jJj 8))
 (tSeq (tAsg (tLst (jJb (jJw jKs (jJb (kVd "Walker" jJy (jJb (tVar 3) (jJb (tVar 5) (jJb (tC (.int 1)) tNil)))) tNil)) (jJb (jJw jKs (jJb (kVd "Walker" jJy (jJb (tVar 4) (jJb (tVar 6) (jJb (tC (.int 1)) tNil)))) tNil)) tNil))) (jJj 9))
 (tSeq (tIfS (tOr (jJ7 (tOp rNeA (tOp rIsN (tVar 7) (tC .non)) (tOp kQw (tVar 8) (tC .non)))) (jJ7 (tOp rNeA (tOp rEqA (tOp rIxF (tVar 9) (tC (.int 0))) (tOp rIxF (tVar 9) (tC (.int 1)))) (tOp rIsN (tVar 7) (tC .non))))) (tRet (tC (.bl false))) jQc)
 (tSeq (tIfS (jJ7 (tOp rNeA (jU3 [false,false,false,false,false,false,false,false,false,false,false,true] (iSeq (tVar 9)) (jJj 11) jU8 (tCB rLen (jJb (tVar 11) tNil))) (tLst (jJb (tCB rLen (jJb (tVar 3) tNil)) (jJb (tCB rLen (jJb (tVar 4) tNil)) tNil))))) (tRet (tC (.bl false))) jQc)
 (tSeq (tIfS (tAnd (jJ7 (tOp kQw (tVar 7) (tC .non))) (tNot (jJ7 (jJw jK5 (jJb (tVar 3) (jJb (tVar 5) (jJb (tVar 4) (jJb (tVar 6) (jJb (tVar 7) tNil))))))))) (tRet (tC (.bl false))) jQc)
 (tSeq (tAsg (jJw jK4 (jJb (tVar 3) (jJb (tVar 5) (jJb (tVar 4) (jJb (tVar 6) tNil))))) (jJj 10))
 (tIfS (tAnd (jJ7 (tOp kQw (tVar 10) (tC .non))) (tOr (jJ7 (tOp rIsN (tVar 7) (tC .non))) (jJ7 (tOp rGt (tCB rLen (jJb (tVar 7) tNil)) (tCB rLen (jJb (tVar 10) tNil)))))) (tRet (tC (.bl false))) jQc)))))))))))))
 (tRet (tC (.bl true)))))
noncomputable def rd_x4:TS3:=(tSeq (tAsg (jJw jJq (jJb (tVar 3) (jJb (tVar 5) (jJb (tVar 4) (jJb (tVar 6) tNil))))) (jJj 7))
 (tSeq (tAsg (jJw jKq (jJb (tVar 3) (jJb (tVar 5) (jJb (tVar 4) (jJb (tVar 6) tNil))))) (jJj 8))
 (tSeq (tAsg (tLst (jJb (jJw jKs (jJb (kVd "Walker" jJy (jJb (tVar 3) (jJb (tVar 5) (jJb (tC (.int 1)) tNil)))) tNil)) (jJb (jJw jKs (jJb (kVd "Walker" jJy (jJb (tVar 4) (jJb (tVar 6) (jJb (tC (.int 1)) tNil)))) tNil)) tNil))) (jJj 9))
 (tSeq (tIfS (tOr (jJ7 (tOp rNeA (tOp rIsN (tVar 7) (tC .non)) (tOp kQw (tVar 8) (tC .non)))) (jJ7 (tOp rNeA (tOp rEqA (tOp rIxF (tVar 9) (tC (.int 0))) (tOp rIxF (tVar 9) (tC (.int 1)))) (tOp rIsN (tVar 7) (tC .non))))) (tRet (tC (.bl false))) jQc)
 (tSeq (tIfS (jJ7 (tOp rNeA (jU3 [false,false,false,false,false,false,false,false,false,false,false,true] (iSeq (tVar 9)) (jJj 11) jU8 (tCB rLen (jJb (tVar 11) tNil))) (tLst (jJb (tCB rLen (jJb (tVar 3) tNil)) (jJb (tCB rLen (jJb (tVar 4) tNil)) tNil))))) (tRet (tC (.bl false))) jQc)
 (tSeq (tIfS (tAnd (jJ7 (tOp kQw (tVar 7) (tC .non))) (tNot (jJ7 (jJw jK5 (jJb (tVar 3) (jJb (tVar 5) (jJb (tVar 4) (jJb (tVar 6) (jJb (tVar 7) tNil))))))))) (tRet (tC (.bl false))) jQc)
 (tSeq (tAsg (jJw jK4 (jJb (tVar 3) (jJb (tVar 5) (jJb (tVar 4) (jJb (tVar 6) tNil))))) (jJj 10))
 (tIfS (tAnd (jJ7 (tOp kQw (tVar 10) (tC .non))) (tOr (jJ7 (tOp rIsN (tVar 7) (tC .non))) (jJ7 (tOp rGt (tCB rLen (jJb (tVar 7) tNil)) (tCB rLen (jJb (tVar 10) tNil)))))) (tRet (tC (.bl false))) jQc))))))))
theorem rd_x_eq:rd_law=tSeq (tAsg (jJw jKy (jJb (tVar 0) (jJb (tC (.int 8)) tNil))) (jJj 0)) (tSeq (tFor (jQo (jJb (tCB rMax (jJb (tC (.int 1)) (jJb (tCB rLen (jJb (tVar 0) tNil)) tNil))) tNil)) (jJj 1) (tSeq (tAsg (jJw jUj (jJb (tVar 0) (jJb (tVar 1) tNil))) (jJj 2)) (tSeq (tAsg (jJw jUi (jJb (tVar 2) tNil)) (gTup 2 (jKg (jJj 3) (jKg (jJj 4) gNil)))) (tSeq (tAsg (jJw jJt (jJb (tVar 2) (jJb (tCB rLen (jJb (tVar 3) tNil)) tNil))) (jJj 5)) (tSeq (tAsg (tOp rIxF (tLst (jJb (tOp rMod (tVar 5) (tCB rLen (jJb (tVar 4) tNil))) (jJb (jJw jJt (jJb (tVar 2) (jJb (tCB rLen (jJb (tVar 4) tNil)) tNil))) tNil))) (jJw jJt (jJb (tVar 2) (jJb (tC (.int 2)) tNil)))) (jJj 6)) rd_x4))))) (tRet (tC (.bl true)))):=rfl
noncomputable def rd_x8:TS3:=(tSeq (tIfS (jJ7 (tOp rNeA (jU3 [false,false,false,false,false,false,false,false,false,false,false,true] (iSeq (tVar 9)) (jJj 11) jU8 (tCB rLen (jJb (tVar 11) tNil))) (tLst (jJb (tCB rLen (jJb (tVar 3) tNil)) (jJb (tCB rLen (jJb (tVar 4) tNil)) tNil))))) (tRet (tC (.bl false))) jQc)
 (tSeq (tIfS (tAnd (jJ7 (tOp kQw (tVar 7) (tC .non))) (tNot (jJ7 (jJw jK5 (jJb (tVar 3) (jJb (tVar 5) (jJb (tVar 4) (jJb (tVar 6) (jJb (tVar 7) tNil))))))))) (tRet (tC (.bl false))) jQc)
 (tSeq (tAsg (jJw jK4 (jJb (tVar 3) (jJb (tVar 5) (jJb (tVar 4) (jJb (tVar 6) tNil))))) (jJj 10))
 (tIfS (tAnd (jJ7 (tOp kQw (tVar 10) (tC .non))) (tOr (jJ7 (tOp rIsN (tVar 7) (tC .non))) (jJ7 (tOp rGt (tCB rLen (jJb (tVar 7) tNil)) (tCB rLen (jJb (tVar 10) tNil)))))) (tRet (tC (.bl false))) jQc))))
theorem rd_x4_eq:rd_x4=tSeq (tAsg (jJw jJq (jJb (tVar 3) (jJb (tVar 5) (jJb (tVar 4) (jJb (tVar 6) tNil))))) (jJj 7)) (tSeq (tAsg (jJw jKq (jJb (tVar 3) (jJb (tVar 5) (jJb (tVar 4) (jJb (tVar 6) tNil))))) (jJj 8)) (tSeq (tAsg (tLst (jJb (jJw jKs (jJb (kVd "Walker" jJy (jJb (tVar 3) (jJb (tVar 5) (jJb (tC (.int 1)) tNil)))) tNil)) (jJb (jJw jKs (jJb (kVd "Walker" jJy (jJb (tVar 4) (jJb (tVar 6) (jJb (tC (.int 1)) tNil)))) tNil)) tNil))) (jJj 9)) (tSeq (tIfS (tOr (jJ7 (tOp rNeA (tOp rIsN (tVar 7) (tC .non)) (tOp kQw (tVar 8) (tC .non)))) (jJ7 (tOp rNeA (tOp rEqA (tOp rIxF (tVar 9) (tC (.int 0))) (tOp rIxF (tVar 9) (tC (.int 1)))) (tOp rIsN (tVar 7) (tC .non))))) (tRet (tC (.bl false))) jQc) rd_x8))):=rfl
theorem x8_ok {D':Ends3} {G:Gp} {p q:Addr} {ms:List Int} {U V:Web} {a b:Nat} {o:Option (List Nat)} {v1 v2 v8 v10:Option T} (hp:G p=some (.lst (jKr ms))) (hq:G q=some (.lst [encW (tf U a),encW (tf V b)])) (u:AnyWeb U) (v:AnyWeb V) (ha:a<U.length) (hb:b<V.length) (ho:Lst (XS true U V a b) U V a b o) (hol:∀p,o=some p->p.length<=U.length*V.length)
  (kk:∀v10 G',G' p=some (.lst (jKr ms))->D'.nx [some (.ref p),v1,v2,some (encW U),some (encW V),some (.int (a:Nat)),some (.int (b:Nat)),some (oWay o),v8,some (.ref q),v10,none] G'):rd_x8 D' [some (.ref p),v1,v2,some (encW U),some (encW V),some (.int (a:Nat)),some (.int (b:Nat)),some (oWay o),v8,some (.ref q),v10,none] G:=by
 have hs:=sz
 have ul:=u.len
 have vl:=v.len
 have huv:U.length*V.length<=24*24:=Nat.mul_le_mul ul vl
 wp_walk using 1,rd_x8,iSeq,rNeA
 refine⟨_,jJp hq,?_⟩
 refine jUa (es:=[tf U a,tf V b]) (enc:=encW) (fun w=>T.int (w.length:Nat)) (by simp;omega) (fun G' s=>jJp (s _ _ hq)) ?_ ?_
 ·intro k w hk G3 K K0 s3 hK
  wp_walk using 1,encW,lJb
  exact hK G3 (.refl _)
 ·intro Dm G3 hDm h5 s3
  wp_walk using 1,encW,lJb
  refine⟨by omega,fun z hz=> ?_⟩
  have hzD:Dm≠z:=jJd h5 hz
  have e1:(gup G3 z (GO.lst [T.int (U.length:Nat),T.int (V.length:Nat)])) Dm=some (.lst (jJl [U.length,V.length])):=by rw[jJi hzD,h5];simp[kUf u ha,kUf v hb,jJl]
  have e2:(gup G3 z (GO.lst [T.int (U.length:Nat),T.int (V.length:Nat)])) z=some (.lst (jJl [U.length,V.length])):=jJg
  have p4:(gup G3 z (GO.lst [T.int (U.length:Nat),T.int (V.length:Nat)])) p=some (.lst (jKr ms)):=by
   have:=s3 _ _ hp
   rw[jJi (jJd this hz)];exact this
  generalize gup G3 z (GO.lst [T.int (U.length:Nat),T.int (V.length:Nat)])=G4 at e1 e2 p4 ⊢
  refine⟨true,by rw[eqG_lists e1 e2,decide_eq_true rfl],?_⟩
  rw[if_neg (by decide)]
  cases o with
  | none=>
   rw[if_neg (by simp[oWay])]
   refine⟨U,V,a,b,rfl,u.fine,v.fine,ha,hb,by omega,fun o' G5 ho' s5=> ?_⟩
   cases o' with
   | none=>
    rw[if_neg (by simp[oWay])]
    exact kk _ G5 (s5 _ _ p4)
   | some p'=>
    obtain⟨q',_,hq'⟩:=kVu (a:=a) (b:=b) p' a b ho'.1
    exact absurd hq' (ho q')
  | some pw=>
   rw[if_pos (by simp[oWay,wayT])]
   refine⟨U,V,a,b,pw,rfl,u,v,ha,hb,by have:=hol pw rfl;omega,ho.1,fun q' hq'=>sle_len (ho.2 q' hq'),fun G5 s5=>⟨_,rfl,?_⟩⟩
   rw[if_neg (by decide)]
   refine⟨U,V,a,b,rfl,u.fine,v.fine,ha,hb,by omega,fun o' G6 ho' s6=> ?_⟩
   have p6:=s6 _ _ (s5 _ _ p4)
   dsimp only
   cases o' with
   | none=>
    rw[if_neg (by simp[oWay])]
    exact kk _ G6 p6
   | some p'=>
    rw[if_pos (by simp[oWay,wayT]),if_neg (by simp[oWay,wayT])]
    obtain⟨q',hl',hq'⟩:=kVu (a:=a) (b:=b) p' a b ho'.1
    have:=sle_len (ho.2 q' hq')
    refine⟨_,rfl,_,rfl,?_⟩
    rw[if_neg (by simp[jJl];omega)]
    exact kk _ G6 p6
theorem x4_ok {D':Ends3} {G:Gp} {p:Addr} {ms:List Int} {U V:Web} {a b:Nat} {v1 v2 v7 v8 v9 v10:Option T} (hp:G p=some (.lst (jKr ms))) (u:AnyWeb U) (v:AnyWeb V) (ha:a<U.length) (hb:b<V.length)
  (kk:∀v7 v8 v9 v10 G',G' p=some (.lst (jKr ms))->D'.nx [some (.ref p),v1,v2,some (encW U),some (encW V),some (.int (a:Nat)),some (.int (b:Nat)),v7,v8,v9,v10,none] G'):rd_x4 D' [some (.ref p),v1,v2,some (encW U),some (encW V),some (.int (a:Nat)),some (.int (b:Nat)),v7,v8,v9,v10,none] G:=by
 have hs:=sz
 have ul:=u.len
 have vl:=v.len
 have huv:U.length*V.length<=24*24:=Nat.mul_le_mul ul vl
 rw[rd_x4_eq]
 wp_walk using 1,kVd,rNeA,rEqA
 refine⟨U,V,a,b,rfl,u.fine,v.fine,ha,hb,by omega,fun o G1 ho hol s1=> ?_⟩
 refine⟨U,a,V,b,rfl,u,v,ha,hb,fun G2 s2=> ?_⟩
 refine map_new u ha fun G3 s3=>map_new v hb fun G4 s4=>⟨by omega,fun q hq=> ?_⟩
 rw[told_tf,told_tf]
 have p5:(gup G4 q (GO.lst [encW (tf U a),encW (tf V b)])) p=some (.lst (jKr ms)):=by
  have:=s4 _ _ (s3 _ _ (s2 _ _ (s1 _ _ hp)))
  rw[jJi (jJd this hq)];exact this
 have q5:(gup G4 q (GO.lst [encW (tf U a),encW (tf V b)])) q=some (.lst [encW (tf U a),encW (tf V b)]):=jJg
 generalize gup G4 q (GO.lst [encW (tf U a),encW (tf V b)])=G5 at p5 q5 ⊢
 have key:=stone_tf u v ha hb ho
 have fin:=x8_ok (D':=D') (v1:=v1) (v2:=v2) (v8:=some (encO (Tw U a V b))) (v10:=v10) p5 q5 u v ha hb ho hol fun v10 G' e=>kk _ _ _ v10 G' e
 refine⟨_,eqG_tt,?_⟩
 cases o with
 | none=>
  have e:tf U a=tf V b:=of_decide_eq_true key.symm
  obtain⟨mm,hT⟩:∃mm,Tw U a V b=some mm:=⟨_,by unfold Tw;rw[if_pos e]⟩
  rw[hT] at fin ⊢
  rw[if_neg (by simp[oWay,encO])]
  refine⟨_,kXr,_,eqG_tt,?_⟩
  rw[decide_eq_true e,if_neg (by simp[oWay])]
  exact fin
 | some pw=>
  have e:¬ tf U a=tf V b:=of_decide_eq_false key.symm
  have hT:Tw U a V b=none:=by unfold Tw;rw[if_neg e]
  rw[hT] at fin ⊢
  rw[if_neg (by simp[oWay,wayT,encO])]
  refine⟨_,kXr,_,eqG_tt,?_⟩
  rw[decide_eq_false e,if_neg (by simp[oWay,wayT])]
  exact fin
theorem rdok_law:∀xs G Q,sp_law xs G Q->rd_law {nx:=fun _ G'=>Q .non G',rt:=Q} (jJk N_law xs) G:=by
 intro xs G Q h_;apply xe1 h_;clear h_;intro ns h_;apply ae2 h_;clear h_;intro hl kk
 rw[show jJk N_law [.scr (jKr ns)]=[some (.scr (jKr ns)),none,none,none,none,none,none,none,none,none,none,none] from rfl,rd_x_eq]
 have hsz:=sz
 wp_walk using 1,jJ6,jQo,rMax
 refine⟨ns,8,rfl,hl,by decide,by decide,fun p G1 ms hp0 hp hm8 hm63 s1=> ?_⟩
 have hm8:ms.length<=8:=hm8
 wp_walk using 1,jJp hp,jKr,lJb
 refine⟨by split<;>omega,by split<;>omega,?_⟩
 let J0:Nat->St3->Gp->Prop:=fun i τ G'=>∃(v1 v2 v3 v4 v5 v6 v7 v8 v9 v10:Option T),τ=[some (.ref p),v1,v2,v3,v4,v5,v6,v7,v8,v9,v10,none]/\G' p=some (.lst (jKr ms))
 refine⟨J0,?_,?_,?_,?_⟩
 ·exact⟨_,_,_,_,_,_,_,_,_,_,rfl,hp⟩
 ·intros;trivial
 ·intro k x τ G2 hx h_;apply xe10 h_;clear h_;intro v1 v2 v3 v4 v5 v6 v7 v8 v9 v10 h2
  obtain⟨hk,rfl⟩:=jVl hx
  have hk8:k<9:=by split at hk<;>omega
  wp_walk using 1,tSeq
  refine⟨p,ms,k,rfl,h2,hm63,by omega,by omega,fun b G3 hb0 hb3 s3=> ?_⟩
  have pb:p≠b:=jJd h2 hb0
  refine⟨b,0,rfl,hb3,by decide,fun U V G4 u v b4 k4=> ?_⟩
  have h4:=k4 _ _ pb (s3 _ _ h2)
  have ul:=u.len
  have up:=u.pos
  have vl:=v.len
  have vp:=v.pos
  refine⟨_,rfl,rfl,_,_,rfl,_,_,rfl,rfl,_,rfl,?_⟩
  rw[lJb]
  refine⟨b,_,_,rfl,b4,by decide,by omega,by omega,fun a G5 a0 a1 b5 k5=> ?_⟩
  obtain⟨a,rfl⟩:=lJ7 a0
  have h5:=k5 _ _ pb h4
  refine⟨_,rfl,_,rfl,by rw[lJb];omega,_,rfl,?_⟩
  rw[lJb]
  refine⟨b,_,_,rfl,b5,by decide,by omega,by omega,fun c G6 c0 c1 b6 k6=>⟨by omega,fun q hq=> ?_⟩⟩
  obtain⟨c,rfl⟩:=lJ7 c0
  obtain⟨bo,hbo⟩:=b6.some
  have bq:b≠q:=jJd hbo hq
  have h6:=k6 _ _ pb h5
  have pq:p≠q:=jJd h6 hq
  refine⟨b,_,_,rfl,b6.gup bq,by decide,by decide,by decide,fun d G7 d0 d1 b7 k7=> ?_⟩
  have h7:=k7 _ _ pb (show (gup G6 q (GO.lst [T.int ((a:Int)%(V.length:Nat)),T.int (c:Nat)])) p=_ by rw[jJi pq];exact h6)
  have q7:=k7 _ _ bq.symm (jJg (G:=G6) (a:=q) (o:=GO.lst [T.int ((a:Int)%(V.length:Nat)),T.int (c:Nat)]))
  obtain⟨y,hy,hyl⟩:∃y:Nat,ixR G7 (.ref q) (.int d)=some (.int (y:Nat))/\y<V.length:=by
   rw[jQu q7]
   obtain⟨d,rfl⟩:=lJ7 d0
   have:d=0\/d=1:=by omega
   rcases this with rfl | rfl
   ·exact⟨a%V.length,rfl,Nat.mod_lt _ (by omega)⟩
   ·exact⟨c,rfl,by omega⟩
  refine⟨_,hy,?_⟩
  exact x4_ok h7 u v (by omega) hyl fun _ _ _ _ G' e=>⟨_,_,_,_,_,_,_,_,_,_,rfl,e⟩
 ·intro τ G2 h_;apply xe10 h_;clear h_;intro v1 v2 v3 v4 v5 v6 v7 v8 v9 v10 h2
  wp_walk using 1,tSeq
  exact kk _
end W
namespace W
open PySem PySem.Spec PyProof.Rows L2 L3
noncomputable def top (i:Nat):Stmt:=PySem.Challenge.pw_stonewalker_k86_whole_told_by_one_stone.main.body.getD i (.Pass ⟨0,0,0,0⟩)
structure Txt (mg:Str->Option Value):Prop where
 n_abs:mg "abs"=none
 n_all:mg "all"=none
 n_dict:mg "dict"=none
 n_divmod:mg "divmod"=none
 n_enumerate:mg "enumerate"=none
 n_int:mg "int"=none
 n_len:mg "len"=none
 n_list:mg "list"=none
 n_max:mg "max"=none
 n_range:mg "range"=none
 n_reversed:mg "reversed"=none
 n_tuple:mg "tuple"=none
 n_zip:mg "zip"=none
structure Ocl (K:PySem.W.Frag):Prop where
 o_Walker_came:ObF K "Walker" "came"
 o_Walker_held:ObF K "Walker" "held"
 o_Walker_lying:ObF K "Walker" "lying"
 o_Walker_room:ObF K "Walker" "room"
 o_Walker_walked:ObF K "Walker" "walked"
 o_Walker_web:ObF K "Walker" "web"
noncomputable abbrev jQ1:Stmt:=kJb (top 28) 0
theorem sc_Walker_init:FnScope ["self","web","room","stones"] ["self","web","room","stones"] (jJh jQ1):=⟨rfl,rfl,rfl,by decide +kernel,rfl,by decide +kernel,by decide +kernel⟩
variable {P:Program} {w:World} {K:PySem.W.Frag} {mg:Str->Option Value} {base:Heap} {f:Addr} {fd:FuncData}
theorem kQ1 (T:Txt mg) (O:Ocl K) (F:Fun K "__init__" "Walker.__init__" jQ1 f fd) 
  (h:∀xs G Q,jJy xs G Q->jU1 {nx:=fun _ G'=>Q .non G',rt:=Q} (jJk ["self","web","room","stones"] xs) G):Fn3 P w K mg base 1 f fd ["self","web","room","stones"] jJy:=by
 refine fn3 F sc_Walker_init fun cdv A outer s H E hr=>⟨jU1,?_,h⟩
 have hu:=jQj hr
 have nd:=sc_Walker_init.nd
 exact (jJe (kKh O.o_Walker_web (jJc 0) (jJc 1))
   (jJe (kKh O.o_Walker_room (jJc 0) (jJc 2))
   (jJe (kKh O.o_Walker_came (jJc 0) jZq)
   (jJe (kKh O.o_Walker_held (jJc 0) (jJc 3))
   (jJe (kKh O.o_Walker_lying (jJc 0) (jQ7 jJf))
   (jJm (kKh O.o_Walker_walked (jJc 0) jJo)))))))
noncomputable abbrev jQ2:Stmt:=kJb (top 28) 1
theorem sc_Walker_here:FnScope ["self"] ["self"] (jJh jQ2):=⟨rfl,rfl,rfl,by decide +kernel,rfl,by decide +kernel,by decide +kernel⟩
theorem kQ2 (T:Txt mg) (O:Ocl K) (F:Fun K "here" "Walker.here" jQ2 f fd) 
  (h:∀xs G Q,jJr xs G Q->jU2 {nx:=fun _ G'=>Q .non G',rt:=Q} (jJk ["self"] xs) G):Fn3 P w K mg base 1 f fd ["self"] jJr:=by
 refine fn3 F sc_Walker_here fun cdv A outer s H E hr=>⟨jU2,?_,h⟩
 have hu:=jQj hr
 have nd:=sc_Walker_here.nd
 exact (jJm (jKh (jKz (jJa (jJv jQh (by rfl) T.n_len PySem.boot_len (jJa (e_ix (ix_F hu) (jXc O.o_Walker_web (jJc 0)) (jXc O.o_Walker_room (jJc 0)) (fun _ _=>rfl)) jJf)) (jJa (jXc O.o_Walker_came (jJc 0)) (jJa (e_bm PySem.F.plainAttrs_list PySem.F.slot_list_count PySem.F.type_list_count m_count (jXc O.o_Walker_lying (jJc 0)) (jJa (jXc O.o_Walker_room (jJc 0)) jJf)) jJf))))))
noncomputable abbrev jUu:Stmt:=kJb (top 28) 2
theorem sc_Walker_go:FnScope ["self","door","end"] ["self","door"] (jJh jUu):=⟨rfl,rfl,rfl,by decide +kernel,rfl,by decide +kernel,by decide +kernel⟩
theorem ok_Walker_go (T:Txt mg) (O:Ocl K) (F:Fun K "go" "Walker.go" jUu f fd) (C_Walker_here:CalM P w K mg base 1 "Walker" "here" ["self"] jJr)
  (h:∀xs G Q,jJu xs G Q->jVy {nx:=fun _ G'=>Q .non G',rt:=Q} (jJk ["self","door","end"] xs) G):Fn3 P w K mg base 2 f fd ["self","door"] jJu:=by
 refine fn3 F sc_Walker_go fun cdv A outer s H E hr=>⟨jVy,?_,h⟩
 have hu:=jQj hr
 have nd:=sc_Walker_go.nd
 exact (jJe (s_if (t_not (t_chain (o_leF hu) o_lt jJo (jJc 1) (jJv jQh (by rfl) T.n_len PySem.boot_len (jJa (e_ix (ix_F hu) (jXc O.o_Walker_web (jJc 0)) (jXc O.o_Walker_room (jJc 0)) (fun _ _=>rfl)) jJf)))) (jJm kVi) jQb)
   (jJe (jJ5 (i:=2) nd (e_ix (ix_F hu) (e_ix (ix_F hu) (jXc O.o_Walker_web (jJc 0)) (jXc O.o_Walker_room (jJc 0)) (fun _ _=>rfl)) (jJc 1) (fun _ _=>rfl)))
   (jJe (kKh O.o_Walker_room (jJc 0) (e_ix (ix_F hu) (jJc 2) jJo (fun _ _=>rfl)))
   (jJe (kKh O.o_Walker_came (jJc 0) (e_ix (ix_F hu) (jJc 2) jJo (fun _ _=>rfl)))
   (jJe (kKh O.o_Walker_walked (jJc 0) (e_op o_addF (jXc O.o_Walker_walked (jJc 0)) jJo))
   (jJm (jKh (jYa C_Walker_here (hr.mono (by decide)) (jJc 0)))))))))
noncomputable abbrev jUd:Stmt:=kJb (top 28) 3
theorem sc_Walker_lay:FnScope ["self"] ["self"] (jJh jUd):=⟨rfl,rfl,rfl,by decide +kernel,rfl,by decide +kernel,by decide +kernel⟩
theorem kVx (T:Txt mg) (O:Ocl K) (F:Fun K "lay" "Walker.lay" jUd f fd) (C_Walker_here:CalM P w K mg base 1 "Walker" "here" ["self"] jJr)
  (h:∀xs G Q,jKk xs G Q->jVa {nx:=fun _ G'=>Q .non G',rt:=Q} (jJk ["self"] xs) G):Fn3 P w K mg base 2 f fd ["self"] jKk:=by
 refine fn3 F sc_Walker_lay fun cdv A outer s H E hr=>⟨jVa,?_,h⟩
 have hu:=jQj hr
 have nd:=sc_Walker_lay.nd
 exact (jJe (s_if (jQv (jZ5 hr.units) (jXc O.o_Walker_held (jJc 0)) jJo (jJz _)) (jJm kVi) jQb)
   (jJe (kKh O.o_Walker_held (jJc 0) (e_op o_sub (jXc O.o_Walker_held (jJc 0)) jJo))
   (jJe (jQn (e_bm PySem.F.plainAttrs_list PySem.F.slot_list_append PySem.F.type_list_append jQk (jXc O.o_Walker_lying (jJc 0)) (jJa (jXc O.o_Walker_room (jJc 0)) jJf)))
   (jJm (jKh (jYa C_Walker_here (hr.mono (by decide)) (jJc 0)))))))
noncomputable abbrev jQ0:Stmt:=kJb (top 28) 4
theorem sc_Walker_take:FnScope ["self"] ["self"] (jJh jQ0):=⟨rfl,rfl,rfl,by decide +kernel,rfl,by decide +kernel,by decide +kernel⟩
theorem kQ0 (T:Txt mg) (O:Ocl K) (F:Fun K "take" "Walker.take" jQ0 f fd) (C_Walker_here:CalM P w K mg base 1 "Walker" "here" ["self"] jJr)
  (h:∀xs G Q,jKd xs G Q->jU0 {nx:=fun _ G'=>Q .non G',rt:=Q} (jJk ["self"] xs) G):Fn3 P w K mg base 2 f fd ["self"] jKd:=by
 refine fn3 F sc_Walker_take fun cdv A outer s H E hr=>⟨jU0,?_,h⟩
 have hu:=jQj hr
 have nd:=sc_Walker_take.nd
 exact (jJe (s_if (jQv (jZi hu) (jXc O.o_Walker_room (jJc 0)) (jXc O.o_Walker_lying (jJc 0)) (jJz _)) (jJm kVi) jQb)
   (jJe (jQn (e_bm PySem.F.plainAttrs_list PySem.F.slot_list_remove PySem.F.type_list_remove m_remove (jXc O.o_Walker_lying (jJc 0)) (jJa (jXc O.o_Walker_room (jJc 0)) jJf)))
   (jJe (kKh O.o_Walker_held (jJc 0) (e_op o_addF (jXc O.o_Walker_held (jJc 0)) jJo))
   (jJm (jKh (jYa C_Walker_here (hr.mono (by decide)) (jJc 0)))))))
noncomputable abbrev jK6:Stmt:=kJb (top 28) 5
theorem sc_Walker_in_hand:FnScope ["self"] ["self"] (jJh jK6):=⟨rfl,rfl,rfl,by decide +kernel,rfl,by decide +kernel,by decide +kernel⟩
theorem jZ3 (T:Txt mg) (O:Ocl K) (F:Fun K "in_hand" "Walker.in_hand" jK6 f fd) 
  (h:∀xs G Q,jJ3 xs G Q->jQ3 {nx:=fun _ G'=>Q .non G',rt:=Q} (jJk ["self"] xs) G):Fn3 P w K mg base 1 f fd ["self"] jJ3:=by
 refine fn3 F sc_Walker_in_hand fun cdv A outer s H E hr=>⟨jQ3,?_,h⟩
 have hu:=jQj hr
 have nd:=sc_Walker_in_hand.nd
 exact (jJm (jKh (jXc O.o_Walker_held (jJc 0))))
noncomputable abbrev jQf:Stmt:=top 2
theorem sc_first_comings:FnScope ["web","room","comings","level","further","here","door","end"] ["web","room"] (jJh jQf):=⟨rfl,rfl,rfl,by decide +kernel,rfl,by decide +kernel,by decide +kernel⟩
theorem kJs (T:Txt mg) (O:Ocl K) (F:Fun K "first_comings" "first_comings" jQf f fd) 
  (h:∀xs G Q,jJ1 xs G Q->jQ9 {nx:=fun _ G'=>Q .non G',rt:=Q} (jJk ["web","room","comings","level","further","here","door","end"] xs) G):Fn3 P w K mg base 1 f fd ["web","room"] jJ1:=by
 refine fn3 F sc_first_comings fun cdv A outer s H E hr=>⟨jQ9,?_,h⟩
 have hu:=jQj hr
 have nd:=sc_first_comings.nd
 exact (jJe (jJ5 (i:=2) nd (e_disp1 (jJc 1) jZq))
   (jJe (jJ5 (i:=3) nd (jQ7 (jJa (jJc 1) jJf)))
   (jJe (kKg PassesOwn.never (t_tru kU9 (jJc 3)) (jJe (jJ5 (i:=4) nd (jQ7 jJf))
   (jJe (jQz PassesOwn.never rfl (jV2 (jJc 3)) (jJs (i:=5) nd) (jJm (jQz PassesOwn.never rfl (i_enT rfl T.n_enumerate rfl (jJa (e_ix (ix_F hu) (jJc 0) (jJc 5) (fun _ _=>rfl)) jJf)) (jXb rfl (jJ2 (jJs (i:=6) nd) (jJ2 (jJs (i:=7) nd) jUf))) (jJm (s_if (jQv (jZi hu) (e_ix (ix_F hu) (jJc 7) jJo (fun _ _=>rfl)) (jJc 2) (jJz _)) (jJe (jYu (jKz (jJa (jJc 5) (jJa (jJc 6) jJf))) (jY4 (jJc 2) (e_ix (ix_F hu) (jJc 7) jJo (fun _ _=>rfl)) (s_F hu)))
   (jJm (jQn (e_bm PySem.F.plainAttrs_list PySem.F.slot_list_append PySem.F.type_list_append jQk (jJc 4) (jJa (e_ix (ix_F hu) (jJc 7) jJo (fun _ _=>rfl)) jJf))))) jQb)))))
   (jJm (jJ5 (i:=3) nd (jJc 4))))))
   (jJm (jKh (jJc 2))))))
noncomputable abbrev jV7:Stmt:=top 3
theorem sc_ends_on:FnScope ["web","room","way","ends","here","door","end"] ["web","room","way"] (jJh jV7):=⟨rfl,rfl,rfl,by decide +kernel,rfl,by decide +kernel,by decide +kernel⟩
theorem ok_ends_on (T:Txt mg) (O:Ocl K) (F:Fun K "ends_on" "ends_on" jV7 f fd) 
  (h:∀xs G Q,jQp xs G Q->jYk {nx:=fun _ G'=>Q .non G',rt:=Q} (jJk ["web","room","way","ends","here","door","end"] xs) G):Fn3 P w K mg base 1 f fd ["web","room","way"] jQp:=by
 refine fn3 F sc_ends_on fun cdv A outer s H E hr=>⟨jYk,?_,h⟩
 have hu:=jQj hr
 have nd:=sc_ends_on.nd
 exact (jJe (jJ5 (i:=3) nd (jQ7 jJf))
   (jJe (jJ5 (i:=4) nd (jJc 1))
   (jJe (jQz PassesOwn.never rfl (jV2 (jJc 2)) (jJs (i:=5) nd) (jJe (s_if (t_not (t_chain (o_leF hu) o_lt jJo (jJc 5) (jJv jQh (by rfl) T.n_len PySem.boot_len (jJa (e_ix (ix_F hu) (jJc 0) (jJc 4) (fun _ _=>rfl)) jJf)))) (jJm (jKh jZq)) jQb)
   (jJe (jJ5 (i:=6) nd (e_ix (ix_F hu) (e_ix (ix_F hu) (jJc 0) (jJc 4) (fun _ _=>rfl)) (jJc 5) (fun _ _=>rfl)))
   (jJe (jQn (e_bm PySem.F.plainAttrs_list PySem.F.slot_list_append PySem.F.type_list_append jQk (jJc 3) (jJa (jJc 6) jJf)))
   (jJm (jJ5 (i:=4) nd (e_ix (ix_F hu) (jJc 6) jJo (fun _ _=>rfl))))))))
   (jJm (jKh (jJc 3))))))
noncomputable abbrev kUj:Stmt:=top 5
theorem sc_look:FnScope ["web","first","end","stone"] ["web","first","end","stone"] (jJh kUj):=⟨rfl,rfl,rfl,by decide +kernel,rfl,by decide +kernel,by decide +kernel⟩
theorem ok_look (T:Txt mg) (O:Ocl K) (F:Fun K "look" "look" kUj f fd) 
  (h:∀xs G Q,jUh xs G Q->kKm {nx:=fun _ G'=>Q .non G',rt:=Q} (jJk ["web","first","end","stone"] xs) G):Fn3 P w K mg base 1 f fd ["web","first","end","stone"] jUh:=by
 refine fn3 F sc_look fun cdv A outer s H E hr=>⟨kKm,?_,h⟩
 have hu:=jQj hr
 have nd:=sc_look.nd
 exact (jJe (s_if (t_tru kU9 (jJc 3)) (jJm (jKh (jKz (jJa (e_ix (ix_F hu) (jJc 2) jJo (fun _ _=>rfl)) (jJa (jJv jQh (by rfl) T.n_len PySem.boot_len (jJa (e_ix (ix_F hu) (jJc 0) (e_ix (ix_F hu) (jJc 2) jJo (fun _ _=>rfl)) (fun _ _=>rfl)) jJf)) (jJa (e_ifExp (jQv (jZ5 hr.units) (e_ix (ix_F hu) (jJc 2) jJo (fun _ _=>rfl)) (jJc 1) (jJz _)) jJo jJo) jJf)))))) jQb)
   (jJm (jKh (jKz (jJa (e_ix (ix_F hu) (jJc 2) jJo (fun _ _=>rfl)) (jJa (jJv jQh (by rfl) T.n_len PySem.boot_len (jJa (e_ix (ix_F hu) (jJc 0) (e_ix (ix_F hu) (jJc 2) jJo (fun _ _=>rfl)) (fun _ _=>rfl)) jJf)) jJf))))))
noncomputable abbrev jQw:Stmt:=top 6
theorem sc_walked_both:FnScope ["one","a","other","b","stone","pairs","level","further","pair","way","door","left","right","come_to"] ["one","a","other","b","stone"] (jJh jQw):=⟨rfl,rfl,rfl,by decide +kernel,rfl,by decide +kernel,by decide +kernel⟩
theorem kQx (T:Txt mg) (O:Ocl K) (F:Fun K "walked_both" "walked_both" jQw f fd) (C_look:Cal P w K mg base 1 "look" ["web","first","end","stone"] jUh)
  (h:∀xs G Q,jJ4 xs G Q->jUx {nx:=fun _ G'=>Q .non G',rt:=Q} (jJk ["one","a","other","b","stone","pairs","level","further","pair","way","door","left","right","come_to"] xs) G):Fn3 P w K mg base 2 f fd ["one","a","other","b","stone"] jJ4:=by
 refine fn3 F sc_walked_both fun cdv A outer s H E hr=>⟨jUx,?_,h⟩
 have hu:=jQj hr
 have nd:=sc_walked_both.nd
 exact (jJe (jJ5 (i:=5) nd (e_disp1T hu (jKz (jJa (jJc 1) (jJa (jJc 3) jJf))) e_bl))
   (jJe (s_if (jQv (o_neA hr.units) (jJv jQh (by rfl) T.n_len PySem.boot_len (jJa (e_ix (ix_F hu) (jJc 0) (jJc 1) (fun _ _=>rfl)) jJf)) (jJv jQh (by rfl) T.n_len PySem.boot_len (jJa (e_ix (ix_F hu) (jJc 2) (jJc 3) (fun _ _=>rfl)) jJf)) (jJz _)) (jJm (jKh (jKz (jJa (jKz jJf) (jJa (jJc 5) jJf))))) jQb)
   (jJe (jJ5 (i:=6) nd (jQ7 (jJa (jKz (jJa (jKz (jJa (jJc 1) (jJa (jJc 3) jJf))) (jJa (jKz jJf) jJf))) jJf)))
   (jJe (kKg PassesOwn.never (t_tru kU9 (jJc 6)) (jJe (jJ5 (i:=7) nd (jQ7 jJf))
   (jJe (jQz PassesOwn.never rfl (jV2 (jJc 6)) (jXb rfl (jJ2 (jJs (i:=8) nd) (jJ2 (jJs (i:=9) nd) jUf))) (jJm (jQz PassesOwn.never rfl (i_enT rfl T.n_enumerate rfl (jJa (e_ix (ix_F hu) (jJc 0) (e_ix (ix_F hu) (jJc 8) jJo (fun _ _=>rfl)) (fun _ _=>rfl)) jJf)) (jXb rfl (jJ2 (jJs (i:=10) nd) (jJ2 (jJs (i:=11) nd) jUf))) (jJe (jJ5 (i:=12) nd (e_ix (ix_F hu) (e_ix (ix_F hu) (jJc 2) (e_ix (ix_F hu) (jJc 8) jJo (fun _ _=>rfl)) (fun _ _=>rfl)) (jJc 10) (fun _ _=>rfl)))
   (jJe (s_if (jQv (o_neA hr.units) (jKa C_look (hr.mono (by decide)) (jJa (jJc 0) (jJa (jJc 1) (jJa (jJc 11) (jJa (jJc 4) jJf))))) (jKa C_look (hr.mono (by decide)) (jJa (jJc 2) (jJa (jJc 3) (jJa (jJc 12) (jJa (jJc 4) jJf))))) (jJz _)) (jJm (jKh (jKz (jJa (e_op kUl (jJc 9) (jKz (jJa (jJc 10) jJf))) (jJa (jJc 5) jJf))))) jQb)
   (jJe (jJ5 (i:=13) nd (jKz (jJa (e_ix (ix_F hu) (jJc 11) jJo (fun _ _=>rfl)) (jJa (e_ix (ix_F hu) (jJc 12) jJo (fun _ _=>rfl)) jJf))))
   (jJm (s_if (jQv (jZi hu) (jJc 13) (jJc 5) (jJz _)) (jJe (jYu e_bl (jY4 (jJc 5) (jJc 13) (s_F hu)))
   (jJm (jQn (e_bm PySem.F.plainAttrs_list PySem.F.slot_list_append PySem.F.type_list_append jQk (jJc 7) (jJa (jKz (jJa (jJc 13) (jJa (e_op kUl (jJc 9) (jKz (jJa (jJc 10) jJf))) jJf))) jJf))))) jQb))))))))
   (jJm (jJ5 (i:=6) nd (jJc 7))))))
   (jJm (jKh (jKz (jJa jZq (jJa (jJc 5) jJf)))))))))
noncomputable abbrev jV4:Stmt:=top 7
theorem sc_parting:FnScope ["one","a","other","b"] ["one","a","other","b"] (jJh jV4):=⟨rfl,rfl,rfl,by decide +kernel,rfl,by decide +kernel,by decide +kernel⟩
theorem ok_parting (T:Txt mg) (O:Ocl K) (F:Fun K "parting" "parting" jV4 f fd) (C_walked_both:Cal P w K mg base 2 "walked_both" ["one","a","other","b","stone"] jJ4)
  (h:∀xs G Q,jK4 xs G Q->jYh {nx:=fun _ G'=>Q .non G',rt:=Q} (jJk ["one","a","other","b"] xs) G):Fn3 P w K mg base 3 f fd ["one","a","other","b"] jK4:=by
 refine fn3 F sc_parting fun cdv A outer s H E hr=>⟨jYh,?_,h⟩
 have hu:=jQj hr
 have nd:=sc_parting.nd
 exact (jJm (jKh (e_ix (ix_F hu) (jKa C_walked_both (hr.mono (by decide)) (jJa (jJc 0) (jJa (jJc 1) (jJa (jJc 2) (jJa (jJc 3) (jJa e_bl jJf)))))) jJo (fun _ _=>rfl))))
noncomputable abbrev jKx:Stmt:=top 8
theorem sc_seen_with_stone:FnScope ["web","room","way","ends","end"] ["web","room","way"] (jJh jKx):=⟨rfl,rfl,rfl,by decide +kernel,rfl,by decide +kernel,by decide +kernel⟩
theorem jZh (T:Txt mg) (O:Ocl K) (F:Fun K "seen_with_stone" "seen_with_stone" jKx f fd) (C_ends_on:Cal P w K mg base 1 "ends_on" ["web","room","way"] jQp) (C_look:Cal P w K mg base 1 "look" ["web","first","end","stone"] jUh)
  (h:∀xs G Q,jJn xs G Q->jQr {nx:=fun _ G'=>Q .non G',rt:=Q} (jJk ["web","room","way","ends","end"] xs) G):Fn3 P w K mg base 2 f fd ["web","room","way"] jJn:=by
 refine fn3 F sc_seen_with_stone fun cdv A outer s H E hr=>⟨jQr,?_,h⟩
 have hu:=jQj hr
 have nd:=sc_seen_with_stone.nd
 exact (jJe (jJ5 (i:=3) nd (jKa C_ends_on (hr.mono (by decide)) (jJa (jJc 0) (jJa (jJc 1) (jJa (jJc 2) jJf)))))
   (jJe (s_if (jQv o_isN (jJc 3) jZq (jJz _)) (jJm (jKh jZq)) jQb)
   (jJm (jKh (jKl jUm (by rfl) T.n_tuple rfl (jJa (e_op o_addF (jQ7 (jJa (jJv jQh (by rfl) T.n_len PySem.boot_len (jJa (e_ix (ix_F hu) (jJc 0) (jJc 1) (fun _ _=>rfl)) jJf)) jJf)) (jVz (mask:=[false,false,false,false,true]) rfl ⟨rfl,rfl,rfl,rfl,rfl,rfl,rfl⟩ (jV2 (jJc 3)) jQg (fun C fp s H=>(jJs (i:=4) nd)) (fun C fp s H=>jVn) (fun C fp s H=>(jKa C_look (hr.mono (by decide)) (jJa (jJc 0) (jJa (jJc 1) (jJa (jJc 4) (jJa e_bl jJf)))))))) jJf))))))
noncomputable abbrev jKf:Stmt:=top 9
theorem sc_parting_with_stone:FnScope ["one","a","other","b"] ["one","a","other","b"] (jJh jKf):=⟨rfl,rfl,rfl,by decide +kernel,rfl,by decide +kernel,by decide +kernel⟩
theorem jX6 (T:Txt mg) (O:Ocl K) (F:Fun K "parting_with_stone" "parting_with_stone" jKf f fd) (C_walked_both:Cal P w K mg base 2 "walked_both" ["one","a","other","b","stone"] jJ4)
  (h:∀xs G Q,jJq xs G Q->jK8 {nx:=fun _ G'=>Q .non G',rt:=Q} (jJk ["one","a","other","b"] xs) G):Fn3 P w K mg base 3 f fd ["one","a","other","b"] jJq:=by
 refine fn3 F sc_parting_with_stone fun cdv A outer s H E hr=>⟨jK8,?_,h⟩
 have hu:=jQj hr
 have nd:=sc_parting_with_stone.nd
 exact (jJm (jKh (e_ix (ix_F hu) (jKa C_walked_both (hr.mono (by decide)) (jJa (jJc 0) (jJa (jJc 1) (jJa (jJc 2) (jJa (jJc 3) (jJa e_bl jJf)))))) jJo (fun _ _=>rfl))))
noncomputable abbrev jV8:Stmt:=top 11
theorem sc_ends_by:FnScope ["ends","numbers","end"] ["ends","numbers"] (jJh jV8):=⟨rfl,rfl,rfl,by decide +kernel,rfl,by decide +kernel,by decide +kernel⟩
theorem ok_ends_by (T:Txt mg) (O:Ocl K) (F:Fun K "ends_by" "ends_by" jV8 f fd) 
  (h:∀xs G Q,jQq xs G Q->jYl {nx:=fun _ G'=>Q .non G',rt:=Q} (jJk ["ends","numbers","end"] xs) G):Fn3 P w K mg base 1 f fd ["ends","numbers"] jQq:=by
 refine fn3 F sc_ends_by fun cdv A outer s H E hr=>⟨jYl,?_,h⟩
 have hu:=jQj hr
 have nd:=sc_ends_by.nd
 exact (jJm (jKh (jKl jUm (by rfl) T.n_tuple rfl (jJa (jVz (mask:=[false,false,true]) rfl ⟨rfl,rfl,rfl,rfl,rfl,rfl,rfl⟩ (jV2 (jJc 0)) jQg (fun C fp s H=>(jJs (i:=2) nd)) (fun C fp s H=>jVn) (fun C fp s H=>(jKz (jJa (e_ix (ix_F hu) (jJc 1) (e_ix (ix_F hu) (jJc 2) jJo (fun _ _=>rfl)) (fun _ _=>rfl)) (jJa (e_ix (ix_F hu) (jJc 2) jJo (fun _ _=>rfl)) jJf))))) jJf))))
noncomputable abbrev jUc:Stmt:=top 12
theorem sc_renumbered:FnScope ["web","numbers","rooms","room","ends"] ["web","numbers"] (jJh jUc):=⟨rfl,rfl,rfl,by decide +kernel,rfl,by decide +kernel,by decide +kernel⟩
theorem kVw (T:Txt mg) (O:Ocl K) (F:Fun K "renumbered" "renumbered" jUc f fd) (C_ends_by:Cal P w K mg base 1 "ends_by" ["ends","numbers"] jQq)
  (h:∀xs G Q,jKj xs G Q->jU9 {nx:=fun _ G'=>Q .non G',rt:=Q} (jJk ["web","numbers","rooms","room","ends"] xs) G):Fn3 P w K mg base 2 f fd ["web","numbers"] jKj:=by
 refine fn3 F sc_renumbered fun cdv A outer s H E hr=>⟨jU9,?_,h⟩
 have hu:=jQj hr
 have nd:=sc_renumbered.nd
 exact (jJe (jJ5 (i:=2) nd (jKl c_listA (by rfl) T.n_list rfl (jJa (jJc 0) jJf)))
   (jJe (jQz PassesOwn.never rfl (i_enT rfl T.n_enumerate rfl (jJa (jJc 0) jJf)) (jXb rfl (jJ2 (jJs (i:=3) nd) (jJ2 (jJs (i:=4) nd) jUf))) (jJm (jYu (jKa C_ends_by (hr.mono (by decide)) (jJa (jJc 4) (jJa (jJc 1) jJf))) (jY4 (jJc 2) (e_ix (ix_F hu) (jJc 1) (jJc 3) (fun _ _=>rfl)) (s_F hu)))))
   (jJm (jKh (jKl jUm (by rfl) T.n_tuple rfl (jJa (jJc 2) jJf))))))
noncomputable abbrev jUo:Stmt:=top 13
theorem sc_told_from:FnScope ["web","room","numbers","number","come_to"] ["web","room"] (jJh jUo):=⟨rfl,rfl,rfl,by decide +kernel,rfl,by decide +kernel,by decide +kernel⟩
theorem ok_told_from (T:Txt mg) (O:Ocl K) (F:Fun K "told_from" "told_from" jUo f fd) (C_first_comings:Cal P w K mg base 1 "first_comings" ["web","room"] jJ1) (C_renumbered:Cal P w K mg base 2 "renumbered" ["web","numbers"] jKj)
  (h:∀xs G Q,jKm xs G Q->jVs {nx:=fun _ G'=>Q .non G',rt:=Q} (jJk ["web","room","numbers","number","come_to"] xs) G):Fn3 P w K mg base 3 f fd ["web","room"] jKm:=by
 refine fn3 F sc_told_from fun cdv A outer s H E hr=>⟨jVs,?_,h⟩
 have hu:=jQj hr
 have nd:=sc_told_from.nd
 exact (jJe (jJ5 (i:=2) nd (kQa rfl T.n_list rfl T.n_range rfl (jJa (jJv jQh (by rfl) T.n_len PySem.boot_len (jJa (jJc 0) jJf)) jJf)))
   (jJe (jQz PassesOwn.never rfl (kUq rfl T.n_enumerate rfl (jJa (jKl (c_listD rfl) (by rfl) T.n_list rfl (jJa (jKa C_first_comings (hr.mono (by decide)) (jJa (jJc 0) (jJa (jJc 1) jJf))) jJf)) jJf)) (jXb rfl (jJ2 (jJs (i:=3) nd) (jJ2 (jJs (i:=4) nd) jUf))) (jJm (jYu (jJc 3) (jY4 (jJc 2) (jJc 4) (s_F hu)))))
   (jJm (jKh (jKa C_renumbered (hr.mono (by decide)) (jJa (jJc 0) (jJa (jKl jUm (by rfl) T.n_tuple rfl (jJa (jJc 2) jJf)) jJf)))))))
noncomputable abbrev jVe:Stmt:=top 14
theorem sc_same_web:FnScope ["one","a","other","b","partners","room"] ["one","a","other","b"] (jJh jVe):=⟨rfl,rfl,rfl,by decide +kernel,rfl,by decide +kernel,by decide +kernel⟩
theorem ok_same_web (T:Txt mg) (O:Ocl K) (F:Fun K "same_web" "same_web" jVe f fd) (C_told_from:Cal P w K mg base 3 "told_from" ["web","room"] jKm) (C_first_comings:Cal P w K mg base 1 "first_comings" ["web","room"] jJ1)
  (h:∀xs G Q,jKq xs G Q->jXm {nx:=fun _ G'=>Q .non G',rt:=Q} (jJk ["one","a","other","b","partners","room"] xs) G):Fn3 P w K mg base 4 f fd ["one","a","other","b"] jKq:=by
 refine fn3 F sc_same_web fun cdv A outer s H E hr=>⟨jXm,?_,h⟩
 have hu:=jQj hr
 have nd:=sc_same_web.nd
 exact (jJe (s_if (jQv (o_neA hr.units) (jKa C_told_from (hr.mono (by decide)) (jJa (jJc 0) (jJa (jJc 1) jJf))) (jKa C_told_from (hr.mono (by decide)) (jJa (jJc 2) (jJa (jJc 3) jJf))) (jJz _)) (jJm (jKh jZq)) jQb)
   (jJe (jJ5 (i:=4) nd (e_dzip rfl (by rfl) T.n_dict rfl (by rfl) T.n_zip rfl (jJa (jKl (c_listD rfl) (by rfl) T.n_list rfl (jJa (jKa C_first_comings (hr.mono (by decide)) (jJa (jJc 0) (jJa (jJc 1) jJf))) jJf)) (jJa (jKl (c_listD rfl) (by rfl) T.n_list rfl (jJa (jKa C_first_comings (hr.mono (by decide)) (jJa (jJc 2) (jJa (jJc 3) jJf))) jJf)) jJf))))
   (jJm (jKh (jKl jUm (by rfl) T.n_tuple rfl (jJa (jVz (mask:=[false,false,false,false,false,true]) rfl ⟨rfl,rfl,rfl,rfl,rfl,rfl,rfl⟩ (jQd rfl T.n_range (jJa (jJv jQh (by rfl) T.n_len PySem.boot_len (jJa (jJc 0) jJf)) jJf)) jQg (fun C fp s H=>(jJs (i:=5) nd)) (fun C fp s H=>jVn) (fun C fp s H=>(e_ix (ix_F hu) (jJc 4) (jJc 5) (fun _ _=>rfl)))) jJf))))))
noncomputable abbrev s_led:Stmt:=top 20
theorem sc_led:FnScope ["walker","way","door"] ["walker","way"] (jJh s_led):=⟨rfl,rfl,rfl,by decide +kernel,rfl,by decide +kernel,by decide +kernel⟩
theorem ok_led (T:Txt mg) (O:Ocl K) (F:Fun K "led" "led" s_led f fd) (C_Walker_go:CalM P w K mg base 2 "Walker" "go" ["self","door"] jJu)
  (h:∀xs G Q,jX4 xs G Q->rd_led {nx:=fun _ G'=>Q .non G',rt:=Q} (jJk ["walker","way","door"] xs) G):Fn3 P w K mg base 3 f fd ["walker","way"] jX4:=by
 refine fn3 F sc_led fun cdv A outer s H E hr=>⟨rd_led,?_,h⟩
 have hu:=jQj hr
 have nd:=sc_led.nd
 exact (jJm (jKh (jVz (mask:=[false,false,true]) rfl ⟨rfl,rfl,rfl,rfl,rfl,rfl,rfl⟩ (jV2 (jJc 1)) jQg (fun C fp s H=>(jJs (i:=2) nd)) (fun C fp s H=>jVn) (fun C fp s H=>(e_ix (ix_F hu) (e_meth C_Walker_go (hr.mono (by decide)) (jJc 0) (jJa (jJc 2) jJf)) jJo (fun _ _=>rfl))))))
noncomputable abbrev jVf:Stmt:=top 21
theorem sc_led_back:FnScope ["walker","doors","door"] ["walker","doors"] (jJh jVf):=⟨rfl,rfl,rfl,by decide +kernel,rfl,by decide +kernel,by decide +kernel⟩
theorem ok_led_back (T:Txt mg) (O:Ocl K) (F:Fun K "led_back" "led_back" jVf f fd) (C_Walker_go:CalM P w K mg base 2 "Walker" "go" ["self","door"] jJu)
  (h:∀xs G Q,jKe xs G Q->jXn {nx:=fun _ G'=>Q .non G',rt:=Q} (jJk ["walker","doors","door"] xs) G):Fn3 P w K mg base 3 f fd ["walker","doors"] jKe:=by
 refine fn3 F sc_led_back fun cdv A outer s H E hr=>⟨jXn,?_,h⟩
 have hu:=jQj hr
 have nd:=sc_led_back.nd
 exact (jJm (jQz PassesOwn.never rfl (i_reversed rfl T.n_reversed rfl (jJa (jJc 1) jJf)) (jJs (i:=2) nd) (jJm (jQn (e_meth C_Walker_go (hr.mono (by decide)) (jJc 0) (jJa (jJc 2) jJf))))))
noncomputable abbrev jUt:Stmt:=top 23
theorem sc_is_end_of:FnScope ["walker","way","doors","here","came","door"] ["walker","way","doors"] (jJh jUt):=⟨rfl,rfl,rfl,by decide +kernel,rfl,by decide +kernel,by decide +kernel⟩
theorem ok_is_end_of (T:Txt mg) (O:Ocl K) (F:Fun K "is_end_of" "is_end_of" jUt f fd) (C_Walker_here:CalM P w K mg base 1 "Walker" "here" ["self"] jJr) (C_Walker_go:CalM P w K mg base 2 "Walker" "go" ["self","door"] jJu) (C_led_back:Cal P w K mg base 3 "led_back" ["walker","doors"] jKe)
  (h:∀xs G Q,jKw xs G Q->jVx {nx:=fun _ G'=>Q .non G',rt:=Q} (jJk ["walker","way","doors","here","came","door"] xs) G):Fn3 P w K mg base 4 f fd ["walker","way","doors"] jKw:=by
 refine fn3 F sc_is_end_of fun cdv A outer s H E hr=>⟨jVx,?_,h⟩
 have hu:=jQj hr
 have nd:=sc_is_end_of.nd
 exact (jJe (jJ5 (i:=3) nd (jYa C_Walker_here (hr.mono (by decide)) (jJc 0)))
   (jJe (jJ5 (i:=4) nd (jQ7 jJf))
   (jJe (jQz PassesOwn.never rfl (i_revT rfl T.n_reversed rfl (jJa (jJc 2) jJf)) (jJs (i:=5) nd) (jJe (s_if (jQv o_ge (jJc 5) (e_ix (ix_F hu) (jJc 3) jJo (fun _ _=>rfl)) (jJz _)) (jJm s_break) jQb)
   (jJe (jJ5 (i:=3) nd (e_meth C_Walker_go (hr.mono (by decide)) (jJc 0) (jJa (jJc 5) jJf)))
   (jJm (jQn (e_bm PySem.F.plainAttrs_list PySem.F.slot_list_append PySem.F.type_list_append jQk (jJc 4) (jJa (e_ix (ix_F hu) (jJc 3) jJo (fun _ _=>rfl)) jJf)))))))
   (jJe (jQn (jKa C_led_back (hr.mono (by decide)) (jJa (jJc 0) (jJa (jJc 4) jJf))))
   (jJm (jKh (e_and (kQb (jZ5 hr.units) (jJc 4) (e_lrevT rfl rfl T.n_list rfl T.n_reversed rfl (jJa (jJc 1) jJf)) (jJz _)) (e_one (kQb o_gt (e_ix (ix_F hu) (jJc 3) jJo (fun _ _=>rfl)) jJo (jJz _))))))))))
noncomputable abbrev jQx:Stmt:=top 24
theorem sc_number_here:FnScope ["walker","tracks","number","track"] ["walker","tracks"] (jJh jQx):=⟨rfl,rfl,rfl,by decide +kernel,rfl,by decide +kernel,by decide +kernel⟩
theorem kQy (T:Txt mg) (O:Ocl K) (F:Fun K "number_here" "number_here" jQx f fd) (C_is_end_of:Cal P w K mg base 4 "is_end_of" ["walker","way","doors"] jKw)
  (h:∀xs G Q,jJ8 xs G Q->jUy {nx:=fun _ G'=>Q .non G',rt:=Q} (jJk ["walker","tracks","number","track"] xs) G):Fn3 P w K mg base 5 f fd ["walker","tracks"] jJ8:=by
 refine fn3 F sc_number_here fun cdv A outer s H E hr=>⟨jUy,?_,h⟩
 have hu:=jQj hr
 have nd:=sc_number_here.nd
 exact (jJe (jQz PassesOwn.never rfl (kUq rfl T.n_enumerate rfl (jJa (jJc 1) jJf)) (jXb rfl (jJ2 (jJs (i:=2) nd) (jJ2 (jJs (i:=3) nd) jUf))) (jJm (s_if (t_val (jKa C_is_end_of (hr.mono (by decide)) (jJa (jJc 0) (jJa (e_ix (ix_F hu) (jJc 3) jJo (fun _ _=>rfl)) (jJa (e_ix (ix_F hu) (jJc 3) jJo (fun _ _=>rfl)) jJf))))) (jJm (jKh (jJc 2))) jQb)))
   (jJm (jKh (jJv jQh (by rfl) T.n_len PySem.boot_len (jJa (jJc 1) jJf)))))
noncomputable abbrev jVi:Stmt:=top 25
theorem sc_by_stone:FnScope ["walker","tracks","told","track","back","ends","door","came","number"] ["walker"] (jJh jVi):=⟨rfl,rfl,rfl,by decide +kernel,rfl,by decide +kernel,by decide +kernel⟩
theorem ok_by_stone (T:Txt mg) (O:Ocl K) (F:Fun K "by_stone" "by_stone" jVi f fd) (C_led:Cal P w K mg base 3 "led" ["walker","way"] jX4) (C_Walker_here:CalM P w K mg base 1 "Walker" "here" ["self"] jJr) (C_Walker_go:CalM P w K mg base 2 "Walker" "go" ["self","door"] jJu) (C_number_here:Cal P w K mg base 5 "number_here" ["walker","tracks"] jJ8) (C_led_back:Cal P w K mg base 3 "led_back" ["walker","doors"] jKe)
  (h:∀xs G Q,jQa xs G Q->jXq {nx:=fun _ G'=>Q .non G',rt:=Q} (jJk ["walker","tracks","told","track","back","ends","door","came","number"] xs) G):Fn3 P w K mg base 6 f fd ["walker"] jQa:=by
 refine fn3 F sc_by_stone fun cdv A outer s H E hr=>⟨jXq,?_,h⟩
 have hu:=jQj hr
 have nd:=sc_by_stone.nd
 exact (jJe (jJ5 (i:=1) nd (jQ7 (jJa (jKz (jJa (jKz jJf) (jJa (jKz jJf) jJf))) jJf)))
   (jJe (jJ5 (i:=2) nd (jQ7 jJf))
   (jJe (kKg PassesOwn.never (jQv o_lt (jJv jQh (by rfl) T.n_len PySem.boot_len (jJa (jJc 2) jJf)) (jJv jQh (by rfl) T.n_len PySem.boot_len (jJa (jJc 1) jJf)) (jJz _)) (jJe (jJ5 (i:=3) nd (e_ix (ix_F hu) (jJc 1) (jJv jQh (by rfl) T.n_len PySem.boot_len (jJa (jJc 2) jJf)) (fun _ _=>rfl)))
   (jJe (jJ5 (i:=4) nd (jKa C_led (hr.mono (by decide)) (jJa (jJc 0) (jJa (e_ix (ix_F hu) (jJc 3) jJo (fun _ _=>rfl)) jJf))))
   (jJe (jJ5 (i:=5) nd (jQ7 jJf))
   (jJe (jQz PassesOwn.never rfl (jQd rfl T.n_range (jJa (e_ix (ix_F hu) (jYa C_Walker_here (hr.mono (by decide)) (jJc 0)) jJo (fun _ _=>rfl)) jJf)) (jJs (i:=6) nd) (jJe (jJ5 (i:=7) nd (e_ix (ix_F hu) (e_meth C_Walker_go (hr.mono (by decide)) (jJc 0) (jJa (jJc 6) jJf)) jJo (fun _ _=>rfl)))
   (jJe (jJ5 (i:=8) nd (jKa C_number_here (hr.mono (by decide)) (jJa (jJc 0) (jJa (jJc 1) jJf))))
   (jJe (s_if (jQv (jZ5 hr.units) (jJc 8) (jJv jQh (by rfl) T.n_len PySem.boot_len (jJa (jJc 1) jJf)) (jJz _)) (jJm (jQn (e_bm PySem.F.plainAttrs_list PySem.F.slot_list_append PySem.F.type_list_append jQk (jJc 1) (jJa (jKz (jJa (e_op kUl (e_ix (ix_F hu) (jJc 3) jJo (fun _ _=>rfl)) (jKz (jJa (jJc 6) jJf))) (jJa (e_op kUl (e_ix (ix_F hu) (jJc 3) jJo (fun _ _=>rfl)) (jKz (jJa (jJc 7) jJf))) jJf))) jJf)))) jQb)
   (jJe (jQn (e_bm PySem.F.plainAttrs_list PySem.F.slot_list_append PySem.F.type_list_append jQk (jJc 5) (jJa (jKz (jJa (jJc 8) (jJa (jJc 7) jJf))) jJf)))
   (jJm (jQn (e_meth C_Walker_go (hr.mono (by decide)) (jJc 0) (jJa (jJc 7) jJf)))))))))
   (jJe (jQn (jKa C_led_back (hr.mono (by decide)) (jJa (jJc 0) (jJa (jJc 4) jJf))))
   (jJm (jQn (e_bm PySem.F.plainAttrs_list PySem.F.slot_list_append PySem.F.type_list_append jQk (jJc 2) (jJa (jKl jUm (by rfl) T.n_tuple rfl (jJa (jJc 5) jJf)) jJf))))))))))
   (jJm (jKh (jKl jUm (by rfl) T.n_tuple rfl (jJa (jJc 2) jJf)))))))
noncomputable abbrev jYc:Stmt:=top 26
theorem sc_mapped:FnScope ["walker","told"] ["walker"] (jJh jYc):=⟨rfl,rfl,rfl,by decide +kernel,rfl,by decide +kernel,by decide +kernel⟩
theorem ok_mapped (T:Txt mg) (O:Ocl K) (F:Fun K "mapped" "mapped" jYc f fd) (C_Walker_in_hand:CalM P w K mg base 1 "Walker" "in_hand" ["self"] jJ3) (C_Walker_lay:CalM P w K mg base 2 "Walker" "lay" ["self"] jKk) (C_by_stone:Cal P w K mg base 6 "by_stone" ["walker"] jQa) (C_Walker_take:CalM P w K mg base 2 "Walker" "take" ["self"] jKd)
  (h:∀xs G Q,jKs xs G Q->jZb {nx:=fun _ G'=>Q .non G',rt:=Q} (jJk ["walker","told"] xs) G):Fn3 P w K mg base 7 f fd ["walker"] jKs:=by
 refine fn3 F sc_mapped fun cdv A outer s H E hr=>⟨jZb,?_,h⟩
 have hu:=jQj hr
 have nd:=sc_mapped.nd
 exact (jJe (s_if (jQv (jZ5 hr.units) (jYa C_Walker_in_hand (hr.mono (by decide)) (jJc 0)) jJo (jJz _)) (jJm kVi) jQb)
   (jJe (jQn (jYa C_Walker_lay (hr.mono (by decide)) (jJc 0)))
   (jJe (jJ5 (i:=1) nd (jKa C_by_stone (hr.mono (by decide)) (jJa (jJc 0) jJf)))
   (jJe (jQn (jYa C_Walker_take (hr.mono (by decide)) (jJc 0)))
   (jJm (jKh (jJc 1)))))))
noncomputable abbrev jZz:Stmt:=top 30
theorem sc_l_box:FnScope ["_law_script","_law_k","_law_cell"] ["_law_script","_law_k"] (jJh jZz):=⟨rfl,rfl,rfl,by decide +kernel,rfl,by decide +kernel,by decide +kernel⟩
theorem ok_l_box (T:Txt mg) (O:Ocl K) (F:Fun K "_law_box" "_law_box" jZz f fd) 
  (h:∀xs G Q,jUj xs G Q->kJ6 {nx:=fun _ G'=>Q .non G',rt:=Q} (jJk ["_law_script","_law_k","_law_cell"] xs) G):Fn3 P w K mg base 1 f fd ["_law_script","_law_k"] jUj:=by
 refine fn3 F sc_l_box fun cdv A outer s H E hr=>⟨kJ6,?_,h⟩
 have hu:=jQj hr
 have nd:=sc_l_box.nd
 exact (jJe (jJ5 (i:=2) nd (e_ix (ix_F hu) (e_op o_addF (jJc 0) (e_op jU6 (jQ7 (jJa jJo jJf)) (e_op o_addF (jJc 1) jJo))) (jJc 1) (fun _ _=>rfl)))
   (jJm (jKh (jQ7 (jJa (e_op jU6 (jJv c_abs (by rfl) T.n_abs rfl (jJa (jJc 2) jJf)) (jKl c_int (by rfl) T.n_int rfl (jJa (kQb o_ge (jJv c_abs (by rfl) T.n_abs rfl (jJa (jJc 2) jJf)) (e_op o_pow jJo jJo) (jJz _)) jJf))) (jJa (e_op jZj (e_op jU6 (e_op o_addF (e_op o_addF (e_op jZj (jJc 2) jJo) (e_op jU6 jJo (jJc 1))) jJo) jJo) jJo) (jJa jJo jJf)))))))
noncomputable abbrev jYe:Stmt:=top 31
theorem sc_l_take:FnScope ["_law_box_here","_law_many","_law_found","_law_once"] ["_law_box_here","_law_many"] (jJh jYe):=⟨rfl,rfl,rfl,by decide +kernel,rfl,by decide +kernel,by decide +kernel⟩
theorem ok_l_take (T:Txt mg) (O:Ocl K) (F:Fun K "_law_take" "_law_take" jYe f fd) 
  (h:∀xs G Q,jJt xs G Q->jZd {nx:=fun _ G'=>Q .non G',rt:=Q} (jJk ["_law_box_here","_law_many","_law_found","_law_once"] xs) G):Fn3 P w K mg base 1 f fd ["_law_box_here","_law_many"] jJt:=by
 refine fn3 F sc_l_take fun cdv A outer s H E hr=>⟨jZd,?_,h⟩
 have hu:=jQj hr
 have nd:=sc_l_take.nd
 exact (jJe (s_if (jQv o_gt (e_ix (ix_F hu) (jJc 0) jJo (fun _ _=>rfl)) jJo (jJz _)) (jJe (jYu (jJv c_divmod (by rfl) T.n_divmod rfl (jJa (e_ix (ix_F hu) (jJc 0) jJo (fun _ _=>rfl)) (jJa (jJc 1) jJf))) (jXb rfl (jJ2 (jY4 (jJc 0) jJo (s_F hu)) (jJ2 (jJs (i:=2) nd) jUf))))
   (jJm (jKh (jJc 2)))) jQb)
   (jJe (jYu (e_op o_addF (e_ix (ix_F hu) (jJc 0) jJo (fun _ _=>rfl)) jJo) (jY4 (jJc 0) jJo (s_F hu)))
   (jJe (jJ5 (i:=3) nd (e_op jZj (e_op jU6 (e_op o_addF (e_ix (ix_F hu) (jJc 0) jJo (fun _ _=>rfl)) (e_op jU6 jJo (e_ix (ix_F hu) (jJc 0) jJo (fun _ _=>rfl)))) (e_op o_addF jJo (e_ix (ix_F hu) (jJc 0) jJo (fun _ _=>rfl)))) jJo))
   (jJe (jYu (e_op jZj (e_op o_addF (e_op jU6 (jJc 3) (e_op o_addF (e_op jZj (jJc 3) jJo) jJo)) (e_ix (ix_F hu) (jJc 0) jJo (fun _ _=>rfl))) jJo) (jY4 (jJc 0) jJo (s_F hu)))
   (jJm (jKh (e_op jZj (e_op o_fdiv (e_op jZj (e_op jU6 (e_ix (ix_F hu) (jJc 0) jJo (fun _ _=>rfl)) (e_op o_addF (e_op jZj (e_ix (ix_F hu) (jJc 0) jJo (fun _ _=>rfl)) jJo) jJo)) jJo) jJo) (jJc 1))))))))
noncomputable abbrev jVh:Stmt:=top 32
theorem sc_l_folded:FnScope ["_law_script","_law_many","_law_cells","_law_k","_law_cell"] ["_law_script","_law_many"] (jJh jVh):=⟨rfl,rfl,rfl,by decide +kernel,rfl,by decide +kernel,by decide +kernel⟩
theorem ok_l_folded (T:Txt mg) (O:Ocl K) (F:Fun K "_law_folded" "_law_folded" jVh f fd) 
  (h:∀xs G Q,jKy xs G Q->jXp {nx:=fun _ G'=>Q .non G',rt:=Q} (jJk ["_law_script","_law_many","_law_cells","_law_k","_law_cell"] xs) G):Fn3 P w K mg base 1 f fd ["_law_script","_law_many"] jKy:=by
 refine fn3 F sc_l_folded fun cdv A outer s H E hr=>⟨jXp,?_,h⟩
 have hu:=jQj hr
 have nd:=sc_l_folded.nd
 exact (jJe (jJ5 (i:=2) nd (jKl c_listA (by rfl) T.n_list rfl (jJa (e_slice sl_F (jJc 0) p_none (p_some (jJc 1))) jJf)))
   (jJe (jQz PassesOwn.never rfl (kUq rfl T.n_enumerate rfl (jJa (e_slice sl_F (jJc 0) (p_some (jJc 1)) (p_some jJo)) jJf)) (jXb rfl (jJ2 (jJs (i:=3) nd) (jJ2 (jJs (i:=4) nd) jUf))) (jJm (jYu (e_op o_addF (e_ix (ix_F hu) (jJc 2) (e_op jZj (jJc 3) (jJc 1)) (fun _ _=>rfl)) (e_op jU6 (jJc 4) (e_op o_addF (jJc 3) jJo))) (jY4 (jJc 2) (e_op jZj (jJc 3) (jJc 1)) (s_F hu)))))
   (jJm (jKh (jJc 2)))))
noncomputable abbrev jVg:Stmt:=top 33
theorem sc_l_joined:FnScope ["_law_halves","_law_at","_law_room","_law_door","_law_half","_law_web_here","_law_doors","_law_tie","_law_side"] ["_law_halves"] (jJh jVg):=⟨rfl,rfl,rfl,by decide +kernel,rfl,by decide +kernel,by decide +kernel⟩
theorem ok_l_joined (T:Txt mg) (O:Ocl K) (F:Fun K "_law_joined" "_law_joined" jVg f fd) 
  (h:∀xs G Q,jK9 xs G Q->jXo {nx:=fun _ G'=>Q .non G',rt:=Q} (jJk ["_law_halves","_law_at","_law_room","_law_door","_law_half","_law_web_here","_law_doors","_law_tie","_law_side"] xs) G):Fn3 P w K mg base 1 f fd ["_law_halves"] jK9:=by
 refine fn3 F sc_l_joined fun cdv A outer s H E hr=>⟨jXo,?_,h⟩
 have hu:=jQj hr
 have nd:=sc_l_joined.nd
 exact (jJe (jJ5 (i:=1) nd e_dct)
   (jJe (jQz PassesOwn.never rfl (jQd rfl T.n_range (jJa (jJv jQh (by rfl) T.n_len PySem.boot_len (jJa (jJc 0) jJf)) jJf)) (jJs (i:=2) nd) (jJm (jQz PassesOwn.never rfl (kUq rfl T.n_enumerate rfl (jJa (e_ix (ix_F hu) (jJc 0) (jJc 2) (fun _ _=>rfl)) jJf)) (jXb rfl (jJ2 (jJs (i:=3) nd) (jJ2 (jJs (i:=4) nd) jUf))) (jJm (jYu (jKz (jJa (jJc 2) (jJa (jJc 3) jJf))) (jY4 (jJc 1) (jJc 4) (s_F hu)))))))
   (jJe (jJ5 (i:=5) nd (jQ7 jJf))
   (jJe (jQz PassesOwn.never rfl (jV2 (jJc 0)) (jJs (i:=6) nd) (jJm (jQn (e_bm PySem.F.plainAttrs_list PySem.F.slot_list_append PySem.F.type_list_append jQk (jJc 5) (jJa (jKl jUm (by rfl) T.n_tuple rfl (jJa (jVz (mask:=[false,false,false,false,false,false,false,true,true]) rfl ⟨rfl,rfl,rfl,rfl,rfl,rfl,rfl⟩ (jV2 (jJc 6)) (gk_tup (kJd jQg jXw (kJd jQg jXw gk_nil kUs) (gm_cons jXw kUs))) (fun C fp s H=>(jXb rfl (jJ2 (jJs (i:=7) nd) (jJ2 (jJs (i:=8) nd) jUf)))) (fun C fp s H=>jVn) (fun C fp s H=>(e_ix (ix_F hu) (jJc 1) (jKz (jJa (jJc 7) (jJa (e_ix (ix_F hu) (jQ7 (jJa jJo (jJa jJo (jJa jJo jJf)))) (jJc 8) (fun _ _=>rfl)) jJf))) (fun _ _=>rfl)))) jJf)) jJf)))))
   (jJm (jKh (jKl jUm (by rfl) T.n_tuple rfl (jJa (jJc 5) jJf))))))))
noncomputable abbrev jQy:Stmt:=top 34
theorem sc_l_doors_put:FnScope ["_law_box_here","_law_pairs","_law_many","_law_halves","_law_tie","_law_one","_law_other","_law_sides","_law_room","_law_side"] ["_law_box_here","_law_pairs","_law_many"] (jJh jQy):=⟨rfl,rfl,rfl,by decide +kernel,rfl,by decide +kernel,by decide +kernel⟩
theorem kQz (T:Txt mg) (O:Ocl K) (F:Fun K "_law_doors_put" "_law_doors_put" jQy f fd) (C_l_take:Cal P w K mg base 1 "_law_take" ["_law_box_here","_law_many"] jJt) (C_l_joined:Cal P w K mg base 1 "_law_joined" ["_law_halves"] jK9)
  (h:∀xs G Q,jKc xs G Q->jUz {nx:=fun _ G'=>Q .non G',rt:=Q} (jJk ["_law_box_here","_law_pairs","_law_many","_law_halves","_law_tie","_law_one","_law_other","_law_sides","_law_room","_law_side"] xs) G):Fn3 P w K mg base 2 f fd ["_law_box_here","_law_pairs","_law_many"] jKc:=by
 refine fn3 F sc_l_doors_put fun cdv A outer s H E hr=>⟨jUz,?_,h⟩
 have hu:=jQj hr
 have nd:=sc_l_doors_put.nd
 exact (jJe (s_comp (i:=3) (mask:=[false,false,false,false,false,false,false,false,true,false]) rfl nd ⟨rfl,rfl,rfl,rfl,rfl,rfl,rfl⟩ (jQd rfl T.n_range (jJa (jJc 2) jJf)) jQg (fun C fp s H=>(jJs (i:=8) nd)) (fun C fp s H=>jVn) (fun C fp s H=>(jQ7 jJf)))
   (jJe (jQz PassesOwn.never rfl (kUq rfl T.n_enumerate rfl (jJa (jJc 1) jJf)) (jXb rfl (jJ2 (jJs (i:=4) nd) (jJ2 (jXb rfl (jJ2 (jJs (i:=5) nd) (jJ2 (jJs (i:=6) nd) jUf))) jUf))) (jJe (jJ5 (i:=7) nd (e_ifExp (jQv (jZ5 hr.units) (jJc 6) (jJc 2) (jJz _)) (jQ7 (jJa (jKz (jJa (jJc 5) (jJa jJo jJf))) jJf)) (jQ7 (jJa (jKz (jJa (jJc 5) (jJa jJo jJf))) (jJa (jKz (jJa (jJc 6) (jJa jJo jJf))) jJf)))))
   (jJm (jQz PassesOwn.never rfl (jV2 (jJc 7)) (jXb rfl (jJ2 (jJs (i:=8) nd) (jJ2 (jJs (i:=9) nd) jUf))) (jJm (jQn (e_bm PySem.F.plainAttrs_list PySem.F.slot_list_insert PySem.F.type_list_insert m_insert (e_ix (ix_F hu) (jJc 3) (jJc 8) (fun _ _=>rfl)) (jJa (jKa C_l_take (hr.mono (by decide)) (jJa (jJc 0) (jJa (e_op o_addF (jJv jQh (by rfl) T.n_len PySem.boot_len (jJa (e_ix (ix_F hu) (jJc 3) (jJc 8) (fun _ _=>rfl)) jJf)) jJo) jJf))) (jJa (jKz (jJa (jJc 4) (jJa (jJc 9) jJf))) jJf)))))))))
   (jJm (jKh (jKa C_l_joined (hr.mono (by decide)) (jJa (jJc 3) jJf))))))
noncomputable abbrev jZx:Stmt:=top 35
theorem sc_l_web:FnScope ["_law_box_here","_law_many","_law_most","_law_used","_law_pairs","_law_room","_law_free","_law_end","_law_turn_here","_law_pair","_law_ends_here","_law_one"] ["_law_box_here","_law_many","_law_most"] (jJh jZx):=⟨rfl,rfl,rfl,by decide +kernel,rfl,by decide +kernel,by decide +kernel⟩
theorem ok_l_web (T:Txt mg) (O:Ocl K) (F:Fun K "_law_web" "_law_web" jZx f fd) (C_l_take:Cal P w K mg base 1 "_law_take" ["_law_box_here","_law_many"] jJt) (C_l_doors_put:Cal P w K mg base 2 "_law_doors_put" ["_law_box_here","_law_pairs","_law_many"] jKc)
  (h:∀xs G Q,jUw xs G Q->kJ4 {nx:=fun _ G'=>Q .non G',rt:=Q} (jJk ["_law_box_here","_law_many","_law_most","_law_used","_law_pairs","_law_room","_law_free","_law_end","_law_turn_here","_law_pair","_law_ends_here","_law_one"] xs) G):Fn3 P w K mg base 3 f fd ["_law_box_here","_law_many","_law_most"] jUw:=by
 refine fn3 F sc_l_web fun cdv A outer s H E hr=>⟨kJ4,?_,h⟩
 have hu:=jQj hr
 have nd:=sc_l_web.nd
 exact (jJe (jJ5 (i:=3) nd (e_op jU6 (jQ7 (jJa jJo jJf)) (jJc 1)))
   (jJe (jJ5 (i:=4) nd (jQ7 jJf))
   (jJe (jQz PassesOwn.never rfl (i_range2 rfl T.n_range (jJa jJo (jJa (jJc 1) jJf))) (jJs (i:=5) nd) (jJe (s_comp (i:=6) (mask:=[false,false,false,false,false,false,false,false,false,false,false,true]) rfl nd ⟨rfl,rfl,rfl,rfl,rfl,rfl,rfl⟩ (jQd rfl T.n_range (jJa (jJc 5) jJf)) jQg (fun C fp s H=>(jJs (i:=11) nd)) (fun C fp s H=>(if_one (jQv o_lt (e_ix (ix_F hu) (jJc 3) (jJc 11) (fun _ _=>rfl)) (jJc 2) (jJz _)))) (fun C fp s H=>(jJc 11)))
   (jJe (jQn (e_bm PySem.F.plainAttrs_list PySem.F.slot_list_append PySem.F.type_list_append jQk (jJc 4) (jJa (jKz (jJa (e_ix (ix_F hu) (jJc 6) (jKa C_l_take (hr.mono (by decide)) (jJa (jJc 0) (jJa (jJv jQh (by rfl) T.n_len PySem.boot_len (jJa (jJc 6) jJf)) jJf))) (fun _ _=>rfl)) (jJa (jJc 5) jJf))) jJf)))
   (jJm (jQz PassesOwn.never rfl (jV2 (e_ix (ix_F hu) (jJc 4) (e_un u_neg jJo) (fun _ _=>rfl))) (jJs (i:=7) nd) (jJm (jYu (e_op o_addF (e_ix (ix_F hu) (jJc 3) (jJc 7) (fun _ _=>rfl)) jJo) (jY4 (jJc 3) (jJc 7) (s_F hu)))))))))
   (jJe (jQz PassesOwn.never rfl (jQd rfl T.n_range (jJa (jKa C_l_take (hr.mono (by decide)) (jJa (jJc 0) (jJa (e_op o_addF (jJc 1) jJo) jJf))) jJf)) (jJs (i:=8) nd) (jJe (jJ5 (i:=9) nd (jKz (jJa (jKa C_l_take (hr.mono (by decide)) (jJa (jJc 0) (jJa (jJc 1) jJf))) (jJa (jKa C_l_take (hr.mono (by decide)) (jJa (jJc 0) (jJa (e_op o_addF (jJc 1) jJo) jJf))) jJf))))
   (jJe (jJ5 (i:=10) nd (jVz (mask:=[false,false,false,false,false,false,false,true,false,false,false,false]) rfl ⟨rfl,rfl,rfl,rfl,rfl,rfl,rfl⟩ (jV2 (jJc 9)) jQg (fun C fp s H=>(jJs (i:=7) nd)) (fun C fp s H=>(if_one (jQv o_lt (jJc 7) (jJc 1) (jJz _)))) (fun C fp s H=>(jJc 7))))
   (jJm (s_if (t_val (jJv (c_all rfl) (by rfl) T.n_all rfl (jJa (jVz (mask:=[false,false,false,false,false,false,false,true,false,false,false,false]) rfl ⟨rfl,rfl,rfl,rfl,rfl,rfl,rfl⟩ (jV2 (jJc 10)) jQg (fun C fp s H=>(jJs (i:=7) nd)) (fun C fp s H=>jVn) (fun C fp s H=>(kQb (o_leF hu) (e_op o_addF (e_ix (ix_F hu) (jJc 3) (jJc 7) (fun _ _=>rfl)) (e_bm PySem.F.plainAttrs_list PySem.F.slot_list_count PySem.F.type_list_count m_count (jJc 10) (jJa (jJc 7) jJf))) (jJc 2) (jJz _)))) jJf))) (jJe (jQn (e_bm PySem.F.plainAttrs_list PySem.F.slot_list_append PySem.F.type_list_append jQk (jJc 4) (jJa (jJc 9) jJf)))
   (jJm (jQz PassesOwn.never rfl (jV2 (jJc 10)) (jJs (i:=7) nd) (jJm (jYu (e_op o_addF (e_ix (ix_F hu) (jJc 3) (jJc 7) (fun _ _=>rfl)) jJo) (jY4 (jJc 3) (jJc 7) (s_F hu))))))) jQb)))))
   (jJm (jKh (jKa C_l_doors_put (hr.mono (by decide)) (jJa (jJc 0) (jJa (jJc 4) (jJa (jJc 1) jJf))))))))))
noncomputable abbrev jYf:Stmt:=top 36
theorem sc_l_ring:FnScope ["_law_many","_law_room"] ["_law_many"] (jJh jYf):=⟨rfl,rfl,rfl,by decide +kernel,rfl,by decide +kernel,by decide +kernel⟩
theorem ok_l_ring (T:Txt mg) (O:Ocl K) (F:Fun K "_law_ring" "_law_ring" jYf f fd) 
  (h:∀xs G Q,jQt xs G Q->jZe {nx:=fun _ G'=>Q .non G',rt:=Q} (jJk ["_law_many","_law_room"] xs) G):Fn3 P w K mg base 1 f fd ["_law_many"] jQt:=by
 refine fn3 F sc_l_ring fun cdv A outer s H E hr=>⟨jZe,?_,h⟩
 have hu:=jQj hr
 have nd:=sc_l_ring.nd
 exact (jJm (jKh (jKl jUm (by rfl) T.n_tuple rfl (jJa (jVz (mask:=[false,true]) rfl ⟨rfl,rfl,rfl,rfl,rfl,rfl,rfl⟩ (jQd rfl T.n_range (jJa (jJc 0) jJf)) jQg (fun C fp s H=>(jJs (i:=1) nd)) (fun C fp s H=>jVn) (fun C fp s H=>(jKz (jJa (jKz (jJa (e_op jZj (e_op o_addF (jJc 1) jJo) (jJc 0)) (jJa jJo jJf))) (jJa (jKz (jJa (e_op jZj (e_op o_sub (jJc 1) jJo) (jJc 0)) (jJa jJo jJf))) jJf))))) jJf))))
noncomputable abbrev jYg:Stmt:=top 37
theorem sc_l_ends:FnScope ["_law_web_here","_law_found","_law_room","_law_door"] ["_law_web_here"] (jJh jYg):=⟨rfl,rfl,rfl,by decide +kernel,rfl,by decide +kernel,by decide +kernel⟩
theorem ok_l_ends (T:Txt mg) (O:Ocl K) (F:Fun K "_law_ends" "_law_ends" jYg f fd) 
  (h:∀xs G Q,jQm xs G Q->jZf {nx:=fun _ G'=>Q .non G',rt:=Q} (jJk ["_law_web_here","_law_found","_law_room","_law_door"] xs) G):Fn3 P w K mg base 1 f fd ["_law_web_here"] jQm:=by
 refine fn3 F sc_l_ends fun cdv A outer s H E hr=>⟨jZf,?_,h⟩
 have hu:=jQj hr
 have nd:=sc_l_ends.nd
 exact (jJe (jJ5 (i:=1) nd (jQ7 jJf))
   (jJe (jQz PassesOwn.never rfl (jQd rfl T.n_range (jJa (jJv jQh (by rfl) T.n_len PySem.boot_len (jJa (jJc 0) jJf)) jJf)) (jJs (i:=2) nd) (jJm (jQz PassesOwn.never rfl (jQd rfl T.n_range (jJa (jJv jQh (by rfl) T.n_len PySem.boot_len (jJa (e_ix (ix_F hu) (jJc 0) (jJc 2) (fun _ _=>rfl)) jJf)) jJf)) (jJs (i:=3) nd) (jJm (s_if (jQv (o_leF hu) (jKz (jJa (jJc 2) (jJa (jJc 3) jJf))) (e_ix (ix_F hu) (e_ix (ix_F hu) (jJc 0) (jJc 2) (fun _ _=>rfl)) (jJc 3) (fun _ _=>rfl)) (jJz _)) (jJm (jQn (e_bm PySem.F.plainAttrs_list PySem.F.slot_list_append PySem.F.type_list_append jQk (jJc 1) (jJa (jKz (jJa (jKz (jJa (jJc 2) (jJa (jJc 3) jJf))) (jJa (e_ix (ix_F hu) (e_ix (ix_F hu) (jJc 0) (jJc 2) (fun _ _=>rfl)) (jJc 3) (fun _ _=>rfl)) jJf))) jJf)))) jQb)))))
   (jJm (jKh (jJc 1)))))
noncomputable abbrev jUr:Stmt:=top 38
theorem sc_l_reached:FnScope ["_law_web_here","_law_room","_law_found","_law_at","_law_other","_law_door"] ["_law_web_here","_law_room"] (jJh jUr):=⟨rfl,rfl,rfl,by decide +kernel,rfl,by decide +kernel,by decide +kernel⟩
theorem ok_l_reached (T:Txt mg) (O:Ocl K) (F:Fun K "_law_reached" "_law_reached" jUr f fd) 
  (h:∀xs G Q,jKu xs G Q->jVv {nx:=fun _ G'=>Q .non G',rt:=Q} (jJk ["_law_web_here","_law_room","_law_found","_law_at","_law_other","_law_door"] xs) G):Fn3 P w K mg base 1 f fd ["_law_web_here","_law_room"] jKu:=by
 refine fn3 F sc_l_reached fun cdv A outer s H E hr=>⟨jVv,?_,h⟩
 have hu:=jQj hr
 have nd:=sc_l_reached.nd
 exact (jJe (jJ5 (i:=2) nd (jQ7 (jJa (jJc 1) jJf)))
   (jJe (jJ5 (i:=3) nd jJo)
   (jJe (kKg PassesOwn.never (jQv o_lt (jJc 3) (jJv jQh (by rfl) T.n_len PySem.boot_len (jJa (jJc 2) jJf)) (jJz _)) (jJe (jQz PassesOwn.never rfl (jV2 (e_ix (ix_F hu) (jJc 0) (e_ix (ix_F hu) (jJc 2) (jJc 3) (fun _ _=>rfl)) (fun _ _=>rfl))) (jXb rfl (jJ2 (jJs (i:=4) nd) (jJ2 (jJs (i:=5) nd) jUf))) (jJm (s_if (jQv (jZi hu) (jJc 4) (jJc 2) (jJz _)) (jJm (jQn (e_bm PySem.F.plainAttrs_list PySem.F.slot_list_append PySem.F.type_list_append jQk (jJc 2) (jJa (jJc 4) jJf)))) jQb)))
   (jJm (jJ5 (i:=3) nd (e_op o_addF (jJc 3) jJo)))))
   (jJm (jKh (jJc 2))))))
noncomputable abbrev jUq:Stmt:=top 39
theorem sc_l_sheeted:FnScope ["_law_web_here","_law_turns","_law_many","_law_made","_law_t","_law_one","_law_other","_law_k","_law_spot","_law_there","_law_n","_law_room"] ["_law_web_here","_law_turns","_law_many"] (jJh jUq):=⟨rfl,rfl,rfl,by decide +kernel,rfl,by decide +kernel,by decide +kernel⟩
theorem ok_l_sheeted (T:Txt mg) (O:Ocl K) (F:Fun K "_law_sheeted" "_law_sheeted" jUq f fd) (C_l_ends:Cal P w K mg base 1 "_law_ends" ["_law_web_here"] jQm)
  (h:∀xs G Q,jKt xs G Q->jVu {nx:=fun _ G'=>Q .non G',rt:=Q} (jJk ["_law_web_here","_law_turns","_law_many","_law_made","_law_t","_law_one","_law_other","_law_k","_law_spot","_law_there","_law_n","_law_room"] xs) G):Fn3 P w K mg base 2 f fd ["_law_web_here","_law_turns","_law_many"] jKt:=by
 refine fn3 F sc_l_sheeted fun cdv A outer s H E hr=>⟨jVu,?_,h⟩
 have hu:=jQj hr
 have nd:=sc_l_sheeted.nd
 exact (jJe (s_comp (i:=3) (mask:=[false,false,false,false,false,false,false,false,false,false,true,false]) rfl nd ⟨rfl,rfl,rfl,rfl,rfl,rfl,rfl⟩ (jQd rfl T.n_range (jJa (e_op jU6 (jJc 2) (jJv jQh (by rfl) T.n_len PySem.boot_len (jJa (jJc 0) jJf))) jJf)) jQg (fun C fp s H=>(jJs (i:=10) nd)) (fun C fp s H=>jVn) (fun C fp s H=>(e_op jU6 (jQ7 (jJa jZq jJf)) (jJv jQh (by rfl) T.n_len PySem.boot_len (jJa (e_ix (ix_F hu) (jJc 0) (e_op jZj (jJc 10) (jJv jQh (by rfl) T.n_len PySem.boot_len (jJa (jJc 0) jJf))) (fun _ _=>rfl)) jJf)))))
   (jJe (jQz PassesOwn.never rfl (kUq rfl T.n_enumerate rfl (jJa (jKa C_l_ends (hr.mono (by decide)) (jJa (jJc 0) jJf)) jJf)) (jXb rfl (jJ2 (jJs (i:=4) nd) (jJ2 (jXb rfl (jJ2 (jJs (i:=5) nd) (jJ2 (jJs (i:=6) nd) jUf))) jUf))) (jJm (jQz PassesOwn.never rfl (jQd rfl T.n_range (jJa (jJc 2) jJf)) (jJs (i:=7) nd) (jJe (jJ5 (i:=8) nd (e_op o_addF (e_ix (ix_F hu) (jJc 5) jJo (fun _ _=>rfl)) (e_op jU6 (jJc 7) (jJv jQh (by rfl) T.n_len PySem.boot_len (jJa (jJc 0) jJf)))))
   (jJe (jJ5 (i:=9) nd (e_op o_addF (e_ix (ix_F hu) (jJc 6) jJo (fun _ _=>rfl)) (e_op jU6 (e_ix (ix_F hu) (e_ix (ix_F hu) (jJc 1) (jJc 4) (fun _ _=>rfl)) (jJc 7) (fun _ _=>rfl)) (jJv jQh (by rfl) T.n_len PySem.boot_len (jJa (jJc 0) jJf)))))
   (jJe (jYu (jKz (jJa (jJc 9) (jJa (e_ix (ix_F hu) (jJc 6) jJo (fun _ _=>rfl)) jJf))) (jY4 (e_ix (ix_F hu) (jJc 3) (jJc 8) (fun _ _=>rfl)) (e_ix (ix_F hu) (jJc 5) jJo (fun _ _=>rfl)) (s_F hu)))
   (jJm (jYu (jKz (jJa (jJc 8) (jJa (e_ix (ix_F hu) (jJc 5) jJo (fun _ _=>rfl)) jJf))) (jY4 (e_ix (ix_F hu) (jJc 3) (jJc 9) (fun _ _=>rfl)) (e_ix (ix_F hu) (jJc 6) jJo (fun _ _=>rfl)) (s_F hu))))))))))
   (jJm (jKh (jKl jUm (by rfl) T.n_tuple rfl (jJa (jVz (mask:=[false,false,false,false,false,false,false,false,false,false,false,true]) rfl ⟨rfl,rfl,rfl,rfl,rfl,rfl,rfl⟩ (jV2 (jJc 3)) jQg (fun C fp s H=>(jJs (i:=11) nd)) (fun C fp s H=>jVn) (fun C fp s H=>(jKl jUm (by rfl) T.n_tuple rfl (jJa (jJc 11) jJf)))) jJf))))))
noncomputable abbrev jYd:Stmt:=top 40
theorem sc_l_turn:FnScope ["_law_box_here","_law_many","_law_own","_law_order","_law_k","_law_backs"] ["_law_box_here","_law_many","_law_own"] (jJh jYd):=⟨rfl,rfl,rfl,by decide +kernel,rfl,by decide +kernel,by decide +kernel⟩
theorem ok_l_turn (T:Txt mg) (O:Ocl K) (F:Fun K "_law_turn" "_law_turn" jYd f fd) (C_l_take:Cal P w K mg base 1 "_law_take" ["_law_box_here","_law_many"] jJt)
  (h:∀xs G Q,jQ6 xs G Q->jZc {nx:=fun _ G'=>Q .non G',rt:=Q} (jJk ["_law_box_here","_law_many","_law_own","_law_order","_law_k","_law_backs"] xs) G):Fn3 P w K mg base 2 f fd ["_law_box_here","_law_many","_law_own"] jQ6:=by
 refine fn3 F sc_l_turn fun cdv A outer s H E hr=>⟨jZc,?_,h⟩
 have hu:=jQj hr
 have nd:=sc_l_turn.nd
 exact (jJe (jJ5 (i:=3) nd (jQ7 jJf))
   (jJe (jQz PassesOwn.never rfl (jQd rfl T.n_range (jJa (jJc 1) jJf)) (jJs (i:=4) nd) (jJm (jQn (e_bm PySem.F.plainAttrs_list PySem.F.slot_list_insert PySem.F.type_list_insert m_insert (jJc 3) (jJa (jKa C_l_take (hr.mono (by decide)) (jJa (jJc 0) (jJa (e_op o_addF (jJc 4) jJo) jJf))) (jJa (jJc 4) jJf))))))
   (jJe (s_if (t_not (t_tru kU9 (jJc 2))) (jJm (jKh (jKl jUm (by rfl) T.n_tuple rfl (jJa (jJc 3) jJf)))) jQb)
   (jJe (jJ5 (i:=5) nd (kQa rfl T.n_list rfl T.n_range rfl (jJa (jJc 1) jJf)))
   (jJe (jQz PassesOwn.never rfl (i_range3 rfl T.n_range (jJa jJo (jJa (e_op o_sub (jJc 1) jJo) (jJa jJo jJf)))) (jJs (i:=4) nd) (jJe (jYu (e_ix (ix_F hu) (jJc 3) (e_op o_addF (jJc 4) jJo) (fun _ _=>rfl)) (jY4 (jJc 5) (e_ix (ix_F hu) (jJc 3) (jJc 4) (fun _ _=>rfl)) (s_F hu)))
   (jJm (jYu (e_ix (ix_F hu) (jJc 3) (jJc 4) (fun _ _=>rfl)) (jY4 (jJc 5) (e_ix (ix_F hu) (jJc 3) (e_op o_addF (jJc 4) jJo) (fun _ _=>rfl)) (s_F hu))))))
   (jJm (jKh (jKl jUm (by rfl) T.n_tuple rfl (jJa (jJc 5) jJf)))))))))
noncomputable abbrev jUs:Stmt:=top 41
theorem sc_l_covered:FnScope ["_law_box_here","_law_web_here","_law_many","_law_turn_here","_law_turns","_law_pair","_law_made"] ["_law_box_here","_law_web_here","_law_many"] (jJh jUs):=⟨rfl,rfl,rfl,by decide +kernel,rfl,by decide +kernel,by decide +kernel⟩
theorem ok_l_covered (T:Txt mg) (O:Ocl K) (F:Fun K "_law_covered" "_law_covered" jUs f fd) (C_l_ends:Cal P w K mg base 1 "_law_ends" ["_law_web_here"] jQm) (C_l_turn:Cal P w K mg base 2 "_law_turn" ["_law_box_here","_law_many","_law_own"] jQ6) (C_l_sheeted:Cal P w K mg base 2 "_law_sheeted" ["_law_web_here","_law_turns","_law_many"] jKt) (C_l_reached:Cal P w K mg base 1 "_law_reached" ["_law_web_here","_law_room"] jKu)
  (h:∀xs G Q,jKv xs G Q->jVw {nx:=fun _ G'=>Q .non G',rt:=Q} (jJk ["_law_box_here","_law_web_here","_law_many","_law_turn_here","_law_turns","_law_pair","_law_made"] xs) G):Fn3 P w K mg base 3 f fd ["_law_box_here","_law_web_here","_law_many"] jKv:=by
 refine fn3 F sc_l_covered fun cdv A outer s H E hr=>⟨jVw,?_,h⟩
 have hu:=jQj hr
 have nd:=sc_l_covered.nd
 exact (jJe (jQz PassesOwn.never rfl (jQd rfl T.n_range (jJa jJo jJf)) (jJs (i:=3) nd) (jJe (jJ5 (i:=4) nd (jQ7 jJf))
   (jJe (jQz PassesOwn.never rfl (jV2 (jKa C_l_ends (hr.mono (by decide)) (jJa (jJc 1) jJf))) (jJs (i:=5) nd) (jJm (jQn (e_bm PySem.F.plainAttrs_list PySem.F.slot_list_append PySem.F.type_list_append jQk (jJc 4) (jJa (jKa C_l_turn (hr.mono (by decide)) (jJa (jJc 0) (jJa (jJc 2) (jJa (kQb (jZ5 hr.units) (e_ix (ix_F hu) (jJc 5) jJo (fun _ _=>rfl)) (e_ix (ix_F hu) (jJc 5) jJo (fun _ _=>rfl)) (jJz _)) jJf)))) jJf)))))
   (jJe (jJ5 (i:=6) nd (jKa C_l_sheeted (hr.mono (by decide)) (jJa (jJc 1) (jJa (jJc 4) (jJa (jJc 2) jJf)))))
   (jJm (s_if (jQv (jZ5 hr.units) (jJv jQh (by rfl) T.n_len PySem.boot_len (jJa (jKa C_l_reached (hr.mono (by decide)) (jJa (jJc 6) (jJa jJo jJf))) jJf)) (jJv jQh (by rfl) T.n_len PySem.boot_len (jJa (jJc 6) jJf)) (jJz _)) (jJm (jKh (jJc 6))) jQb))))))
   (jJm (jKh (jJc 1))))
noncomputable abbrev jZy:Stmt:=top 43
theorem sc_l_two:FnScope ["_law_box_here","_law_base","_law_made"] ["_law_box_here"] (jJh jZy):=⟨rfl,rfl,rfl,by decide +kernel,rfl,by decide +kernel,by decide +kernel⟩
theorem ok_l_two (T:Txt mg) (O:Ocl K) (F:Fun K "_law_two" "_law_two" jZy f fd) (C_l_take:Cal P w K mg base 1 "_law_take" ["_law_box_here","_law_many"] jJt) (C_l_ring:Cal P w K mg base 1 "_law_ring" ["_law_many"] jQt) (C_l_web:Cal P w K mg base 3 "_law_web" ["_law_box_here","_law_many","_law_most"] jUw) (C_l_covered:Cal P w K mg base 3 "_law_covered" ["_law_box_here","_law_web_here","_law_many"] jKv)
  (h:∀xs G Q,jUi xs G Q->kJ5 {nx:=fun _ G'=>Q .non G',rt:=Q} (jJk ["_law_box_here","_law_base","_law_made"] xs) G):Fn3 P w K mg base 4 f fd ["_law_box_here"] jUi:=by
 refine fn3 F sc_l_two fun cdv A outer s H E hr=>⟨kJ5,?_,h⟩
 have hu:=jQj hr
 have nd:=sc_l_two.nd
 exact (jJe (s_if (jQv (jZ5 hr.units) (jKa C_l_take (hr.mono (by decide)) (jJa (jJc 0) (jJa jJo jJf))) jJo (jJz _)) (jJm (jKh (jKz (jJa (jKa C_l_ring (hr.mono (by decide)) (jJa (e_op o_addF jJo (jKa C_l_take (hr.mono (by decide)) (jJa (jJc 0) (jJa jJo jJf)))) jJf)) (jJa (jKa C_l_ring (hr.mono (by decide)) (jJa (e_op o_addF jJo (jKa C_l_take (hr.mono (by decide)) (jJa (jJc 0) (jJa jJo jJf)))) jJf)) jJf))))) jQb)
   (jJe (jJ5 (i:=1) nd (jKa C_l_web (hr.mono (by decide)) (jJa (jJc 0) (jJa (e_op o_addF jJo (jKa C_l_take (hr.mono (by decide)) (jJa (jJc 0) (jJa jJo jJf)))) (jJa (e_op o_addF jJo (jKa C_l_take (hr.mono (by decide)) (jJa (jJc 0) (jJa jJo jJf)))) jJf)))))
   (jJe (jJ5 (i:=2) nd (jKa C_l_covered (hr.mono (by decide)) (jJa (jJc 0) (jJa (jJc 1) (jJa (e_op o_addF jJo (jKa C_l_take (hr.mono (by decide)) (jJa (jJc 0) (jJa (e_op o_addF jJo (e_op jU6 jJo (jKl c_int (by rfl) T.n_int rfl (jJa (kQb o_lt (jJv jQh (by rfl) T.n_len PySem.boot_len (jJa (jJc 1) jJf)) jJo (jJz _)) jJf)))) jJf)))) jJf)))))
   (jJe (s_if (jQv (jZ5 hr.units) (jKa C_l_take (hr.mono (by decide)) (jJa (jJc 0) (jJa jJo jJf))) jJo (jJz _)) (jJm (jKh (jKz (jJa (jJc 2) (jJa (jJc 1) jJf))))) jQb)
   (jJm (jKh (jKz (jJa (jJc 2) (jJa (jJc 2) jJf)))))))))
noncomputable abbrev jV5:Stmt:=top 44
theorem sc_l_walks:FnScope ["_law_web_here","_law_room","_law_many","_law_found","_law_last","_law_turn_here","_law_more","_law_way","_law_there","_law_door","_law_end"] ["_law_web_here","_law_room","_law_many"] (jJh jV5):=⟨rfl,rfl,rfl,by decide +kernel,rfl,by decide +kernel,by decide +kernel⟩
theorem ok_l_walks (T:Txt mg) (O:Ocl K) (F:Fun K "_law_walks" "_law_walks" jV5 f fd) 
  (h:∀xs G Q,jQe xs G Q->jYi {nx:=fun _ G'=>Q .non G',rt:=Q} (jJk ["_law_web_here","_law_room","_law_many","_law_found","_law_last","_law_turn_here","_law_more","_law_way","_law_there","_law_door","_law_end"] xs) G):Fn3 P w K mg base 1 f fd ["_law_web_here","_law_room","_law_many"] jQe:=by
 refine fn3 F sc_l_walks fun cdv A outer s H E hr=>⟨jYi,?_,h⟩
 have hu:=jQj hr
 have nd:=sc_l_walks.nd
 exact (jJe (jJ5 (i:=3) nd (jQ7 jJf))
   (jJe (jJ5 (i:=4) nd (jQ7 (jJa (jKz (jJa (jKz jJf) (jJa (jJc 1) jJf))) jJf)))
   (jJe (jQz PassesOwn.never rfl (jQd rfl T.n_range (jJa (e_op kUl (jJc 2) jJo) jJf)) (jJs (i:=5) nd) (jJe (jQn (e_bm PySem.F.plainAttrs_list PySem.F.slot_list_extend PySem.F.type_list_extend m_extend (jJc 3) (jJa (jVz (mask:=[false,false,false,false,false,false,false,true,true,false,false]) rfl ⟨rfl,rfl,rfl,rfl,rfl,rfl,rfl⟩ (jV2 (jJc 4)) (gk_tup (kJd jQg jXw (kJd jQg jXw gk_nil kUs) (gm_cons jXw kUs))) (fun C fp s H=>(jXb rfl (jJ2 (jJs (i:=7) nd) (jJ2 (jJs (i:=8) nd) jUf)))) (fun C fp s H=>jVn) (fun C fp s H=>(jJc 7))) jJf)))
   (jJe (jJ5 (i:=6) nd (jQ7 jJf))
   (jJe (jQz PassesOwn.never rfl (jV2 (jJc 4)) (jXb rfl (jJ2 (jJs (i:=7) nd) (jJ2 (jJs (i:=8) nd) jUf))) (jJm (jQn (e_bm PySem.F.plainAttrs_list PySem.F.slot_list_extend PySem.F.type_list_extend m_extend (jJc 6) (jJa (jVz (mask:=[false,false,false,false,false,false,false,false,false,true,true]) rfl ⟨rfl,rfl,rfl,rfl,rfl,rfl,rfl⟩ (i_enT rfl T.n_enumerate rfl (jJa (e_ix (ix_F hu) (jJc 0) (jJc 8) (fun _ _=>rfl)) jJf)) (gk_tup (kJd jQg jXw (kJd jQg jXw gk_nil kUs) (gm_cons jXw kUs))) (fun C fp s H=>(jXb rfl (jJ2 (jJs (i:=9) nd) (jJ2 (jJs (i:=10) nd) jUf)))) (fun C fp s H=>jVn) (fun C fp s H=>(jKz (jJa (e_op kUl (jJc 7) (jKz (jJa (jJc 9) jJf))) (jJa (e_ix (ix_F hu) (jJc 10) jJo (fun _ _=>rfl)) jJf))))) jJf)))))
   (jJm (jJ5 (i:=4) nd (jJc 6)))))))
   (jJm (jKh (jJc 3))))))
noncomputable abbrev jUp:Stmt:=top 45
theorem sc_l_ways_of:FnScope ["_law_doors","_law_deep","_law_many","_law_turn_here"] ["_law_doors","_law_deep"] (jJh jUp):=⟨rfl,rfl,rfl,by decide +kernel,rfl,by decide +kernel,by decide +kernel⟩
theorem ok_l_ways_of (T:Txt mg) (O:Ocl K) (F:Fun K "_law_ways_of" "_law_ways_of" jUp f fd) 
  (h:∀xs G Q,jKn xs G Q->jVt {nx:=fun _ G'=>Q .non G',rt:=Q} (jJk ["_law_doors","_law_deep","_law_many","_law_turn_here"] xs) G):Fn3 P w K mg base 1 f fd ["_law_doors","_law_deep"] jKn:=by
 refine fn3 F sc_l_ways_of fun cdv A outer s H E hr=>⟨jVt,?_,h⟩
 have hu:=jQj hr
 have nd:=sc_l_ways_of.nd
 exact (jJe (jJ5 (i:=2) nd jJo)
   (jJe (jQz PassesOwn.never rfl (jQd rfl T.n_range (jJa (jJc 1) jJf)) (jJs (i:=3) nd) (jJm (jJ5 (i:=2) nd (e_op jU6 (jJc 2) (jJc 0)))))
   (jJm (jKh (jJc 2)))))
noncomputable abbrev jV6:Stmt:=top 46
theorem sc_l_least:FnScope ["_law_one","_law_a","_law_other","_law_b","_law_way","_law_doors","_law_many","_law_ways","_law_room","_law_less"] ["_law_one","_law_a","_law_other","_law_b","_law_way"] (jJh jV6):=⟨rfl,rfl,rfl,by decide +kernel,rfl,by decide +kernel,by decide +kernel⟩
theorem ok_l_least (T:Txt mg) (O:Ocl K) (F:Fun K "_law_least" "_law_least" jV6 f fd) (C_seen_with_stone:Cal P w K mg base 2 "seen_with_stone" ["web","room","way"] jJn) (C_l_ways_of:Cal P w K mg base 1 "_law_ways_of" ["_law_doors","_law_deep"] jKn) (C_l_walks:Cal P w K mg base 1 "_law_walks" ["_law_web_here","_law_room","_law_many"] jQe)
  (h:∀xs G Q,jK5 xs G Q->jYj {nx:=fun _ G'=>Q .non G',rt:=Q} (jJk ["_law_one","_law_a","_law_other","_law_b","_law_way","_law_doors","_law_many","_law_ways","_law_room","_law_less"] xs) G):Fn3 P w K mg base 3 f fd ["_law_one","_law_a","_law_other","_law_b","_law_way"] jK5:=by
 refine fn3 F sc_l_least fun cdv A outer s H E hr=>⟨jYj,?_,h⟩
 have hu:=jQj hr
 have nd:=sc_l_least.nd
 exact (jJe (s_if (jQv (jZ5 hr.units) (jKa C_seen_with_stone (hr.mono (by decide)) (jJa (jJc 0) (jJa (jJc 1) (jJa (jJc 4) jJf)))) (jKa C_seen_with_stone (hr.mono (by decide)) (jJa (jJc 2) (jJa (jJc 3) (jJa (jJc 4) jJf)))) (jJz _)) (jJm (jKh e_bl)) jQb)
   (jJe (jJ5 (i:=5) nd (jJv (c_maxL rfl) (by rfl) T.n_max rfl (jJa (jVz (mask:=[false,false,false,false,false,false,false,false,true,false]) rfl ⟨rfl,rfl,rfl,rfl,rfl,rfl,rfl⟩ (jV2 (jJc 0)) jQg (fun C fp s H=>(jJs (i:=8) nd)) (fun C fp s H=>jVn) (fun C fp s H=>(jJv jQh (by rfl) T.n_len PySem.boot_len (jJa (jJc 8) jJf)))) jJf)))
   (jJe (jJ5 (i:=6) nd (e_op o_sub (jJv jQh (by rfl) T.n_len PySem.boot_len (jJa (jJc 4) jJf)) jJo))
   (jJe (kKg PassesOwn.never (PW3.pt (w_and (jQv o_gt (jJc 6) jJo (jJz _)) (w_and1 (jQv o_gt (jKa C_l_ways_of (hr.mono (by decide)) (jJa (jJc 5) (jJa (jJc 6) jJf))) jJo (jJz _))))) (jJm (jJ5 (i:=6) nd (e_op o_sub (jJc 6) jJo))))
   (jJe (jJ5 (i:=7) nd (e_ifExp (jQv o_gt (jJv jQh (by rfl) T.n_len PySem.boot_len (jJa (jJc 4) jJf)) jJo (jJz _)) (jKa C_l_walks (hr.mono (by decide)) (jJa (jJc 0) (jJa (jJc 1) (jJa (jJc 6) jJf)))) (jQ7 jJf)))
   (jJm (jKh (jJv (c_all rfl) (by rfl) T.n_all rfl (jJa (jVz (mask:=[false,false,false,false,false,false,false,false,false,true]) rfl ⟨rfl,rfl,rfl,rfl,rfl,rfl,rfl⟩ (jV2 (jJc 7)) jQg (fun C fp s H=>(jJs (i:=9) nd)) (fun C fp s H=>jVn) (fun C fp s H=>(kQb (jZ5 hr.units) (jKa C_seen_with_stone (hr.mono (by decide)) (jJa (jJc 0) (jJa (jJc 1) (jJa (jJc 9) jJf)))) (jKa C_seen_with_stone (hr.mono (by decide)) (jJa (jJc 2) (jJa (jJc 3) (jJa (jJc 9) jJf)))) (jJz _)))) jJf)))))))))
noncomputable abbrev kVj:Stmt:=top 47
theorem sc_law:FnScope ["_law_script","_law_k","_law_box_here","_law_one","_law_other","_law_a","_law_b","_law_way","_law_pairs","_law_told","_law_plain","_law_web_here"] ["_law_script"] (jJh kVj):=⟨rfl,rfl,rfl,by decide +kernel,rfl,by decide +kernel,by decide +kernel⟩
theorem ok_law (T:Txt mg) (O:Ocl K) (F:Fun K "law" "law" kVj f fd) (C_l_folded:Cal P w K mg base 1 "_law_folded" ["_law_script","_law_many"] jKy) (C_l_box:Cal P w K mg base 1 "_law_box" ["_law_script","_law_k"] jUj) (C_l_two:Cal P w K mg base 4 "_law_two" ["_law_box_here"] jUi) (C_l_take:Cal P w K mg base 1 "_law_take" ["_law_box_here","_law_many"] jJt) (C_parting_with_stone:Cal P w K mg base 3 "parting_with_stone" ["one","a","other","b"] jJq) (C_same_web:Cal P w K mg base 4 "same_web" ["one","a","other","b"] jKq) (C_mapped:Cal P w K mg base 7 "mapped" ["walker"] jKs) (C_Walker_init:CalC P w K mg base 1 "Walker" ["self","web","room","stones"] jJy) (C_l_least:Cal P w K mg base 3 "_law_least" ["_law_one","_law_a","_law_other","_law_b","_law_way"] jK5) (C_parting:Cal P w K mg base 3 "parting" ["one","a","other","b"] jK4)
  (h:∀xs G Q,sp_law xs G Q->rd_law {nx:=fun _ G'=>Q .non G',rt:=Q} (jJk ["_law_script","_law_k","_law_box_here","_law_one","_law_other","_law_a","_law_b","_law_way","_law_pairs","_law_told","_law_plain","_law_web_here"] xs) G):Fn3 P w K mg base 8 f fd ["_law_script"] sp_law:=by
 refine fn3 F sc_law fun cdv A outer s H E hr=>⟨rd_law,?_,h⟩
 have hu:=jQj hr
 have nd:=sc_law.nd
 exact (jJe (jJ5 (i:=0) nd (jKa C_l_folded (hr.mono (by decide)) (jJa (jJc 0) (jJa jJo jJf))))
   (jJe (jQz PassesOwn.never rfl (jQd rfl T.n_range (jJa (jJv (c_max rfl) (by rfl) T.n_max rfl (jJa jJo (jJa (jJv jQh (by rfl) T.n_len PySem.boot_len (jJa (jJc 0) jJf)) jJf))) jJf)) (jJs (i:=1) nd) (jJe (jJ5 (i:=2) nd (jKa C_l_box (hr.mono (by decide)) (jJa (jJc 0) (jJa (jJc 1) jJf))))
   (jJe (jYu (jKa C_l_two (hr.mono (by decide)) (jJa (jJc 2) jJf)) (jXb rfl (jJ2 (jJs (i:=3) nd) (jJ2 (jJs (i:=4) nd) jUf))))
   (jJe (jJ5 (i:=5) nd (jKa C_l_take (hr.mono (by decide)) (jJa (jJc 2) (jJa (jJv jQh (by rfl) T.n_len PySem.boot_len (jJa (jJc 3) jJf)) jJf))))
   (jJe (jJ5 (i:=6) nd (e_ix (ix_F hu) (jQ7 (jJa (e_op jZj (jJc 5) (jJv jQh (by rfl) T.n_len PySem.boot_len (jJa (jJc 4) jJf))) (jJa (jKa C_l_take (hr.mono (by decide)) (jJa (jJc 2) (jJa (jJv jQh (by rfl) T.n_len PySem.boot_len (jJa (jJc 4) jJf)) jJf))) jJf))) (jKa C_l_take (hr.mono (by decide)) (jJa (jJc 2) (jJa jJo jJf))) (fun _ _=>rfl)))
   (jJe (jJ5 (i:=7) nd (jKa C_parting_with_stone (hr.mono (by decide)) (jJa (jJc 3) (jJa (jJc 5) (jJa (jJc 4) (jJa (jJc 6) jJf))))))
   (jJe (jJ5 (i:=8) nd (jKa C_same_web (hr.mono (by decide)) (jJa (jJc 3) (jJa (jJc 5) (jJa (jJc 4) (jJa (jJc 6) jJf))))))
   (jJe (jJ5 (i:=9) nd (jQ7 (jJa (jKa C_mapped (hr.mono (by decide)) (jJa (e_make C_Walker_init (hr.mono (by decide)) (jJa (jJc 3) (jJa (jJc 5) (jJa jJo jJf)))) jJf)) (jJa (jKa C_mapped (hr.mono (by decide)) (jJa (e_make C_Walker_init (hr.mono (by decide)) (jJa (jJc 4) (jJa (jJc 6) (jJa jJo jJf)))) jJf)) jJf))))
   (jJe (s_if (PW3.pt (w_or (jQv (o_neA hr.units) (kQb o_isN (jJc 7) jZq (jJz _)) (kQb o_notN (jJc 8) jZq (jJz _)) (jJz _)) (w_or1 (jQv (o_neA hr.units) (kQb (jZ5 hr.units) (e_ix (ix_F hu) (jJc 9) jJo (fun _ _=>rfl)) (e_ix (ix_F hu) (jJc 9) jJo (fun _ _=>rfl)) (jJz _)) (kQb o_isN (jJc 7) jZq (jJz _)) (jJz _))))) (jJm (jKh e_bl)) jQb)
   (jJe (s_if (jQv (o_neA hr.units) (jVz (mask:=[false,false,false,false,false,false,false,false,false,false,false,true]) rfl ⟨rfl,rfl,rfl,rfl,rfl,rfl,rfl⟩ (jV2 (jJc 9)) jQg (fun C fp s H=>(jJs (i:=11) nd)) (fun C fp s H=>jVn) (fun C fp s H=>(jJv jQh (by rfl) T.n_len PySem.boot_len (jJa (jJc 11) jJf)))) (jQ7 (jJa (jJv jQh (by rfl) T.n_len PySem.boot_len (jJa (jJc 3) jJf)) (jJa (jJv jQh (by rfl) T.n_len PySem.boot_len (jJa (jJc 4) jJf)) jJf))) (jJz _)) (jJm (jKh e_bl)) jQb)
   (jJe (s_if (PW3.pt (w_and (jQv o_notN (jJc 7) jZq (jJz _)) (w_and1 (t_not (t_val (jKa C_l_least (hr.mono (by decide)) (jJa (jJc 3) (jJa (jJc 5) (jJa (jJc 4) (jJa (jJc 6) (jJa (jJc 7) jJf))))))))))) (jJm (jKh e_bl)) jQb)
   (jJe (jJ5 (i:=10) nd (jKa C_parting (hr.mono (by decide)) (jJa (jJc 3) (jJa (jJc 5) (jJa (jJc 4) (jJa (jJc 6) jJf))))))
   (jJm (s_if (PW3.pt (w_and (jQv o_notN (jJc 10) jZq (jJz _)) (w_and1 (PW3.pt (w_or (jQv o_isN (jJc 7) jZq (jJz _)) (w_or1 (jQv o_gt (jJv jQh (by rfl) T.n_len PySem.boot_len (jJa (jJc 7) jJf)) (jJv jQh (by rfl) T.n_len PySem.boot_len (jJa (jJc 10) jJf)) (jJz _)))))))) (jJm (jKh e_bl)) jQb))))))))))))))
   (jJm (jKh e_bl))))
local macro_rules
 | `(tactic| trivial) => `(tactic| (intro xs G Q h;repeat (first | exact (congrArg List.length h.1).trans rfl | obtain ⟨_,h⟩ := h)))
local macro_rules
 | `(tactic| trivial) => `(tactic| (intro xs G Q Q' hq;(repeat' (first | (refine Exists.imp fun _=> ?_) | (refine And.imp_right ?_)));intro k;intros;apply hq;apply k<;>assumption))
theorem ln1 {α:Type} {us:List α} {C:List α->Prop} (h:us.length=1) (k:∀a0,C [a0]):C us:=by
 obtain⟨a0,us,rfl⟩:=lJ5 h
 replace h:=lJ6 h
 cases lKq.mp h
 exact k a0
theorem ln2 {α:Type} {us:List α} {C:List α->Prop} (h:us.length=2) (k:∀a0 a1,C [a0,a1]):C us:=by
 obtain⟨a0,us,rfl⟩:=lJ5 h
 replace h:=lJ6 h
 obtain⟨a1,us,rfl⟩:=lJ5 h
 replace h:=lJ6 h
 cases lKq.mp h
 exact k a0 a1
theorem ln3 {α:Type} {us:List α} {C:List α->Prop} (h:us.length=3) (k:∀a0 a1 a2,C [a0,a1,a2]):C us:=by
 obtain⟨a0,us,rfl⟩:=lJ5 h
 replace h:=lJ6 h
 obtain⟨a1,us,rfl⟩:=lJ5 h
 replace h:=lJ6 h
 obtain⟨a2,us,rfl⟩:=lJ5 h
 replace h:=lJ6 h
 cases lKq.mp h
 exact k a0 a1 a2
theorem ln4 {α:Type} {us:List α} {C:List α->Prop} (h:us.length=4) (k:∀a0 a1 a2 a3,C [a0,a1,a2,a3]):C us:=by
 obtain⟨a0,us,rfl⟩:=lJ5 h
 replace h:=lJ6 h
 obtain⟨a1,us,rfl⟩:=lJ5 h
 replace h:=lJ6 h
 obtain⟨a2,us,rfl⟩:=lJ5 h
 replace h:=lJ6 h
 obtain⟨a3,us,rfl⟩:=lJ5 h
 replace h:=lJ6 h
 cases lKq.mp h
 exact k a0 a1 a2 a3
theorem ln5 {α:Type} {us:List α} {C:List α->Prop} (h:us.length=5) (k:∀a0 a1 a2 a3 a4,C [a0,a1,a2,a3,a4]):C us:=by
 obtain⟨a0,us,rfl⟩:=lJ5 h
 replace h:=lJ6 h
 obtain⟨a1,us,rfl⟩:=lJ5 h
 replace h:=lJ6 h
 obtain⟨a2,us,rfl⟩:=lJ5 h
 replace h:=lJ6 h
 obtain⟨a3,us,rfl⟩:=lJ5 h
 replace h:=lJ6 h
 obtain⟨a4,us,rfl⟩:=lJ5 h
 replace h:=lJ6 h
 cases lKq.mp h
 exact k a0 a1 a2 a3 a4
theorem kJx:Mono jJy:=by trivial
theorem kK0:∀xs G Q,jJy xs G Q->xs.length=(["self","web","room","stones"]:List Str).length:=by trivial
theorem kJy:Mono jJr:=by trivial
theorem kK1:∀xs G Q,jJr xs G Q->xs.length=(["self"]:List Str).length:=by trivial
theorem kQ9:Mono jJu:=by trivial
theorem kXl:∀xs G Q,jJu xs G Q->xs.length=(["self","door"]:List Str).length:=by trivial
theorem kKs:Mono jKk:=by trivial
theorem kUc:∀xs G Q,jKk xs G Q->xs.length=(["self"]:List Str).length:=by trivial
theorem kJw:Mono jKd:=by trivial
theorem kKz:∀xs G Q,jKd xs G Q->xs.length=(["self"]:List Str).length:=by trivial
theorem jY1:Mono jJ3:=by trivial
theorem jZm:∀xs G Q,jJ3 xs G Q->xs.length=(["self"]:List Str).length:=by trivial
theorem jZl:Mono jJ1:=by trivial
theorem jZ8:∀xs G Q,jJ1 xs G Q->xs.length=(["web","room"]:List Str).length:=by trivial
theorem mono_ends_on:Mono jQp:=by
 unfold jQp;(intro xs G Q Q' hq;(repeat' (first | (refine Exists.imp fun _=> ?_) | (refine And.imp_right ?_)));intro k G' s;refine⟨fun a=>hq _ _ ((k G' s).1 a),?_⟩;intros;apply hq;apply (k G' s).2<;>assumption)
theorem len_ends_on:∀xs G Q,jQp xs G Q->xs.length=(["web","room","way"]:List Str).length:=by trivial
theorem mono_look:Mono jUh:=by trivial
theorem len_look:∀xs G Q,jUh xs G Q->xs.length=(["web","first","end","stone"]:List Str).length:=by trivial
theorem kJt:Mono jJ4:=by trivial
theorem kKw:∀xs G Q,jJ4 xs G Q->xs.length=(["one","a","other","b","stone"]:List Str).length:=by trivial
theorem mono_parting:Mono jK4:=by trivial
theorem len_parting:∀xs G Q,jK4 xs G Q->xs.length=(["one","a","other","b"]:List Str).length:=by trivial
theorem jYw:Mono jJn:=by trivial
theorem jY3:∀xs G Q,jJn xs G Q->xs.length=(["web","room","way"]:List Str).length:=by trivial
theorem jXt:Mono jJq:=by trivial
theorem jX2:∀xs G Q,jJq xs G Q->xs.length=(["one","a","other","b"]:List Str).length:=by trivial
theorem mono_ends_by:Mono jQq:=by trivial
theorem len_ends_by:∀xs G Q,jQq xs G Q->xs.length=(["ends","numbers"]:List Str).length:=by trivial
theorem kKr:Mono jKj:=by trivial
theorem kUb:∀xs G Q,jKj xs G Q->xs.length=(["web","numbers"]:List Str).length:=by trivial
theorem kQ3:Mono jKm:=by trivial
theorem kXf:∀xs G Q,jKm xs G Q->xs.length=(["web","room"]:List Str).length:=by trivial
theorem kXa:Mono jKq:=by trivial
theorem len_same_web:∀xs G Q,jKq xs G Q->xs.length=(["one","a","other","b"]:List Str).length:=by trivial
theorem mono_led:Mono jX4:=by trivial
theorem len_led:∀xs G Q,jX4 xs G Q->xs.length=(["walker","way"]:List Str).length:=by trivial
theorem kXb:Mono jKe:=by trivial
theorem len_led_back:∀xs G Q,jKe xs G Q->xs.length=(["walker","doors"]:List Str).length:=by trivial
theorem kQ8:Mono jKw:=by trivial
theorem kXk:∀xs G Q,jKw xs G Q->xs.length=(["walker","way","doors"]:List Str).length:=by trivial
theorem kJu:Mono jJ8:=by trivial
theorem kKx:∀xs G Q,jJ8 xs G Q->xs.length=(["walker","tracks"]:List Str).length:=by trivial
theorem kXe:Mono jQa:=by trivial
theorem len_by_stone:∀xs G Q,jQa xs G Q->xs.length=(["walker"]:List Str).length:=by trivial
theorem mono_mapped:Mono jKs:=by trivial
theorem len_mapped:∀xs G Q,jKs xs G Q->xs.length=(["walker"]:List Str).length:=by trivial
theorem mono_l_box:Mono jUj:=by trivial
theorem len_l_box:∀xs G Q,jUj xs G Q->xs.length=(["_law_script","_law_k"]:List Str).length:=by trivial
theorem mono_l_take:Mono jJt:=by trivial
theorem len_l_take:∀xs G Q,jJt xs G Q->xs.length=(["_law_box_here","_law_many"]:List Str).length:=by trivial
theorem kXd:Mono jKy:=by trivial
theorem len_l_folded:∀xs G Q,jKy xs G Q->xs.length=(["_law_script","_law_many"]:List Str).length:=by trivial
theorem kXc:Mono jK9:=by trivial
theorem len_l_joined:∀xs G Q,jK9 xs G Q->xs.length=(["_law_halves"]:List Str).length:=by trivial
theorem kJv:Mono jKc:=by trivial
theorem kKy:∀xs G Q,jKc xs G Q->xs.length=(["_law_box_here","_law_pairs","_law_many"]:List Str).length:=by trivial
theorem mono_l_web:Mono jUw:=by trivial
theorem len_l_web:∀xs G Q,jUw xs G Q->xs.length=(["_law_box_here","_law_many","_law_most"]:List Str).length:=by trivial
theorem mono_l_ring:Mono jQt:=by trivial
theorem len_l_ring:∀xs G Q,jQt xs G Q->xs.length=(["_law_many"]:List Str).length:=by trivial
theorem mono_l_ends:Mono jQm:=by trivial
theorem len_l_ends:∀xs G Q,jQm xs G Q->xs.length=(["_law_web_here"]:List Str).length:=by trivial
theorem kQ6:Mono jKu:=by trivial
theorem kXi:∀xs G Q,jKu xs G Q->xs.length=(["_law_web_here","_law_room"]:List Str).length:=by trivial
theorem kQ5:Mono jKt:=by trivial
theorem kXh:∀xs G Q,jKt xs G Q->xs.length=(["_law_web_here","_law_turns","_law_many"]:List Str).length:=by trivial
theorem mono_l_turn:Mono jQ6:=by trivial
theorem len_l_turn:∀xs G Q,jQ6 xs G Q->xs.length=(["_law_box_here","_law_many","_law_own"]:List Str).length:=by trivial
theorem kQ7:Mono jKv:=by trivial
theorem kXj:∀xs G Q,jKv xs G Q->xs.length=(["_law_box_here","_law_web_here","_law_many"]:List Str).length:=by trivial
theorem mono_l_two:Mono jUi:=by trivial
theorem len_l_two:∀xs G Q,jUi xs G Q->xs.length=(["_law_box_here"]:List Str).length:=by trivial
theorem mono_l_walks:Mono jQe:=by trivial
theorem len_l_walks:∀xs G Q,jQe xs G Q->xs.length=(["_law_web_here","_law_room","_law_many"]:List Str).length:=by trivial
theorem kQ4:Mono jKn:=by trivial
theorem kXg:∀xs G Q,jKn xs G Q->xs.length=(["_law_doors","_law_deep"]:List Str).length:=by trivial
theorem mono_l_least:Mono jK5:=by trivial
theorem len_l_least:∀xs G Q,jK5 xs G Q->xs.length=(["_law_one","_law_a","_law_other","_law_b","_law_way"]:List Str).length:=by trivial
noncomputable def spLaw (K:PySem.W.Frag):Sp:=dn K 1 sp_law
theorem all_mk {l:PySem.W.OpenLaw} {w:World} {K:PySem.W.Frag} {h:Heap} {mg:Str->Option Value} {fa:Addr} {f0 f1 f2 f3 f4 f5 f6 f7 f8 f9 f10 f11 f12 f13 f14 f15 f16 f17 f18 f19 f20 f21 f22 f23 f24 f25 f26 f27 f28 f29 f30 f31 f32 f33 f34 f35 f36 f37 f38 f39:Addr}
  (X:K.In h) (G:h.Ns mainGlobals mg) (hfa:mg "law"=some (.ref fa))
  {od0 an0 od1 an1 od2 an2 od3 an3 od4 an4 od5 an5 od6 an6 od7 an7 od8 an8 od9 an9 od10 an10 od11 an11 od12 an12 od13 an13 od14 an14 od15 an15 od16 an16 od17 an17 od18 an18 od19 an19 od20 an20 od21 an21 od22 an22 od23 an23 od24 an24 od25 an25 od26 an26 od27 an27 od28 an28 od29 an29 od30 an30 od31 an31 od32 an32 od33 an33 od34 an34 od35 an35 od36 an36 od37 an37 od38 an38 od39 an39:Option Addr} {sl0 sl1 sl2 sl3 sl4 sl5 sl6 sl7 sl8 sl9 sl10 sl11 sl12 sl13 sl14 sl15 sl16 sl17 sl18 sl19 sl20 sl21 sl22 sl23 sl24 sl25 sl26 sl27 sl28 sl29 sl30 sl31 sl32 sl33 sl34 sl35 sl36 sl37 sl38 sl39:Array (Option Value)} {oc0 kV0 dc0 pm0 cd0 ct0 oc1 kV1 dc1 pm1 cd1 ct1 oc2 kV2 dc2 pm2 cd2 ct2 oc3 kV3 dc3 pm3 cd3 ct3 oc4 kV4 dc4 pm4 cd4 ct4 oc5 kV5 dc5 pm5 cd5 ct5 oc6 kV6 dc6 pm6 cd6 ct6 oc7 kV7 dc7 pm7 cd7 ct7 oc8 kV8 dc8 pm8 cd8 ct8 oc9 kV9 dc9 pm9 cd9 ct9 oc10 kV10 dc10 pm10 cd10 ct10 oc11 kV11 dc11 pm11 cd11 ct11 oc12 kV12 dc12 pm12 cd12 ct12 oc13 kV13 dc13 pm13 cd13 ct13 oc14 kV14 dc14 pm14 cd14 ct14 oc15 kV15 dc15 pm15 cd15 ct15 oc16 kV16 dc16 pm16 cd16 ct16 oc17 kV17 dc17 pm17 cd17 ct17 oc18 kV18 dc18 pm18 cd18 ct18 oc19 kV19 dc19 pm19 cd19 ct19 oc20 kV20 dc20 pm20 cd20 ct20 oc21 kV21 dc21 pm21 cd21 ct21 oc22 kV22 dc22 pm22 cd22 ct22 oc23 kV23 dc23 pm23 cd23 ct23 oc24 kV24 dc24 pm24 cd24 ct24 oc25 kV25 dc25 pm25 cd25 ct25 oc26 kV26 dc26 pm26 cd26 ct26 oc27 kV27 dc27 pm27 cd27 ct27 oc28 kV28 dc28 pm28 cd28 ct28 oc29 kV29 dc29 pm29 cd29 ct29 oc30 kV30 dc30 pm30 cd30 ct30 oc31 kV31 dc31 pm31 cd31 ct31 oc32 kV32 dc32 pm32 cd32 ct32 oc33 kV33 dc33 pm33 cd33 ct33 oc34 kV34 dc34 pm34 cd34 ct34 oc35 kV35 dc35 pm35 cd35 ct35 oc36 kV36 dc36 pm36 cd36 ct36 oc37 kV37 dc37 pm37 cd37 ct37 oc38 kV38 dc38 pm38 cd38 ct38 oc39 kV39 dc39 pm39 cd39 ct39:Value}
  {C0:Addr}
  (aC0:PySem.W.nsIn K mainGlobals "Walker"=some (some (.ref C0))) (pg0:PySem.W.plainGet K C0 Str.empty=true) (hd0:PySem.W.hasDictIn K C0=true) (po0:PySem.W.plainOver K C0=true) (sa0:PySem.W.findIn K (.ref C0) "__setattr__"=some (some (.builtin "object.__setattr__"))) (mk0:PySem.W.makesIn K C0=true) (kc0:PySem.W.keepIn K (.ref C0)=true)
  (n_Walker_came:PySem.W.findIn K (.ref C0) "came"=some none)
  (n_Walker_held:PySem.W.findIn K (.ref C0) "held"=some none)
  (n_Walker_lying:PySem.W.findIn K (.ref C0) "lying"=some none)
  (n_Walker_room:PySem.W.findIn K (.ref C0) "room"=some none)
  (n_Walker_walked:PySem.W.findIn K (.ref C0) "walked"=some none)
  (n_Walker_web:PySem.W.findIn K (.ref C0) "web"=some none)
  (a0:PySem.W.findIn K (.ref C0) "__init__"=some (some (.ref f0))) (i0:PySem.W.isFn K (.ref f0)=true) (l0:K.lookup f0=some ⟨oc0,od0,.func (PySem.W.fnOf "__init__" "Walker.__init__" (jJ0 jQ1) (jJx jQ1) (jJh jQ1) .none kV0 dc0 pm0 an0 cd0 ct0),sl0⟩) (c0:PySem.W.codeIn K cd0 "Walker.__init__"=true) (k0:PySem.W.keepIn K (.ref f0)=true)
  (a1:PySem.W.findIn K (.ref C0) "here"=some (some (.ref f1))) (i1:PySem.W.isFn K (.ref f1)=true) (l1:K.lookup f1=some ⟨oc1,od1,.func (PySem.W.fnOf "here" "Walker.here" (jJ0 jQ2) (jJx jQ2) (jJh jQ2) .none kV1 dc1 pm1 an1 cd1 ct1),sl1⟩) (c1:PySem.W.codeIn K cd1 "Walker.here"=true) (k1:PySem.W.keepIn K (.ref f1)=true)
  (a2:PySem.W.findIn K (.ref C0) "go"=some (some (.ref f2))) (i2:PySem.W.isFn K (.ref f2)=true) (l2:K.lookup f2=some ⟨oc2,od2,.func (PySem.W.fnOf "go" "Walker.go" (jJ0 jUu) (jJx jUu) (jJh jUu) .none kV2 dc2 pm2 an2 cd2 ct2),sl2⟩) (c2:PySem.W.codeIn K cd2 "Walker.go"=true) (k2:PySem.W.keepIn K (.ref f2)=true)
  (a3:PySem.W.findIn K (.ref C0) "lay"=some (some (.ref f3))) (i3:PySem.W.isFn K (.ref f3)=true) (l3:K.lookup f3=some ⟨oc3,od3,.func (PySem.W.fnOf "lay" "Walker.lay" (jJ0 jUd) (jJx jUd) (jJh jUd) .none kV3 dc3 pm3 an3 cd3 ct3),sl3⟩) (c3:PySem.W.codeIn K cd3 "Walker.lay"=true) (k3:PySem.W.keepIn K (.ref f3)=true)
  (a4:PySem.W.findIn K (.ref C0) "take"=some (some (.ref f4))) (i4:PySem.W.isFn K (.ref f4)=true) (l4:K.lookup f4=some ⟨oc4,od4,.func (PySem.W.fnOf "take" "Walker.take" (jJ0 jQ0) (jJx jQ0) (jJh jQ0) .none kV4 dc4 pm4 an4 cd4 ct4),sl4⟩) (c4:PySem.W.codeIn K cd4 "Walker.take"=true) (k4:PySem.W.keepIn K (.ref f4)=true)
  (a5:PySem.W.findIn K (.ref C0) "in_hand"=some (some (.ref f5))) (i5:PySem.W.isFn K (.ref f5)=true) (l5:K.lookup f5=some ⟨oc5,od5,.func (PySem.W.fnOf "in_hand" "Walker.in_hand" (jJ0 jK6) (jJx jK6) (jJh jK6) .none kV5 dc5 pm5 an5 cd5 ct5),sl5⟩) (c5:PySem.W.codeIn K cd5 "Walker.in_hand"=true) (k5:PySem.W.keepIn K (.ref f5)=true)
  (a6:PySem.W.nsIn K mainGlobals "first_comings"=some (some (.ref f6))) (l6:K.lookup f6=some ⟨oc6,od6,.func (PySem.W.fnOf "first_comings" "first_comings" (jJ0 jQf) (jJx jQf) (jJh jQf) .none kV6 dc6 pm6 an6 cd6 ct6),sl6⟩) (c6:PySem.W.codeIn K cd6 "first_comings"=true) (k6:PySem.W.keepIn K (.ref f6)=true)
  (a7:PySem.W.nsIn K mainGlobals "ends_on"=some (some (.ref f7))) (l7:K.lookup f7=some ⟨oc7,od7,.func (PySem.W.fnOf "ends_on" "ends_on" (jJ0 jV7) (jJx jV7) (jJh jV7) .none kV7 dc7 pm7 an7 cd7 ct7),sl7⟩) (c7:PySem.W.codeIn K cd7 "ends_on"=true) (k7:PySem.W.keepIn K (.ref f7)=true)
  (a8:PySem.W.nsIn K mainGlobals "look"=some (some (.ref f8))) (l8:K.lookup f8=some ⟨oc8,od8,.func (PySem.W.fnOf "look" "look" (jJ0 kUj) (jJx kUj) (jJh kUj) .none kV8 dc8 pm8 an8 cd8 ct8),sl8⟩) (c8:PySem.W.codeIn K cd8 "look"=true) (k8:PySem.W.keepIn K (.ref f8)=true)
  (a9:PySem.W.nsIn K mainGlobals "walked_both"=some (some (.ref f9))) (l9:K.lookup f9=some ⟨oc9,od9,.func (PySem.W.fnOf "walked_both" "walked_both" (jJ0 jQw) (jJx jQw) (jJh jQw) .none kV9 dc9 pm9 an9 cd9 ct9),sl9⟩) (c9:PySem.W.codeIn K cd9 "walked_both"=true) (k9:PySem.W.keepIn K (.ref f9)=true)
  (a10:PySem.W.nsIn K mainGlobals "parting"=some (some (.ref f10))) (l10:K.lookup f10=some ⟨oc10,od10,.func (PySem.W.fnOf "parting" "parting" (jJ0 jV4) (jJx jV4) (jJh jV4) .none kV10 dc10 pm10 an10 cd10 ct10),sl10⟩) (c10:PySem.W.codeIn K cd10 "parting"=true) (k10:PySem.W.keepIn K (.ref f10)=true)
  (a11:PySem.W.nsIn K mainGlobals "seen_with_stone"=some (some (.ref f11))) (l11:K.lookup f11=some ⟨oc11,od11,.func (PySem.W.fnOf "seen_with_stone" "seen_with_stone" (jJ0 jKx) (jJx jKx) (jJh jKx) .none kV11 dc11 pm11 an11 cd11 ct11),sl11⟩) (c11:PySem.W.codeIn K cd11 "seen_with_stone"=true) (k11:PySem.W.keepIn K (.ref f11)=true)
  (a12:PySem.W.nsIn K mainGlobals "parting_with_stone"=some (some (.ref f12))) (l12:K.lookup f12=some ⟨oc12,od12,.func (PySem.W.fnOf "parting_with_stone" "parting_with_stone" (jJ0 jKf) (jJx jKf) (jJh jKf) .none kV12 dc12 pm12 an12 cd12 ct12),sl12⟩) (c12:PySem.W.codeIn K cd12 "parting_with_stone"=true) (k12:PySem.W.keepIn K (.ref f12)=true)
  (a13:PySem.W.nsIn K mainGlobals "ends_by"=some (some (.ref f13))) (l13:K.lookup f13=some ⟨oc13,od13,.func (PySem.W.fnOf "ends_by" "ends_by" (jJ0 jV8) (jJx jV8) (jJh jV8) .none kV13 dc13 pm13 an13 cd13 ct13),sl13⟩) (c13:PySem.W.codeIn K cd13 "ends_by"=true) (k13:PySem.W.keepIn K (.ref f13)=true)
  (a14:PySem.W.nsIn K mainGlobals "renumbered"=some (some (.ref f14))) (l14:K.lookup f14=some ⟨oc14,od14,.func (PySem.W.fnOf "renumbered" "renumbered" (jJ0 jUc) (jJx jUc) (jJh jUc) .none kV14 dc14 pm14 an14 cd14 ct14),sl14⟩) (c14:PySem.W.codeIn K cd14 "renumbered"=true) (k14:PySem.W.keepIn K (.ref f14)=true)
  (a15:PySem.W.nsIn K mainGlobals "told_from"=some (some (.ref f15))) (l15:K.lookup f15=some ⟨oc15,od15,.func (PySem.W.fnOf "told_from" "told_from" (jJ0 jUo) (jJx jUo) (jJh jUo) .none kV15 dc15 pm15 an15 cd15 ct15),sl15⟩) (c15:PySem.W.codeIn K cd15 "told_from"=true) (k15:PySem.W.keepIn K (.ref f15)=true)
  (a16:PySem.W.nsIn K mainGlobals "same_web"=some (some (.ref f16))) (l16:K.lookup f16=some ⟨oc16,od16,.func (PySem.W.fnOf "same_web" "same_web" (jJ0 jVe) (jJx jVe) (jJh jVe) .none kV16 dc16 pm16 an16 cd16 ct16),sl16⟩) (c16:PySem.W.codeIn K cd16 "same_web"=true) (k16:PySem.W.keepIn K (.ref f16)=true)
  (a17:PySem.W.nsIn K mainGlobals "led"=some (some (.ref f17))) (l17:K.lookup f17=some ⟨oc17,od17,.func (PySem.W.fnOf "led" "led" (jJ0 s_led) (jJx s_led) (jJh s_led) .none kV17 dc17 pm17 an17 cd17 ct17),sl17⟩) (c17:PySem.W.codeIn K cd17 "led"=true) (k17:PySem.W.keepIn K (.ref f17)=true)
  (a18:PySem.W.nsIn K mainGlobals "led_back"=some (some (.ref f18))) (l18:K.lookup f18=some ⟨oc18,od18,.func (PySem.W.fnOf "led_back" "led_back" (jJ0 jVf) (jJx jVf) (jJh jVf) .none kV18 dc18 pm18 an18 cd18 ct18),sl18⟩) (c18:PySem.W.codeIn K cd18 "led_back"=true) (k18:PySem.W.keepIn K (.ref f18)=true)
  (a19:PySem.W.nsIn K mainGlobals "is_end_of"=some (some (.ref f19))) (l19:K.lookup f19=some ⟨oc19,od19,.func (PySem.W.fnOf "is_end_of" "is_end_of" (jJ0 jUt) (jJx jUt) (jJh jUt) .none kV19 dc19 pm19 an19 cd19 ct19),sl19⟩) (c19:PySem.W.codeIn K cd19 "is_end_of"=true) (k19:PySem.W.keepIn K (.ref f19)=true)
  (a20:PySem.W.nsIn K mainGlobals "number_here"=some (some (.ref f20))) (l20:K.lookup f20=some ⟨oc20,od20,.func (PySem.W.fnOf "number_here" "number_here" (jJ0 jQx) (jJx jQx) (jJh jQx) .none kV20 dc20 pm20 an20 cd20 ct20),sl20⟩) (c20:PySem.W.codeIn K cd20 "number_here"=true) (k20:PySem.W.keepIn K (.ref f20)=true)
  (a21:PySem.W.nsIn K mainGlobals "by_stone"=some (some (.ref f21))) (l21:K.lookup f21=some ⟨oc21,od21,.func (PySem.W.fnOf "by_stone" "by_stone" (jJ0 jVi) (jJx jVi) (jJh jVi) .none kV21 dc21 pm21 an21 cd21 ct21),sl21⟩) (c21:PySem.W.codeIn K cd21 "by_stone"=true) (k21:PySem.W.keepIn K (.ref f21)=true)
  (a22:PySem.W.nsIn K mainGlobals "mapped"=some (some (.ref f22))) (l22:K.lookup f22=some ⟨oc22,od22,.func (PySem.W.fnOf "mapped" "mapped" (jJ0 jYc) (jJx jYc) (jJh jYc) .none kV22 dc22 pm22 an22 cd22 ct22),sl22⟩) (c22:PySem.W.codeIn K cd22 "mapped"=true) (k22:PySem.W.keepIn K (.ref f22)=true)
  (a23:PySem.W.nsIn K mainGlobals "_law_box"=some (some (.ref f23))) (l23:K.lookup f23=some ⟨oc23,od23,.func (PySem.W.fnOf "_law_box" "_law_box" (jJ0 jZz) (jJx jZz) (jJh jZz) .none kV23 dc23 pm23 an23 cd23 ct23),sl23⟩) (c23:PySem.W.codeIn K cd23 "_law_box"=true) (k23:PySem.W.keepIn K (.ref f23)=true)
  (a24:PySem.W.nsIn K mainGlobals "_law_take"=some (some (.ref f24))) (l24:K.lookup f24=some ⟨oc24,od24,.func (PySem.W.fnOf "_law_take" "_law_take" (jJ0 jYe) (jJx jYe) (jJh jYe) .none kV24 dc24 pm24 an24 cd24 ct24),sl24⟩) (c24:PySem.W.codeIn K cd24 "_law_take"=true) (k24:PySem.W.keepIn K (.ref f24)=true)
  (a25:PySem.W.nsIn K mainGlobals "_law_folded"=some (some (.ref f25))) (l25:K.lookup f25=some ⟨oc25,od25,.func (PySem.W.fnOf "_law_folded" "_law_folded" (jJ0 jVh) (jJx jVh) (jJh jVh) .none kV25 dc25 pm25 an25 cd25 ct25),sl25⟩) (c25:PySem.W.codeIn K cd25 "_law_folded"=true) (k25:PySem.W.keepIn K (.ref f25)=true)
  (a26:PySem.W.nsIn K mainGlobals "_law_joined"=some (some (.ref f26))) (l26:K.lookup f26=some ⟨oc26,od26,.func (PySem.W.fnOf "_law_joined" "_law_joined" (jJ0 jVg) (jJx jVg) (jJh jVg) .none kV26 dc26 pm26 an26 cd26 ct26),sl26⟩) (c26:PySem.W.codeIn K cd26 "_law_joined"=true) (k26:PySem.W.keepIn K (.ref f26)=true)
  (a27:PySem.W.nsIn K mainGlobals "_law_doors_put"=some (some (.ref f27))) (l27:K.lookup f27=some ⟨oc27,od27,.func (PySem.W.fnOf "_law_doors_put" "_law_doors_put" (jJ0 jQy) (jJx jQy) (jJh jQy) .none kV27 dc27 pm27 an27 cd27 ct27),sl27⟩) (c27:PySem.W.codeIn K cd27 "_law_doors_put"=true) (k27:PySem.W.keepIn K (.ref f27)=true)
  (a28:PySem.W.nsIn K mainGlobals "_law_web"=some (some (.ref f28))) (l28:K.lookup f28=some ⟨oc28,od28,.func (PySem.W.fnOf "_law_web" "_law_web" (jJ0 jZx) (jJx jZx) (jJh jZx) .none kV28 dc28 pm28 an28 cd28 ct28),sl28⟩) (c28:PySem.W.codeIn K cd28 "_law_web"=true) (k28:PySem.W.keepIn K (.ref f28)=true)
  (a29:PySem.W.nsIn K mainGlobals "_law_ring"=some (some (.ref f29))) (l29:K.lookup f29=some ⟨oc29,od29,.func (PySem.W.fnOf "_law_ring" "_law_ring" (jJ0 jYf) (jJx jYf) (jJh jYf) .none kV29 dc29 pm29 an29 cd29 ct29),sl29⟩) (c29:PySem.W.codeIn K cd29 "_law_ring"=true) (k29:PySem.W.keepIn K (.ref f29)=true)
  (a30:PySem.W.nsIn K mainGlobals "_law_ends"=some (some (.ref f30))) (l30:K.lookup f30=some ⟨oc30,od30,.func (PySem.W.fnOf "_law_ends" "_law_ends" (jJ0 jYg) (jJx jYg) (jJh jYg) .none kV30 dc30 pm30 an30 cd30 ct30),sl30⟩) (c30:PySem.W.codeIn K cd30 "_law_ends"=true) (k30:PySem.W.keepIn K (.ref f30)=true)
  (a31:PySem.W.nsIn K mainGlobals "_law_reached"=some (some (.ref f31))) (l31:K.lookup f31=some ⟨oc31,od31,.func (PySem.W.fnOf "_law_reached" "_law_reached" (jJ0 jUr) (jJx jUr) (jJh jUr) .none kV31 dc31 pm31 an31 cd31 ct31),sl31⟩) (c31:PySem.W.codeIn K cd31 "_law_reached"=true) (k31:PySem.W.keepIn K (.ref f31)=true)
  (a32:PySem.W.nsIn K mainGlobals "_law_sheeted"=some (some (.ref f32))) (l32:K.lookup f32=some ⟨oc32,od32,.func (PySem.W.fnOf "_law_sheeted" "_law_sheeted" (jJ0 jUq) (jJx jUq) (jJh jUq) .none kV32 dc32 pm32 an32 cd32 ct32),sl32⟩) (c32:PySem.W.codeIn K cd32 "_law_sheeted"=true) (k32:PySem.W.keepIn K (.ref f32)=true)
  (a33:PySem.W.nsIn K mainGlobals "_law_turn"=some (some (.ref f33))) (l33:K.lookup f33=some ⟨oc33,od33,.func (PySem.W.fnOf "_law_turn" "_law_turn" (jJ0 jYd) (jJx jYd) (jJh jYd) .none kV33 dc33 pm33 an33 cd33 ct33),sl33⟩) (c33:PySem.W.codeIn K cd33 "_law_turn"=true) (k33:PySem.W.keepIn K (.ref f33)=true)
  (a34:PySem.W.nsIn K mainGlobals "_law_covered"=some (some (.ref f34))) (l34:K.lookup f34=some ⟨oc34,od34,.func (PySem.W.fnOf "_law_covered" "_law_covered" (jJ0 jUs) (jJx jUs) (jJh jUs) .none kV34 dc34 pm34 an34 cd34 ct34),sl34⟩) (c34:PySem.W.codeIn K cd34 "_law_covered"=true) (k34:PySem.W.keepIn K (.ref f34)=true)
  (a35:PySem.W.nsIn K mainGlobals "_law_two"=some (some (.ref f35))) (l35:K.lookup f35=some ⟨oc35,od35,.func (PySem.W.fnOf "_law_two" "_law_two" (jJ0 jZy) (jJx jZy) (jJh jZy) .none kV35 dc35 pm35 an35 cd35 ct35),sl35⟩) (c35:PySem.W.codeIn K cd35 "_law_two"=true) (k35:PySem.W.keepIn K (.ref f35)=true)
  (a36:PySem.W.nsIn K mainGlobals "_law_walks"=some (some (.ref f36))) (l36:K.lookup f36=some ⟨oc36,od36,.func (PySem.W.fnOf "_law_walks" "_law_walks" (jJ0 jV5) (jJx jV5) (jJh jV5) .none kV36 dc36 pm36 an36 cd36 ct36),sl36⟩) (c36:PySem.W.codeIn K cd36 "_law_walks"=true) (k36:PySem.W.keepIn K (.ref f36)=true)
  (a37:PySem.W.nsIn K mainGlobals "_law_ways_of"=some (some (.ref f37))) (l37:K.lookup f37=some ⟨oc37,od37,.func (PySem.W.fnOf "_law_ways_of" "_law_ways_of" (jJ0 jUp) (jJx jUp) (jJh jUp) .none kV37 dc37 pm37 an37 cd37 ct37),sl37⟩) (c37:PySem.W.codeIn K cd37 "_law_ways_of"=true) (k37:PySem.W.keepIn K (.ref f37)=true)
  (a38:PySem.W.nsIn K mainGlobals "_law_least"=some (some (.ref f38))) (l38:K.lookup f38=some ⟨oc38,od38,.func (PySem.W.fnOf "_law_least" "_law_least" (jJ0 jV6) (jJx jV6) (jJh jV6) .none kV38 dc38 pm38 an38 cd38 ct38),sl38⟩) (c38:PySem.W.codeIn K cd38 "_law_least"=true) (k38:PySem.W.keepIn K (.ref f38)=true)
  (a39:PySem.W.nsIn K mainGlobals "law"=some (some (.ref f39))) (l39:K.lookup f39=some ⟨oc39,od39,.func (PySem.W.fnOf "law" "law" (jJ0 kVj) (jJx kVj) (jJh kVj) .none kV39 dc39 pm39 an39 cd39 ct39),sl39⟩) (c39:PySem.W.codeIn K cd39 "law"=true) (k39:PySem.W.keepIn K (.ref f39)=true)
  (z_abs:PySem.W.nsIn K mainGlobals "abs"=some none)
  (z_all:PySem.W.nsIn K mainGlobals "all"=some none)
  (z_dict:PySem.W.nsIn K mainGlobals "dict"=some none)
  (z_divmod:PySem.W.nsIn K mainGlobals "divmod"=some none)
  (z_enumerate:PySem.W.nsIn K mainGlobals "enumerate"=some none)
  (z_int:PySem.W.nsIn K mainGlobals "int"=some none)
  (z_len:PySem.W.nsIn K mainGlobals "len"=some none)
  (z_list:PySem.W.nsIn K mainGlobals "list"=some none)
  (z_max:PySem.W.nsIn K mainGlobals "max"=some none)
  (z_range:PySem.W.nsIn K mainGlobals "range"=some none)
  (z_reversed:PySem.W.nsIn K mainGlobals "reversed"=some none)
  (z_tuple:PySem.W.nsIn K mainGlobals "tuple"=some none)
  (z_zip:PySem.W.nsIn K mainGlobals "zip"=some none):
  ∃fd:FuncData,(∀(s:Shared) (v:Value),BindsTo s fd ⟨[v],[]⟩ [("_law_script",v)])/\∀base:Heap,K.In base->base.Ns mainGlobals mg->FnOk l.prog w K mg base CX0 8 fa fd ["_law_script"] (spLaw K):=by
 have e:=hfa.symm.trans (PySem.W.mg_of X G a39)
 cases e
 have T:Txt mg:=⟨PySem.W.mg_none_of X G z_abs,PySem.W.mg_none_of X G z_all,PySem.W.mg_none_of X G z_dict,PySem.W.mg_none_of X G z_divmod,PySem.W.mg_none_of X G z_enumerate,PySem.W.mg_none_of X G z_int,PySem.W.mg_none_of X G z_len,PySem.W.mg_none_of X G z_list,PySem.W.mg_none_of X G z_max,PySem.W.mg_none_of X G z_range,PySem.W.mg_none_of X G z_reversed,PySem.W.mg_none_of X G z_tuple,PySem.W.mg_none_of X G z_zip⟩
 have cl0:Cls K C0:=⟨pg0,hd0,po0,sa0⟩
 have O:Ocl K:=⟨⟨C0,aC0,cl0,n_Walker_came⟩,⟨C0,aC0,cl0,n_Walker_held⟩,⟨C0,aC0,cl0,n_Walker_lying⟩,⟨C0,aC0,cl0,n_Walker_room⟩,⟨C0,aC0,cl0,n_Walker_walked⟩,⟨C0,aC0,cl0,n_Walker_web⟩⟩
 have F0:=jKb (st:=jQ1) l0 c0 k0
 have F1:=jKb (st:=jQ2) l1 c1 k1
 have F2:=jKb (st:=jUu) l2 c2 k2
 have F3:=jKb (st:=jUd) l3 c3 k3
 have F4:=jKb (st:=jQ0) l4 c4 k4
 have F5:=jKb (st:=jK6) l5 c5 k5
 have F6:=jKb (st:=jQf) l6 c6 k6
 have F7:=jKb (st:=jV7) l7 c7 k7
 have F8:=jKb (st:=kUj) l8 c8 k8
 have F9:=jKb (st:=jQw) l9 c9 k9
 have F10:=jKb (st:=jV4) l10 c10 k10
 have F11:=jKb (st:=jKx) l11 c11 k11
 have F12:=jKb (st:=jKf) l12 c12 k12
 have F13:=jKb (st:=jV8) l13 c13 k13
 have F14:=jKb (st:=jUc) l14 c14 k14
 have F15:=jKb (st:=jUo) l15 c15 k15
 have F16:=jKb (st:=jVe) l16 c16 k16
 have F17:=jKb (st:=s_led) l17 c17 k17
 have F18:=jKb (st:=jVf) l18 c18 k18
 have F19:=jKb (st:=jUt) l19 c19 k19
 have F20:=jKb (st:=jQx) l20 c20 k20
 have F21:=jKb (st:=jVi) l21 c21 k21
 have F22:=jKb (st:=jYc) l22 c22 k22
 have F23:=jKb (st:=jZz) l23 c23 k23
 have F24:=jKb (st:=jYe) l24 c24 k24
 have F25:=jKb (st:=jVh) l25 c25 k25
 have F26:=jKb (st:=jVg) l26 c26 k26
 have F27:=jKb (st:=jQy) l27 c27 k27
 have F28:=jKb (st:=jZx) l28 c28 k28
 have F29:=jKb (st:=jYf) l29 c29 k29
 have F30:=jKb (st:=jYg) l30 c30 k30
 have F31:=jKb (st:=jUr) l31 c31 k31
 have F32:=jKb (st:=jUq) l32 c32 k32
 have F33:=jKb (st:=jYd) l33 c33 k33
 have F34:=jKb (st:=jUs) l34 c34 k34
 have F35:=jKb (st:=jZy) l35 c35 k35
 have F36:=jKb (st:=jV5) l36 c36 k36
 have F37:=jKb (st:=jUp) l37 c37 k37
 have F38:=jKb (st:=jV6) l38 c38 k38
 have F39:=jKb (st:=kVj) l39 c39 k39
 refine⟨PySem.W.fnOf "law" "law" (jJ0 kVj) (jJx kVj) (jJh kVj) .none kV39 dc39 pm39 an39 cd39 ct39,fun s v=> .of_eq rfl,fun base _ _=> ?_⟩
 have C_Walker_init:CalC l.prog w K mg base 1 "Walker" ["self","web","room","stones"] jJy:=⟨⟨C0,_,_,aC0,PySem.W.mg_of X G aC0,⟨mk0,a0,i0,kc0⟩,kQ1 T O F0  kJp,(F0.binds (ps:=["self","web","room","stones"]) fun _ _ _ _ _ _ us hl=>by apply ln4 hl;intros;rfl)⟩,kJx,kK0⟩
 have C_Walker_here:CalM l.prog w K mg base 1 "Walker" "here" ["self"] jJr:=⟨⟨C0,_,_,aC0,cl0,⟨a1,i1,k1⟩,kQ2 T O F1  kJq,(F1.binds (ps:=["self"]) fun _ _ _ _ _ _ us hl=>by apply ln1 hl;intros;rfl)⟩,kJy,kK1⟩
 have C_Walker_go:CalM l.prog w K mg base 2 "Walker" "go" ["self","door"] jJu:=⟨⟨C0,_,_,aC0,cl0,⟨a2,i2,k2⟩,ok_Walker_go T O F2 C_Walker_here kQv,(F2.binds (ps:=["self","door"]) fun _ _ _ _ _ _ us hl=>by apply ln2 hl;intros;rfl)⟩,kQ9,kXl⟩
 have C_Walker_lay:CalM l.prog w K mg base 2 "Walker" "lay" ["self"] jKk:=⟨⟨C0,_,_,aC0,cl0,⟨a3,i3,k3⟩,kVx T O F3 C_Walker_here kKl,(F3.binds (ps:=["self"]) fun _ _ _ _ _ _ us hl=>by apply ln1 hl;intros;rfl)⟩,kKs,kUc⟩
 have C_Walker_take:CalM l.prog w K mg base 2 "Walker" "take" ["self"] jKd:=⟨⟨C0,_,_,aC0,cl0,⟨a4,i4,k4⟩,kQ0 T O F4 C_Walker_here kJo,(F4.binds (ps:=["self"]) fun _ _ _ _ _ _ us hl=>by apply ln1 hl;intros;rfl)⟩,kJw,kKz⟩
 have C_Walker_in_hand:CalM l.prog w K mg base 1 "Walker" "in_hand" ["self"] jJ3:=⟨⟨C0,_,_,aC0,cl0,⟨a5,i5,k5⟩,jZ3 T O F5  jYz,(F5.binds (ps:=["self"]) fun _ _ _ _ _ _ us hl=>by apply ln1 hl;intros;rfl)⟩,jY1,jZm⟩
 have C_first_comings:Cal l.prog w K mg base 1 "first_comings" ["web","room"] jJ1:=⟨⟨_,_,kJs T O F6  jZa,PySem.W.mg_of X G a6,k6,(F6.binds (ps:=["web","room"]) fun _ _ _ _ _ _ us hl=>by apply ln2 hl;intros;rfl)⟩,jZl,jZ8⟩
 have C_ends_on:Cal l.prog w K mg base 1 "ends_on" ["web","room","way"] jQp:=⟨⟨_,_,ok_ends_on T O F7  rdok_ends_on,PySem.W.mg_of X G a7,k7,(F7.binds (ps:=["web","room","way"]) fun _ _ _ _ _ _ us hl=>by apply ln3 hl;intros;rfl)⟩,mono_ends_on,len_ends_on⟩
 have C_look:Cal l.prog w K mg base 1 "look" ["web","first","end","stone"] jUh:=⟨⟨_,_,ok_look T O F8  rdok_look,PySem.W.mg_of X G a8,k8,(F8.binds (ps:=["web","first","end","stone"]) fun _ _ _ _ _ _ us hl=>by apply ln4 hl;intros;rfl)⟩,mono_look,len_look⟩
 have C_walked_both:Cal l.prog w K mg base 2 "walked_both" ["one","a","other","b","stone"] jJ4:=⟨⟨_,_,kQx T O F9 C_look kJl,PySem.W.mg_of X G a9,k9,(F9.binds (ps:=["one","a","other","b","stone"]) fun _ _ _ _ _ _ us hl=>by apply ln5 hl;intros;rfl)⟩,kJt,kKw⟩
 have C_parting:Cal l.prog w K mg base 3 "parting" ["one","a","other","b"] jK4:=⟨⟨_,_,ok_parting T O F10 C_walked_both rdok_parting,PySem.W.mg_of X G a10,k10,(F10.binds (ps:=["one","a","other","b"]) fun _ _ _ _ _ _ us hl=>by apply ln4 hl;intros;rfl)⟩,mono_parting,len_parting⟩
 have C_seen_with_stone:Cal l.prog w K mg base 2 "seen_with_stone" ["web","room","way"] jJn:=⟨⟨_,_,jZh T O F11 C_ends_on C_look jYv,PySem.W.mg_of X G a11,k11,(F11.binds (ps:=["web","room","way"]) fun _ _ _ _ _ _ us hl=>by apply ln3 hl;intros;rfl)⟩,jYw,jY3⟩
 have C_parting_with_stone:Cal l.prog w K mg base 3 "parting_with_stone" ["one","a","other","b"] jJq:=⟨⟨_,_,jX6 T O F12 C_walked_both jXl,PySem.W.mg_of X G a12,k12,(F12.binds (ps:=["one","a","other","b"]) fun _ _ _ _ _ _ us hl=>by apply ln4 hl;intros;rfl)⟩,jXt,jX2⟩
 have C_ends_by:Cal l.prog w K mg base 1 "ends_by" ["ends","numbers"] jQq:=⟨⟨_,_,ok_ends_by T O F13  rdok_ends_by,PySem.W.mg_of X G a13,k13,(F13.binds (ps:=["ends","numbers"]) fun _ _ _ _ _ _ us hl=>by apply ln2 hl;intros;rfl)⟩,mono_ends_by,len_ends_by⟩
 have C_renumbered:Cal l.prog w K mg base 2 "renumbered" ["web","numbers"] jKj:=⟨⟨_,_,kVw T O F14 C_ends_by kKk,PySem.W.mg_of X G a14,k14,(F14.binds (ps:=["web","numbers"]) fun _ _ _ _ _ _ us hl=>by apply ln2 hl;intros;rfl)⟩,kKr,kUb⟩
 have C_told_from:Cal l.prog w K mg base 3 "told_from" ["web","room"] jKm:=⟨⟨_,_,ok_told_from T O F15 C_first_comings C_renumbered kQp,PySem.W.mg_of X G a15,k15,(F15.binds (ps:=["web","room"]) fun _ _ _ _ _ _ us hl=>by apply ln2 hl;intros;rfl)⟩,kQ3,kXf⟩
 have C_same_web:Cal l.prog w K mg base 4 "same_web" ["one","a","other","b"] jKq:=⟨⟨_,_,ok_same_web T O F16 C_told_from C_first_comings kVn,PySem.W.mg_of X G a16,k16,(F16.binds (ps:=["one","a","other","b"]) fun _ _ _ _ _ _ us hl=>by apply ln4 hl;intros;rfl)⟩,kXa,len_same_web⟩
 have C_led:Cal l.prog w K mg base 3 "led" ["walker","way"] jX4:=⟨⟨_,_,ok_led T O F17 C_Walker_go rdok_led,PySem.W.mg_of X G a17,k17,(F17.binds (ps:=["walker","way"]) fun _ _ _ _ _ _ us hl=>by apply ln2 hl;intros;rfl)⟩,mono_led,len_led⟩
 have C_led_back:Cal l.prog w K mg base 3 "led_back" ["walker","doors"] jKe:=⟨⟨_,_,ok_led_back T O F18 C_Walker_go kVo,PySem.W.mg_of X G a18,k18,(F18.binds (ps:=["walker","doors"]) fun _ _ _ _ _ _ us hl=>by apply ln2 hl;intros;rfl)⟩,kXb,len_led_back⟩
 have C_is_end_of:Cal l.prog w K mg base 4 "is_end_of" ["walker","way","doors"] jKw:=⟨⟨_,_,ok_is_end_of T O F19 C_Walker_here C_Walker_go C_led_back kQu,PySem.W.mg_of X G a19,k19,(F19.binds (ps:=["walker","way","doors"]) fun _ _ _ _ _ _ us hl=>by apply ln3 hl;intros;rfl)⟩,kQ8,kXk⟩
 have C_number_here:Cal l.prog w K mg base 5 "number_here" ["walker","tracks"] jJ8:=⟨⟨_,_,kQy T O F20 C_is_end_of kJm,PySem.W.mg_of X G a20,k20,(F20.binds (ps:=["walker","tracks"]) fun _ _ _ _ _ _ us hl=>by apply ln2 hl;intros;rfl)⟩,kJu,kKx⟩
 have C_by_stone:Cal l.prog w K mg base 6 "by_stone" ["walker"] jQa:=⟨⟨_,_,ok_by_stone T O F21 C_led C_Walker_here C_Walker_go C_number_here C_led_back kVr,PySem.W.mg_of X G a21,k21,(F21.binds (ps:=["walker"]) fun _ _ _ _ _ _ us hl=>by apply ln1 hl;intros;rfl)⟩,kXe,len_by_stone⟩
 have C_mapped:Cal l.prog w K mg base 7 "mapped" ["walker"] jKs:=⟨⟨_,_,ok_mapped T O F22 C_Walker_in_hand C_Walker_lay C_by_stone C_Walker_take rdok_mapped,PySem.W.mg_of X G a22,k22,(F22.binds (ps:=["walker"]) fun _ _ _ _ _ _ us hl=>by apply ln1 hl;intros;rfl)⟩,mono_mapped,len_mapped⟩
 have C_l_box:Cal l.prog w K mg base 1 "_law_box" ["_law_script","_law_k"] jUj:=⟨⟨_,_,ok_l_box T O F23  rdok_l_box,PySem.W.mg_of X G a23,k23,(F23.binds (ps:=["_law_script","_law_k"]) fun _ _ _ _ _ _ us hl=>by apply ln2 hl;intros;rfl)⟩,mono_l_box,len_l_box⟩
 have C_l_take:Cal l.prog w K mg base 1 "_law_take" ["_law_box_here","_law_many"] jJt:=⟨⟨_,_,ok_l_take T O F24  rdok_l_take,PySem.W.mg_of X G a24,k24,(F24.binds (ps:=["_law_box_here","_law_many"]) fun _ _ _ _ _ _ us hl=>by apply ln2 hl;intros;rfl)⟩,mono_l_take,len_l_take⟩
 have C_l_folded:Cal l.prog w K mg base 1 "_law_folded" ["_law_script","_law_many"] jKy:=⟨⟨_,_,ok_l_folded T O F25  kVq,PySem.W.mg_of X G a25,k25,(F25.binds (ps:=["_law_script","_law_many"]) fun _ _ _ _ _ _ us hl=>by apply ln2 hl;intros;rfl)⟩,kXd,len_l_folded⟩
 have C_l_joined:Cal l.prog w K mg base 1 "_law_joined" ["_law_halves"] jK9:=⟨⟨_,_,ok_l_joined T O F26  kVp,PySem.W.mg_of X G a26,k26,(F26.binds (ps:=["_law_halves"]) fun _ _ _ _ _ _ us hl=>by apply ln1 hl;intros;rfl)⟩,kXc,len_l_joined⟩
 have C_l_doors_put:Cal l.prog w K mg base 2 "_law_doors_put" ["_law_box_here","_law_pairs","_law_many"] jKc:=⟨⟨_,_,kQz T O F27 C_l_take C_l_joined kJn,PySem.W.mg_of X G a27,k27,(F27.binds (ps:=["_law_box_here","_law_pairs","_law_many"]) fun _ _ _ _ _ _ us hl=>by apply ln3 hl;intros;rfl)⟩,kJv,kKy⟩
 have C_l_web:Cal l.prog w K mg base 3 "_law_web" ["_law_box_here","_law_many","_law_most"] jUw:=⟨⟨_,_,ok_l_web T O F28 C_l_take C_l_doors_put rdok_l_web,PySem.W.mg_of X G a28,k28,(F28.binds (ps:=["_law_box_here","_law_many","_law_most"]) fun _ _ _ _ _ _ us hl=>by apply ln3 hl;intros;rfl)⟩,mono_l_web,len_l_web⟩
 have C_l_ring:Cal l.prog w K mg base 1 "_law_ring" ["_law_many"] jQt:=⟨⟨_,_,ok_l_ring T O F29  rdok_l_ring,PySem.W.mg_of X G a29,k29,(F29.binds (ps:=["_law_many"]) fun _ _ _ _ _ _ us hl=>by apply ln1 hl;intros;rfl)⟩,mono_l_ring,len_l_ring⟩
 have C_l_ends:Cal l.prog w K mg base 1 "_law_ends" ["_law_web_here"] jQm:=⟨⟨_,_,ok_l_ends T O F30  rdok_l_ends,PySem.W.mg_of X G a30,k30,(F30.binds (ps:=["_law_web_here"]) fun _ _ _ _ _ _ us hl=>by apply ln1 hl;intros;rfl)⟩,mono_l_ends,len_l_ends⟩
 have C_l_reached:Cal l.prog w K mg base 1 "_law_reached" ["_law_web_here","_law_room"] jKu:=⟨⟨_,_,ok_l_reached T O F31  kQs,PySem.W.mg_of X G a31,k31,(F31.binds (ps:=["_law_web_here","_law_room"]) fun _ _ _ _ _ _ us hl=>by apply ln2 hl;intros;rfl)⟩,kQ6,kXi⟩
 have C_l_sheeted:Cal l.prog w K mg base 2 "_law_sheeted" ["_law_web_here","_law_turns","_law_many"] jKt:=⟨⟨_,_,ok_l_sheeted T O F32 C_l_ends kQr,PySem.W.mg_of X G a32,k32,(F32.binds (ps:=["_law_web_here","_law_turns","_law_many"]) fun _ _ _ _ _ _ us hl=>by apply ln3 hl;intros;rfl)⟩,kQ5,kXh⟩
 have C_l_turn:Cal l.prog w K mg base 2 "_law_turn" ["_law_box_here","_law_many","_law_own"] jQ6:=⟨⟨_,_,ok_l_turn T O F33 C_l_take rdok_l_turn,PySem.W.mg_of X G a33,k33,(F33.binds (ps:=["_law_box_here","_law_many","_law_own"]) fun _ _ _ _ _ _ us hl=>by apply ln3 hl;intros;rfl)⟩,mono_l_turn,len_l_turn⟩
 have C_l_covered:Cal l.prog w K mg base 3 "_law_covered" ["_law_box_here","_law_web_here","_law_many"] jKv:=⟨⟨_,_,ok_l_covered T O F34 C_l_ends C_l_turn C_l_sheeted C_l_reached kQt,PySem.W.mg_of X G a34,k34,(F34.binds (ps:=["_law_box_here","_law_web_here","_law_many"]) fun _ _ _ _ _ _ us hl=>by apply ln3 hl;intros;rfl)⟩,kQ7,kXj⟩
 have C_l_two:Cal l.prog w K mg base 4 "_law_two" ["_law_box_here"] jUi:=⟨⟨_,_,ok_l_two T O F35 C_l_take C_l_ring C_l_web C_l_covered rdok_l_two,PySem.W.mg_of X G a35,k35,(F35.binds (ps:=["_law_box_here"]) fun _ _ _ _ _ _ us hl=>by apply ln1 hl;intros;rfl)⟩,mono_l_two,len_l_two⟩
 have C_l_walks:Cal l.prog w K mg base 1 "_law_walks" ["_law_web_here","_law_room","_law_many"] jQe:=⟨⟨_,_,ok_l_walks T O F36  rdok_l_walks,PySem.W.mg_of X G a36,k36,(F36.binds (ps:=["_law_web_here","_law_room","_law_many"]) fun _ _ _ _ _ _ us hl=>by apply ln3 hl;intros;rfl)⟩,mono_l_walks,len_l_walks⟩
 have C_l_ways_of:Cal l.prog w K mg base 1 "_law_ways_of" ["_law_doors","_law_deep"] jKn:=⟨⟨_,_,ok_l_ways_of T O F37  kQq,PySem.W.mg_of X G a37,k37,(F37.binds (ps:=["_law_doors","_law_deep"]) fun _ _ _ _ _ _ us hl=>by apply ln2 hl;intros;rfl)⟩,kQ4,kXg⟩
 have C_l_least:Cal l.prog w K mg base 3 "_law_least" ["_law_one","_law_a","_law_other","_law_b","_law_way"] jK5:=⟨⟨_,_,ok_l_least T O F38 C_seen_with_stone C_l_ways_of C_l_walks rdok_l_least,PySem.W.mg_of X G a38,k38,(F38.binds (ps:=["_law_one","_law_a","_law_other","_law_b","_law_way"]) fun _ _ _ _ _ _ us hl=>by apply ln5 hl;intros;rfl)⟩,mono_l_least,len_l_least⟩
 exact ok_law T O F39 C_l_folded C_l_box C_l_two C_l_take C_parting_with_stone C_same_web C_mapped C_Walker_init C_l_least C_parting rdok_law
theorem fr_of {K:PySem.W.Frag} {H:Hp} {a:Addr} {xs:List V} (hO:Only H) (hS:SqL K H a xs):FrL K H a xs:=by
 rcases hS with h | h
 ·rcases h with h | ⟨ob,h⟩
  ·rcases hO a with z | ⟨o,ys,z⟩
   ·rw[z] at h;cases h
   ·rw[z] at h;cases h
  ·exact .inl ⟨ob,h⟩
 ·exact .inr h
theorem jUk {K:PySem.W.Frag} {H:Hp}:∀ns:List Int,Reps K H (jKr ns) (ns.map V.int)
 | []=>rfl
 | n::ns=>⟨_,_,rfl,rfl,jUk ns⟩
theorem walk {l:PySem.W.OpenLaw} {q:Program} {loose:List Str} {XP:(Str->Option Value)->Heap->Prop} {YP:World->Heap->Prop} {d:DefRec} {K:Params->PySem.W.Frag} (hn:l.most=some 63) (hdf:d.params.defaults=[])
  (hY:∀(w:World) (h:Heap),YP w h->(K w.params).In h)
  (F:∀(w:World) (mg:Str->Option Value) (fa:Addr) (h:Heap),(K w.params).In h->h.Ns mainGlobals mg->mg d.name=some (.ref fa)->
   ∃fd:FuncData,(∀(s:Shared) (u:Value),BindsTo s fd ⟨[u],[]⟩ [("_law_script",u)])/\∀base:Heap,(K w.params).In base->base.Ns mainGlobals mg->FnOk l.prog w (K w.params) mg base CX0 8 fa fd ["_law_script"] (spLaw (K w.params))):
  PySem.W.WalkO q loose XP YP l.row.toRowW d [] (fun f vs=>PySem.call f vs):=
 L2.walk_of (n:=63) (k:=8) (x:="_law_script") (CX:=fun _=>CX0) (sp:=fun w=>spLaw (K w.params)) hn (by decide) hdf ⟨rfl,rfl,by decide,by decide⟩ hY F
  (fun _ _ a ns hl hO hS=>⟨rfl,[.scr (jKr ns)],fun _=>none,⟨_,_,rfl,⟨a,_,rfl,fr_of hO hS,jUk ns⟩,rfl⟩,(fun _ _ h=>nomatch h),ns,rfl,hl,fun G' v H' _ _ r=>r⟩) fun _ _ _ _ _ z=>z
end W
def PySem.W.Fast.tw7349302168026285353 : Unit := ()
def PySem.W.Fast.tw13237582909931763969 : Unit := ()
def PySem.W.Fast.tw10080194123316972716 : Unit := ()
def PySem.W.Fast.tw9059860786482559082 : Unit := ()
def PySem.W.Fast.tw3458179192379650842 : Unit := ()
def PySem.W.Fast.tw10672209158209350927 : Unit := ()
def PySem.W.Fast.tw3096367704813722821 : Unit := ()
def PySem.W.Fast.tw5299610575216440975 : Unit := ()
def PySem.W.Fast.tw1633833038932752668 : Unit := ()
def PySem.W.Fast.tw11187282898164333724 : Unit := ()
def PySem.W.Fast.tw8581113575959082232 : Unit := ()
def PySem.W.Fast.tw14597887514030140746 : Unit := ()
def PySem.W.Fast.tw13903936043738748252 : Unit := ()
def PySem.W.Fast.tw11299657326140563995 : Unit := ()
def PySem.W.Fast.tw11105212596826759802 : Unit := ()
def PySem.W.Fast.tw3478883029792360186 : Unit := ()
def PySem.W.Fast.tw17891255385417807256 : Unit := ()
def PySem.W.Fast.tw1349164716820392483 : Unit := ()
def PySem.W.Fast.tw3748658385505760262 : Unit := ()
def PySem.W.Fast.tw4287044320887490112 : Unit := ()
def PySem.W.Fast.tw6787897527339269077 : Unit := ()
def PySem.W.Fast.tw8222791669328331659 : Unit := ()
def PySem.W.Fast.tw14441415288395686673 : Unit := ()
open PySem PySem.W PyProof.Rows
set_option maxRecDepth 100000 in
set_option maxHeartbeats 0 in
theorem PySem.Challenge.cw_stonewalker_k86_whole_told_by_one_stone_holds : PySem.Challenge.rw_stonewalker_k86_whole_told_by_one_stone.Holds := by
 w_on;o_law;k_head;(case hw=>w_witness2)
 k_fill
 refine W.walk (l:=PySem.Challenge.rw_stonewalker_k86_whole_told_by_one_stone) rfl rfl (fun w h Y=>PySem.W.kIn_of Y) ?F
 case F=>
  intro w mg fa h KX G hmg
  refine' W.all_mk KX G hmg ?aC0 ?pg0 ?hd0 ?po0 ?sa0 ?mk0 ?kc0 ?n_Walker_came ?n_Walker_held ?n_Walker_lying ?n_Walker_room ?n_Walker_walked ?n_Walker_web ?a0 ?i0 ?l0 ?c0 ?k0 ?a1 ?i1 ?l1 ?c1 ?k1 ?a2 ?i2 ?l2 ?c2 ?k2 ?a3 ?i3 ?l3 ?c3 ?k3 ?a4 ?i4 ?l4 ?c4 ?k4 ?a5 ?i5 ?l5 ?c5 ?k5 ?a6 ?l6 ?c6 ?k6 ?a7 ?l7 ?c7 ?k7 ?a8 ?l8 ?c8 ?k8 ?a9 ?l9 ?c9 ?k9 ?a10 ?l10 ?c10 ?k10 ?a11 ?l11 ?c11 ?k11 ?a12 ?l12 ?c12 ?k12 ?a13 ?l13 ?c13 ?k13 ?a14 ?l14 ?c14 ?k14 ?a15 ?l15 ?c15 ?k15 ?a16 ?l16 ?c16 ?k16 ?a17 ?l17 ?c17 ?k17 ?a18 ?l18 ?c18 ?k18 ?a19 ?l19 ?c19 ?k19 ?a20 ?l20 ?c20 ?k20 ?a21 ?l21 ?c21 ?k21 ?a22 ?l22 ?c22 ?k22 ?a23 ?l23 ?c23 ?k23 ?a24 ?l24 ?c24 ?k24 ?a25 ?l25 ?c25 ?k25 ?a26 ?l26 ?c26 ?k26 ?a27 ?l27 ?c27 ?k27 ?a28 ?l28 ?c28 ?k28 ?a29 ?l29 ?c29 ?k29 ?a30 ?l30 ?c30 ?k30 ?a31 ?l31 ?c31 ?k31 ?a32 ?l32 ?c32 ?k32 ?a33 ?l33 ?c33 ?k33 ?a34 ?l34 ?c34 ?k34 ?a35 ?l35 ?c35 ?k35 ?a36 ?l36 ?c36 ?k36 ?a37 ?l37 ?c37 ?k37 ?a38 ?l38 ?c38 ?k38 ?a39 ?l39 ?c39 ?k39 ?z_abs ?z_all ?z_dict ?z_divmod ?z_enumerate ?z_int ?z_len ?z_list ?z_max ?z_range ?z_reversed ?z_tuple ?z_zip
  (case aC0=>k_is);(case pg0=>k_is);(case hd0=>k_is);(case po0=>k_is);(case sa0=>k_is);(case mk0=>k_is);(case kc0=>k_is);(case n_Walker_came=>k_is);(case n_Walker_held=>k_is);(case n_Walker_lying=>k_is);(case n_Walker_room=>k_is);(case n_Walker_walked=>k_is);(case n_Walker_web=>k_is)
  (case a0=>k_is);(case i0=>k_is);(case l0=>k_is);(case c0=>k_is);(case k0=>k_is)
  (case a1=>k_is);(case i1=>k_is);(case l1=>k_is);(case c1=>k_is);(case k1=>k_is)
  (case a2=>k_is);(case i2=>k_is);(case l2=>k_is);(case c2=>k_is);(case k2=>k_is)
  (case a3=>k_is);(case i3=>k_is);(case l3=>k_is);(case c3=>k_is);(case k3=>k_is)
  (case a4=>k_is);(case i4=>k_is);(case l4=>k_is);(case c4=>k_is);(case k4=>k_is)
  (case a5=>k_is);(case i5=>k_is);(case l5=>k_is);(case c5=>k_is);(case k5=>k_is)
  (case a6=>k_is);(case l6=>k_is);(case c6=>k_is);(case k6=>k_is)
  (case a7=>k_is);(case l7=>k_is);(case c7=>k_is);(case k7=>k_is)
  (case a8=>k_is);(case l8=>k_is);(case c8=>k_is);(case k8=>k_is)
  (case a9=>k_is);(case l9=>k_is);(case c9=>k_is);(case k9=>k_is)
  (case a10=>k_is);(case l10=>k_is);(case c10=>k_is);(case k10=>k_is)
  (case a11=>k_is);(case l11=>k_is);(case c11=>k_is);(case k11=>k_is)
  (case a12=>k_is);(case l12=>k_is);(case c12=>k_is);(case k12=>k_is)
  (case a13=>k_is);(case l13=>k_is);(case c13=>k_is);(case k13=>k_is)
  (case a14=>k_is);(case l14=>k_is);(case c14=>k_is);(case k14=>k_is)
  (case a15=>k_is);(case l15=>k_is);(case c15=>k_is);(case k15=>k_is)
  (case a16=>k_is);(case l16=>k_is);(case c16=>k_is);(case k16=>k_is)
  (case a17=>k_is);(case l17=>k_is);(case c17=>k_is);(case k17=>k_is)
  (case a18=>k_is);(case l18=>k_is);(case c18=>k_is);(case k18=>k_is)
  (case a19=>k_is);(case l19=>k_is);(case c19=>k_is);(case k19=>k_is)
  (case a20=>k_is);(case l20=>k_is);(case c20=>k_is);(case k20=>k_is)
  (case a21=>k_is);(case l21=>k_is);(case c21=>k_is);(case k21=>k_is)
  (case a22=>k_is);(case l22=>k_is);(case c22=>k_is);(case k22=>k_is)
  (case a23=>k_is);(case l23=>k_is);(case c23=>k_is);(case k23=>k_is)
  (case a24=>k_is);(case l24=>k_is);(case c24=>k_is);(case k24=>k_is)
  (case a25=>k_is);(case l25=>k_is);(case c25=>k_is);(case k25=>k_is)
  (case a26=>k_is);(case l26=>k_is);(case c26=>k_is);(case k26=>k_is)
  (case a27=>k_is);(case l27=>k_is);(case c27=>k_is);(case k27=>k_is)
  (case a28=>k_is);(case l28=>k_is);(case c28=>k_is);(case k28=>k_is)
  (case a29=>k_is);(case l29=>k_is);(case c29=>k_is);(case k29=>k_is)
  (case a30=>k_is);(case l30=>k_is);(case c30=>k_is);(case k30=>k_is)
  (case a31=>k_is);(case l31=>k_is);(case c31=>k_is);(case k31=>k_is)
  (case a32=>k_is);(case l32=>k_is);(case c32=>k_is);(case k32=>k_is)
  (case a33=>k_is);(case l33=>k_is);(case c33=>k_is);(case k33=>k_is)
  (case a34=>k_is);(case l34=>k_is);(case c34=>k_is);(case k34=>k_is)
  (case a35=>k_is);(case l35=>k_is);(case c35=>k_is);(case k35=>k_is)
  (case a36=>k_is);(case l36=>k_is);(case c36=>k_is);(case k36=>k_is)
  (case a37=>k_is);(case l37=>k_is);(case c37=>k_is);(case k37=>k_is)
  (case a38=>k_is);(case l38=>k_is);(case c38=>k_is);(case k38=>k_is)
  (case a39=>k_is);(case l39=>k_is);(case c39=>k_is);(case k39=>k_is)
  (case z_abs=>k_is);(case z_all=>k_is);(case z_dict=>k_is);(case z_divmod=>k_is);(case z_enumerate=>k_is);(case z_int=>k_is);(case z_len=>k_is);(case z_list=>k_is);(case z_max=>k_is);(case z_range=>k_is);(case z_reversed=>k_is);(case z_tuple=>k_is);(case z_zip=>k_is)
